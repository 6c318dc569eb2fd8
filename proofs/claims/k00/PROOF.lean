import PyProof.Rows.All
import Wide.All
import OpenK.AllK
import Wide.FinOn
import KE.KExcIs
import HandS.ForMost
import HandS.ForExc
import HandS.Wide
import HandS.Defaults
import HandS.IsInst
import HandS.ExcIs
import HandS.ExcOwn
import HandS.ExcValue
import HandS.ExcInit
import HandS.MakeKw
import HandS.MakeKwOnly
import HandS.Lambda
import HandS.TryOnly
import HandS.ClsMeth
import HandS.HeadWalk
import HandS.ExcField
import KE.GoesEnum
import HandS.Walk
import Lean
import KE.KStateDown
import HandS.More
import HandS.Words
import HandS.WordsExc
import HandS.Head0
import HandS.Head1
import HandS.Head2
import HandS.HeadEnd
import HandS.HeadHook1
import HandS.HeadHook2
import HandS.HeadHook4
import HandS.Zip
import HandS.ExcBuiltin
import HandS.Style
import HandS.TupAny
import HandS.EndOwn
import HandS.Small
import HandS.TupLe
import PySem.Challenge.RW_etasure_k00_rows_added_multiplied_raised
set_option Elab.async false
set_option linter.all false
set_option maxRecDepth 100000
set_option maxHeartbeats 4000000
set_option pp.maxSteps 3000
namespace Xv
open PySem PySem.Spec PyProof.Rows L2
/-! ### errors of own classes as values -/
/-- at a an error of the class at C: without a dict, or with its dict at d -/
def ErrAt (H : Hp) (a C : Addr) : Prop := H a = some (ExO (.ref C) a) ∨ ∃ d fs, H a = some (exo a C (some d)) ∧ H d = some (exd d fs)
section
variable {X : Cx} {pins : List (Addr × Obj)} {σ : L2.St} {H : Hp} {s : Shared} {a C : Addr}
theorem errAt_inst (I : Inv X pins σ H s) (h : ErrAt H a C) : ∃ ox od, PySem.W.InstAt s.heap a ox C od := by
  rcases h with h | ⟨d, fs, h, hd⟩
  · have q : ObjOk X.prog X.w H s.heap a (ExO (.ref C) a) := I.hok a _ h
    obtain ⟨⟨oe, vs, e, z, dt, _⟩, _⟩ := q
    obtain ⟨oc, od, oda, osl⟩ := oe
    obtain ⟨z1, z2⟩ := z
    dsimp only at z1 z2 dt
    subst z1 z2 dt
    exact ⟨_, none, e, rfl, rfl, trivial⟩
  · obtain ⟨t1, ho⟩ := exo_at I.hok h
    obtain ⟨mA, ⟨od, es, ep, e2, _⟩, _⟩ := exd_at I.hok hd
    exact ⟨_, some od, ho, rfl, rfl, e2⟩
/-- isinstance(e, c), e such an error -/
def rIsErr (K : PySem.W.Frag) : List V → Hp → VK → Prop := fun xs H Q => ∃ (a C : Addr) (c : V) (cv : Value) (b : Bool), xs = [.ref a, c] ∧ ErrAt H a C ∧ ExcC K C ∧ (∀ u, RelV c u → u = cv) ∧ PySem.W.kitOne K (.ref C) cv = some b ∧ Q (.bl b) H
theorem call_isErr : CallR X (.builtin "isinstance") (rIsErr X.K) := by
  intro pins s σ H xs us Q I r h
  obtain ⟨a, C, c, cv, b, rfl, he, T, hc, hk, q⟩ := h
  obtain ⟨u1, u2, rfl, r1, r2⟩ := vals2 r
  cases (show u1 = Value.ref a from r1)
  have e2 := hc _ r2
  subst e2
  obtain ⟨ox, od, J⟩ := errAt_inst I he
  obtain ⟨cd, hcd, _⟩ := PySem.W.any_some T.hd
  exact PySem.W.kia_one (PySem.W.kitx_exc (by rw [hcd]; rfl) T.hg T.hk T.hs T.ha T.hn T.ht T.hm) I.kIn J hk (fun z => nomatch z) fun tk => ⟨.bl b, H, I.tok tk, rfl, q⟩
end
/-! ### e.f of an error that holds its fields -/
structure ErrRd (K : PySem.W.Frag) (C : Addr) (f : Str) : Prop where
  ga : PySem.W.findIn K (.ref C) "__getattribute__" = some (some (.builtin "BaseException.__getattribute__"))
  gg : PySem.W.findIn K (.ref C) "__getattr__" = some none
  sub : PySem.W.subIn K (.ref C) (.type "BaseException") = some true
  hd : PySem.W.hasDictIn K C = true
  no : PySem.W.findIn K (.ref C) f = some none
def tErrF (K : PySem.W.Frag) (f : Str) (te : TE) : TE := fun σ H Q => te σ H fun x H1 => ∃ (a C d : Addr) (fs : List (Str × V)) (v : V), x = .ref a ∧ H1 a = some (exo a C (some d)) ∧ H1 d = some (exd d fs) ∧ ErrRd K C f ∧ fs.lookup f = some v ∧ Q v H1
section
variable {X : Cx}
theorem pe_errF {e : Expr} {te : TE} {f : Str} {pos : Pos} (he : PE X e te) (hb : attributeBase e f X.env (eval e X.env) = eval e X.env := by rfl) : PE X (.Attribute e f pos) (tErrF X.K f te) := by
  refine ⟨fun pins s σ H Q I h => attr_of hb (thn (he.run pins s σ H _ I h) fun u s1 hh => ?_)⟩
  obtain ⟨x, H1, I1, rx, a, C, d, fs, v, ex, ha, hd, T, hl, q⟩ := hh
  subst ex
  cases (show u = Value.ref a from rx)
  obtain ⟨t1, ho⟩ := exo_at I1.hok ha
  obtain ⟨mA, hns, hr⟩ := exd_at I1.hok hd
  obtain ⟨od, hod, hlk⟩ := lookIn_ns hns
  obtain ⟨u, hu, ru⟩ := RelO.some_of (v := v) (o := mA f) (by rw [← hl]; exact hr f)
  have J : PySem.W.InstAt s1.heap a _ C (some od) := ⟨ho, rfl, rfl, hod⟩
  exact PySem.HandSPX.exc_get I1.kIn J T.ga T.gg T.sub (PySem.W.findObj_own T.hd T.no rfl (by rw [hlk, hu])) (handed_of ru) ⟨v, H1, I1.tok _, ru, q⟩
end
/-! ### S.__init__(self, ..), S an own class over ValueError without an __init__ of its own -/
section
variable {X : Cx} {o e : Expr} {es : List Expr} {ta : TA} {x : Str} {p1 p2 pos : Pos}
theorem pe_sinit {S : Addr} {mc : Value} {pl : Sem Bool} (hg : Gl X x) (hm : X.mg x = some (.ref S)) (kS : PySem.W.keepIn X.K (.ref S) = true) (rd : PySem.W.readsIn X.K S mc = true) (sg : PySem.W.specialIn X.K (.ref S) "__getattribute__" = some (some (.builtin "type.__getattribute__")))
    (vV : PySem.W.findCls X.K (.ref S) mc "__init__" = some (.val (.builtin "ValueError.__init__"))) (ha : PA X (e :: es) ta) (hdb : (x == ("__debug__" : Str)) = false := by decide)
    (hc : eval (.Call (.Attribute (.Name x p1) "__init__" p2) (e :: es) [] pos) X.env = (do
      let ov ← eval (.Name x p1) X.env
      standAt p2.atName
      let (f, first) ← holding [ov] (getMethod ov "__init__" pl)
      callWith pos f first (backTo pos (starEach (e :: es) X.env)) (backToKw pos (keywordEach [] X.env))) := by rfl)
    (he : starEach (e :: es) X.env = (false, eval e X.env) :: starEach es X.env := by rfl) (hpl : (backTo pos (starEach es X.env)).any (·.1) = false := by rfl) :
    PE X (.Call (.Attribute (.Name x p1) "__init__" p2) (e :: es) [] pos) (tVeI X.K ta) := by
  refine ⟨fun pins s σ H Q I h => PySem.W.methodCall_KW (ld_glob I hg hm ?_ hdb) hc⟩
  refine PySem.W.method_cls I.kIn sg (PySem.W.cls_value I.kIn rd vV (by decide +kernel) ?_)
  show wpAny _ _ (callWith pos (Value.builtin "ValueError.__init__") [] (backTo pos (starEach (e :: es) X.env)) []) _ _ _
  refine PyProof.Rows.callWith_method1 (thn (ha.run pos pins _ σ H _ (I.tok _) h) fun us s1 hh => ?_) he hpl
  obtain ⟨vs, H1, I1, r1, a, C, ws, ev, hl, T, ea, q⟩ := hh
  subst ev
  cases r1 with
  | @cons _ u0 _ ur ra rw' =>
    cases (show u0 = Value.ref a from ra)
    have hlen : ur.length ≤ sizeLine := by
      have e1 := Paired.length rw'
      rw [sizeLine_eq]
      omega
    exact oinit_ok T I1 ea hlen fun s' J => ⟨.non, H1, J, rfl, q⟩
end
/-! ### C(e, ..) of such a class as a value, its own __init__ walked as a def -/
def tErrV (C : Addr) (sp : Sp) (E : XK) (ta : TA) : TE := fun σ H Q => ta σ H fun vs H1 => vs.length ≤ 1000 ∧ ∀ a, H1 a = none → sp (.ref a :: vs) (upd H1 a (exo a C none)) (fun v H2 => v = .non ∧ Q (.ref a) H2) E
section
variable {X : Cx} {e : Expr} {es : List Expr} {ta : TA} {x : Str} {p pos : Pos}
theorem pe_errV {CX : CXT} {C fI : Addr} {k : Nat} {fd : FuncData} {ps : List Str} {sp : Sp} {E : XK} (T : OexC X.K C) (iC : PySem.W.findIn X.K (.ref C) "__init__" = some (some (.ref fI))) (tI : PySem.W.typeIn X.K (.ref fI) = some (.type "function"))
    (F1 : FnOk X.prog X.w X.K X.mg X.base CX k fI fd ps sp) (hr : Room (k + 1) X.A) (hb : Binds X.K fd ps []) (hx : Passes CX X E) (hg : Gl X x) (hm : X.mg x = some (.ref C)) (ha : PA X (e :: es) ta)
    (hdb : (x == ("__debug__" : Str)) = false := by decide) (he : starEach (e :: es) X.env = (false, eval e X.env) :: starEach es X.env := by rfl) (hpl : (backTo pos (starEach es X.env)).any (·.1) = false := by rfl) :
    PE X (.Call (.Name x p) (e :: es) [] pos) (tErrV C sp E ta) := by
  refine ⟨fun pins s σ H Q I h => wpAny_Call_Name_kw (ld_glob I hg hm ?_ hdb)⟩
  obtain ⟨nm, q, N, bs, bm, sn, sub, ab, col, dd, k0, k1, k2, k3, k5, hC, hbm⟩ := T.cls
  refine PySem.W.callWith_K (h₀ := X.base) I.ok.mod.kin T.kC (thn (ha.run pos pins s σ H _ I h) fun us s1 hh => ?_) he hpl
  obtain ⟨vs, H1, I1, r1, hz, q1⟩ := hh
  refine ⟨I1.kIn, ?_⟩
  show wpAny _ _ (call (.ref C) us) _ _ _
  obtain ⟨hp, g, dr, tk, os⟩ := s1
  have hq := q1 (hp.objs.size + 1) (I1.hok.fresh (Nat.le_succ _))
  have I2 : Inv X pins σ (upd H1 (hp.objs.size + 1) (exo (hp.objs.size + 1) C none)) ⟨(hp.push (PySem.W.kdv_tup us)).push (PySem.HandSPX.excO C hp.objs.size), g, dr, tk, os⟩ :=
    I1.laid (t' := tk) (fun b o z => Heap.get?_push_of_some _ (Heap.get?_push_of_some _ z)) (Nat.le_succ _) (L2.exo_ok (by heap_get))
  have r2 : Vals (V.ref (hp.objs.size + 1) :: vs) (Value.ref (hp.objs.size + 1) :: us) := .cons rfl r1
  have hl : (Value.ref (hp.objs.size + 1) :: us).length = ps.length := by rw [← r2.length]; exact F1.len _ _ _ _ hq
  have hb2 := hb _ (Value.ref (hp.objs.size + 1) :: us) I2.kIn (by simpa using hl)
  rw [List.append_nil] at hb2
  have hus : us.length ≤ sizeLine := by
    have e1 := Paired.length r1
    rw [sizeLine_eq]
    omega
  refine wpAny_call (PySem.HandSPX.call_own F.excBase_ValueError (fun Y => PySem.HandSPX.refsVE_contains Y bm hbm) (I1.kIn _ _ hC) (PySem.W.looks_findIn I1.kIn iC) (fun self => PySem.W.bind_fn I1.kIn self tI) hus (codeAny_mono
    (F1.run _ X.stack _ _ ⟨_, []⟩ _ _ _ E (hr.make C us []) (I2.env0.make C us []) hb2 r2 hq) fun r s' hq' => ?_))
  rcases r with er | fl
  · exact hx pins σ _ _ er s' I2 hq'
  · cases fl with
    | ret u =>
      obtain ⟨v, H', I3, rv, ev, q3⟩ := I2.after hq'
      subst ev
      exact ⟨rv, ⟨V.ref (hp.objs.size + 1), H', I3, rfl, q3⟩⟩
    | next => exact hq'.elim
    | brk => exact hq'.elim
    | cont => exact hq'.elim
end
end Xv

set_option Elab.async false
set_option linter.all false
set_option maxRecDepth 100000
set_option maxHeartbeats 4000000
set_option pp.maxSteps 3000
/-! try: .. except x as n: suite, the exception known behind the try -/
namespace Xv
open PySem PySem.Spec PyProof.Rows L2
/-- at a an exception of the class cls, its dict d -/
def ErX (cls : Value) (d : Option Addr) (a : Addr) : HO := .ext fun h => ∃ (oe : Obj) (vs : Array Value), h.get? a = some oe ∧ Zc cls d oe ∧ oe.data = .fields vs
section
variable {X : Cx} {pins : List (Addr × Obj)} {σ : L2.St} {H : Hp} {s : Shared} {a : Addr} {oe : Obj} {vs : Array Value} {cls : Value} {d : Option Addr}
/-- a pinned exception that was not there at the entry is tracked -/
theorem track (I : Inv X ((a, oe) :: pins) σ H s) (hex : X.ex = []) (n0 : X.s_0.heap.get? a = none) (hz : Zc cls d oe) (hd : oe.data = .fields vs) (hA : ∀ p ∈ X.pn ++ pins, p.1 ≠ a) : Inv X pins σ (upd H a (ErX cls d a)) s := by
  obtain ⟨ha, hn, nL, nF, _⟩ := I.pin (a, oe) (List.mem_append_right _ List.mem_cons_self)
  have old : ∀ b o, X.s_0.heap.get? b = some o → b ≠ a := fun b o e z => by
    rw [z, n0] at e
    cases e
  have nl : X.env.locals ≠ a := fun z => nL z.symm
  have cl : ∀ x c, X.env.cells.lookup x = some c → c ≠ a := fun x c e z => by
    obtain ⟨v, o, q1, q2⟩ := I.cell x c e
    rw [z] at q1
    have ha' : s.heap.get? a = some oe := ha
    rw [ha'] at q1
    cases q1
    rw [hd] at q2
    cases q2
  have J : Inv X pins σ H s := ClX.unpin I
  refine ⟨J.ok, J.os, J.bare, ⟨J.base.keep, J.base.slot, fun b o e n hx => ?_, J.base.there, fun b xs e => ?_, fun b o u e => ?_, fun b ps e => ?_⟩, J.loc, J.cell, ?_, fun x c e => ?_, fun p hp => ?_, fun b o e => ?_, J.len⟩
  · rw [upd_ne (old b o e)]
    exact J.base.free b o e n hx
  · have q := J.base.tups b xs e
    rw [upd_ne (ne_of_none q hn)]
    exact q
  · have q := J.base.frzs b o u e
    rw [upd_ne (ne_of_none q hn)]
    exact q
  · obtain ⟨more, q⟩ := J.base.tbls b ps e
    exact ⟨more, by rw [upd_ne (ne_of_none q hn)]; exact q⟩
  · rw [upd_ne nl]
    exact J.free
  · rw [upd_ne (cl x c e)]
    exact J.freeC x c e
  · obtain ⟨e1, e2, e3, e4, e5⟩ := J.pin p hp
    exact ⟨e1, by rw [upd_ne (hA p hp)]; exact e2, e3, e4, e5⟩
  · by_cases hb : b = a
    · subst hb
      rw [upd_same] at e
      cases e
      exact ⟨⟨oe, vs, ha, hz, hd⟩, ⟨oe, ha⟩, fun h1 h2 q k => by
        obtain ⟨o, w, q1, q2⟩ := q
        exact ⟨o, w, k o q1, q2⟩⟩
    · rw [upd_ne hb] at e
      exact (J.hok b o e).stay (fun c v _ q => q) (fun c q => by rw [upd_ne (ne_of_none q hn)]; exact q) fun c xs q => by rw [upd_ne (ne_of_none q hn)]; exact q
end
/-- what the clause wishes of an exception of the body: behind the suite the exception is known -/
def wKeep (K : PySem.W.Frag) (len : Nat) (c : Value) (i : Nat) (ts : TS) (Wout : WX) (D : Ends) : WX := fun cls d σ H => σ.length = len → ∃ b, PySem.W.exmOne K cls c = some b ∧
  (b = true → ∀ a, H a = none → ts { nx := fun σ' H' => D.nx (σ'.set i none) (upd H' a (ErX cls d a)), rt := fun _ _ => False, bk := fun _ _ => False, ct := fun _ _ => False } (σ.set i (some (.ref a))) H) ∧ (b = false → Wout cls d σ H)
section
variable {X : Cx} {x n : Str} {c : Value} {i : Nat} {body suite : List Stmt} {b0 : Stmt} {np pos pos' : Pos} {tb : WX → TS} {ts : TS} {Wout : WX}
theorem ps_try_keep (hs : X.stack = X.env :: X.outer) (hf : X.env.frame = some X.env.locals) (hN : X.N.Nodup) (hex : X.ex = []) (hi : X.N[i]? = some n) (hln : X.env.kindOf n = some .local) (hc : Names X x c) (tk : Takes X Wout)
    (hb : ∀ (W : WX) (pn : List (Addr × Obj)) (xe : Value → Shared → Prop), Takes (X.tr pn xe) W → PSs (X.tr pn xe) body (tb W)) (hsu : ∀ (a : Addr) (oe : Obj) (pn : List (Addr × Obj)), PSs (X.suite a ((a, oe) :: pn)) (b0 :: suite) ts) :
    PS X (.Try body [.ExceptHandler (some (.Name x np)) (some n) (b0 :: suite) pos'] [] [] pos) (fun D σ H => tb (wKeep X.K X.N.length c i ts Wout D) D σ H) := by
  refine ⟨fun pins s σ H D I h => ?_⟩
  have ok := I.ok
  have frm : X.A.frames = some (X.env :: X.outer) := by
    rw [ok.frames, hs]
  refine wpAny_Try_except (wpAny_mono ((hb (wKeep X.K X.N.length c i ts Wout D) (X.pn ++ pins) (fun e s1 => wpAny (model X.prog X.w) X.A (noteFrame e X.env) (fun _ s2 => wpAny (model X.prog X.w) X.A (setFlight e none) (fun _ s3 => wpAny (model X.prog X.w) X.A
    (handleBy e X.env [.ExceptHandler (some (.Name x np)) (some n) (b0 :: suite) pos']) (SP X pins D) X.xe s3) X.xe s2) X.xe s1) (fun u s' xx => ?_)).run [] s σ H D (I.toTry _) h) (fun f s1 hsp => ?_) (fun _ _ he => he))
  · obtain ⟨a, B, sI, pins', σ', H', cls, d, rfl, J', nb, up, sky, na, os, ag, hw⟩ := xx
    obtain ⟨b, hb1, hyes, hno⟩ := hw J'.len
    have J : Inv X pins σ' H' sI := J'.ofTry ok
    rw [hs] at sky
    refine Sky.land Zc.steady frm hf sky fun h3 fl3 up3 => ?_
    have J3 : Inv X pins σ' H' { s' with heap := h3 } := J.landed nb fl3.1 (up.trans up3) os ag
    obtain ⟨oe3, vs3, he3, hz3, hd3⟩ := fl3.there
    have nfr : a ∉ frs (X.env :: X.outer) := fun hm => by
      obtain ⟨_, o', e', hnf⟩ := fl3.2.2.1.mem hm
      rw [he3] at e'
      cases e'
      exact hnf _ hd3
    have nL : a ≠ X.env.locals := fun z => nfr (List.mem_filterMap.mpr ⟨X.env, List.mem_cons_self, by rw [hf, z]⟩)
    have nF : a ∉ X.fs := fun hm => by
      obtain ⟨e, he, q⟩ := List.mem_filterMap.mp hm
      exact nfr (List.mem_filterMap.mpr ⟨e, List.mem_cons_of_mem _ he, q⟩)
    have notB : B.get? a = none := fl3.2.1
    have onB : ∀ b o, sI.heap.get? b = some o → b ∉ frs (X.env :: X.outer) → b ≠ a := fun b o e hm z => by
      have q := nb b o e (by rw [hs]; exact hm)
      rw [z, notB] at q
      cases q
    have n0 : X.s_0.heap.get? a = none := by
      cases e : X.s_0.heap.get? a with
      | none => rfl
      | some o =>
        obtain ⟨o', q⟩ := J.base.there a o e (by rw [hex]; exact fun z => nomatch z)
        exact absurd rfl (onB a o' q nfr)
    have nP : ∀ p ∈ X.pn ++ pins, p.1 ≠ a := fun p hp => by
      obtain ⟨e1, _, e3, e4, _⟩ := J.pin p hp
      refine onB p.1 p.2 e1 fun hm => ?_
      rcases List.mem_cons.mp (show p.1 ∈ X.env.locals :: frs X.outer from by
        have q : frs (X.env :: X.outer) = X.env.locals :: frs X.outer := by
          show (X.env :: X.outer).filterMap (·.frame) = _
          rw [List.filterMap_cons, hf]
          rfl
        rw [← q]
        exact hm) with z | z
      · exact e3 z
      · exact e4 z
    have S3 := J3.suite he3 hd3 na nL nF
    refine wpAny_handleBy_cons (codeAny_handlers_test ?_) (by intro q; cases q)
    have LT : PySem.W.Looks (model X.prog X.w) h3 (typeOf (.ref a)) cls := fun A Q E s k q => wpAny_typeOf_ref (k _ _ he3) (by rw [hz3.1]; exact q)
    have LM := PySem.W.exm_one (M := model X.prog X.w) (J3.kIn) LT hb1
    have test : ∀ {Q : Value → Shared → Prop} {E : Value → Shared → Prop}, Q c { s' with heap := h3 } → wpAny (model X.prog X.w) (X.A.mark (some (.ref a))) (eval (.Name x np) X.env) Q E { s' with heap := h3 } := by
      intro Q E q
      obtain ⟨hg, hdbg, hm | ⟨hm, hv, hnn⟩⟩ := hc
      · exact ld_glob (X := X.suite a ((a, oe3) :: (X.pn ++ pins))) S3 hg hm q hdbg
      · exact ld_blt (X := X.suite a ((a, oe3) :: (X.pn ++ pins))) S3 hg hm hv q hnn hdbg
    refine test (LM.here ?_)
    cases b with
    | true =>
      refine codeAny_handlers_suite_as (HandSPX.lands_againZ fl3 fun h4 fl4 up4 => ?_)
      have J4 : Inv X pins σ' H' { s' with heap := h4 } := J.landed nb fl4.1 ((up.trans up3).trans up4) os ag
      obtain ⟨oe4, vs4, he4, hz4, hd4⟩ := fl4.there
      refine store_ok (X := X.suite a ((a, oe4) :: (X.pn ++ pins))) (v := .ref a) (J4.suite he4 hd4 na nL nF) hN hi (.inl hln) rfl (fun s5 S5 => ?_) (.inr hln)
      refine wpAny_mono ((hsu a oe4 (X.pn ++ pins)).run [] s5 _ H' _ S5 (hyes rfl a na)) (fun f s6 hsp => ?_) (fun _ _ z => False.elim z)
      cases f with
      | next =>
        obtain ⟨σ6, H6, S6, q6⟩ := hsp
        have P6 : Inv X ((a, oe4) :: pins) σ6 H6 s6 := (S6.unsuite ok).pins_of fun p hp => by
          rcases List.mem_cons.mp hp with z | z
          · rw [z]
            exact S6.pin (a, oe4) (List.mem_append_left _ List.mem_cons_self)
          · exact S6.pin p (List.mem_append_left _ (List.mem_cons_of_mem _ (List.mem_append_right _ z)))
        exact gone_ok P6 hN hi hln fun s7 J7 => ⟨_, _, track J7 hex n0 hz4 hd4 nP, q6⟩
      | brk =>
        obtain ⟨_, _, _, q6⟩ := hsp
        exact q6.elim
      | cont =>
        obtain ⟨_, _, _, q6⟩ := hsp
        exact q6.elim
      | ret u =>
        obtain ⟨_, _, _, _, _, q6⟩ := hsp
        exact q6.elim
    | false =>
      show wpAny _ X.A (handleBy (.ref a) X.env []) _ _ _
      refine wpAny_handleBy_nil ?_
      obtain ⟨k1, k2, k3, oe, vs, T, oT, ts', he, hz, hd, h1, hr⟩ := id fl3
      unfold PySem.passOn
      refine wpAny_bind (wpAny_field he hd h1 ?_)
      rw [if_neg (show ¬ ((Value.ref T == Value.none) = true) from by simp)]
      have fin : wpAny (model X.prog X.w) X.A (setFlight (.ref a) X.env.frame) (fun _ s4 => wpAny (model X.prog X.w) X.A (throw (.ref a) : Sem Flow) (SP X pins D) X.xe s4) X.xe { s' with heap := h3 } := by
        rw [hf]
        exact HandSPX.setFlight_upZ fl3 fun h4 hh4 up4 => wpAny_throw (tk _ _ ⟨a, B, sI, pins, σ', H', cls, d, rfl, J, nb, (up.trans up3).trans up4, .inr (.inr (by rw [hs]; exact hh4)), na, os, ag, hno rfl⟩)
      first
        | exact wpAny_bind (wpAny_pure (wpAny_bind fin))
        | exact wpAny_bind fin
  · cases f with
    | next =>
      obtain ⟨σ', H', J', q⟩ := hsp
      exact wpAny_execs_nil ⟨σ', H', J'.ofTry ok, q⟩
    | brk =>
      obtain ⟨σ', H', J', q⟩ := hsp
      exact ⟨σ', H', J'.ofTry ok, q⟩
    | cont =>
      obtain ⟨σ', H', J', q⟩ := hsp
      exact ⟨σ', H', J'.ofTry ok, q⟩
    | ret u =>
      obtain ⟨v, σ', H', J', r, q⟩ := hsp
      exact ⟨v, σ', H', J'.ofTry ok, r, q⟩
end
end Xv

set_option Elab.async false
set_option linter.all false
set_option maxRecDepth 100000
set_option maxHeartbeats 4000000
set_option pp.maxSteps 3000
/-! _law_caught: work() is called, its exception is handed back -/
namespace Xv
open PySem PySem.Spec PyProof.Rows L2 LamX
abbrev caughtBody (p1 p2 p3 p4 p5 p6 p7 p8 p9 pa pb pc pd pe : Pos) (j : Nat) : List Stmt := [.Assign [.Name "caught" p1] (.Constant .none j p2) p3,
  .Try [.Expr (.Call (.Name "work" p4) [] [] p5) p6] [.ExceptHandler (some (.Name "SeriesError" p7)) (some "error") [.Assign [.Name "caught" p8] (.Name "error" p9) pa] pb] [] [] pc, .Return (some (.Name "caught" pd)) pe]
/-- what is asked: work() gives whatever, or raises an exception that is caught -/
def TCaught (K : PySem.W.Frag) (CS : Addr) : (XK → Hp → VK → Prop) → Hp → VK → Prop := fun tl H Q =>
  tl (fun cls d H' => PySem.W.exmOne K cls (.ref CS) = some true ∧ ∀ a, H' a = none → Q (.ref a) (upd H' a (ErX cls d a))) H (fun _ H' => ∃ v, some (some V.non) = some (some v) ∧ Q v H')
theorem caught_gives {X : Cx} {sg : Scope} {g CS : Addr} {cdg : Value} {q : Str} {p1 p2 p3 p4 p5 p6 p7 p8 p9 pa pb pc pd pe : Pos} {j : Nat} (Sg : FnScope ["work", "caught", "error"] ["work"] sg) (v0 : sg.names.lookup ("work" : Str) = some NameKind.local) (v1 : sg.names.lookup ("caught" : Str) = some NameKind.local) (v2 : sg.names.lookup ("error" : Str) = some NameKind.local)
    (hge : sg.names.lookup ("SeriesError" : Str) = some NameKind.globalImplicit) (hme : X.mg "SeriesError" = some (.ref CS)) : GivesTo X ["work", "caught", "error"] "_law_caught" sg g cdg (caughtBody p1 p2 p3 p4 p5 p6 p7 p8 p9 pa pb pc pd pe j) "work" q (TCaught X.K CS) := by
  intro f c' s H Q tl act hc h
  have hgl : Gl (cxOf C8.CX0 X.prog X.w X.K X.mg X.base ["work", "caught", "error"] "_law_caught" sg g cdg X.A X.stack s H C8.E0).nox "SeriesError" := hge
  refine ⟨_, pss_cons (ps_set (i := 1) Sg.nd rfl (Or.inl v1) pe_non) (pss_cons (ps_try_keep (X := (cxOf C8.CX0 X.prog X.w X.K X.mg X.base ["work", "caught", "error"] "_law_caught" sg g cdg X.A X.stack s H C8.E0).nox) (c := .ref CS) (i := 2)
      (tb := fun W D σ H => ∃ Ech : XK, (∀ cls d σ' H', Ech cls d H' → W cls d σ' H') ∧ σ[0]? = some (some (.ref f)) ∧ H c' = some (CodeO c' q) ∧ tl Ech H (fun _ H' => D.nx σ H'))
      rfl rfl Sg.nd rfl rfl v2 ⟨hgl, by decide, .inl hme⟩ L2.takes0 (fun W pn xe tk => ?_) (fun a oe pn => pss_one (ps_set (i := 1) Sg.nd rfl (Or.inl v1) (pe_var (i := 2) rfl (Or.inl v2))))) (pss_one (ps_ret (pe_var (i := 1) rfl (Or.inl v1))))), ?_⟩
  · refine ⟨fun pins s' σ H' D I h' => ?_⟩
    obtain ⟨Ech, hW, h1, h2, h3⟩ := h'
    have hp := act W pn xe Ech p4 p5 tk hW
    have hq := pss_one (ps_expr (pos := p6) hp)
    exact hq.run pins s' σ H' D I ⟨h1, h2, h3⟩
  · refine ⟨fun cls d H' => PySem.W.exmOne X.K cls (.ref CS) = some true ∧ ∀ a, H' a = none → Q (.ref a) (upd H' a (ErX cls d a)), fun cls d σ' H' hE => ?_, rfl, hc, ?_⟩
    · obtain ⟨e1, e2⟩ := hE
      intro hl
      match σ', hl with
      | [s0, s1, s2], _ => exact ⟨true, e1, fun _ a ha => ⟨_, rfl, _, rfl, e2 a ha⟩, fun z => nomatch z⟩
    · exact h
/-- a caught exception of the class at C at a, its fields fs, if it has a dict -/
def ErC (H : Hp) (a C : Addr) (fs : Option (List (Str × V))) : Prop := (fs = none ∧ H a = some (ErX (.ref C) none a)) ∨ ∃ d xs, fs = some xs ∧ H a = some (ErX (.ref C) (some d) a) ∧ H d = some (.xd xs)
section
variable {X : Cx} {pins : List (Addr × Obj)} {σ : L2.St} {H : Hp} {s : Shared} {a C : Addr} {fs : Option (List (Str × V))}
theorem erC_same {H H' : Hp} (h : ErC H a C fs) (k : Same H H') : ErC H' a C fs := by
  rcases h with ⟨e, h⟩ | ⟨d, xs, e, h, hd⟩
  · exact .inl ⟨e, k _ _ h⟩
  · exact .inr ⟨d, xs, e, k _ _ h, k _ _ hd⟩
theorem erC_inst (I : Inv X pins σ H s) (h : ErC H a C fs) : ∃ ox od, PySem.W.InstAt s.heap a ox C od := by
  rcases h with ⟨_, h⟩ | ⟨d, xs, _, h, hd⟩
  · have q : ObjOk X.prog X.w H s.heap a (ErX (.ref C) none a) := I.hok a _ h
    obtain ⟨⟨oe, vs, e, z, dt⟩, _⟩ := q
    obtain ⟨oc, od, oda, osl⟩ := oe
    obtain ⟨z1, z2⟩ := z
    dsimp only at z1 z2 dt
    subst z1 z2 dt
    exact ⟨_, none, e, rfl, rfl, trivial⟩
  · have q : ObjOk X.prog X.w H s.heap a (ErX (.ref C) (some d) a) := I.hok a _ h
    obtain ⟨⟨oe, vs, e, z, dt⟩, _⟩ := q
    have hx : ObjOk X.prog X.w H s.heap d (.xd xs) := I.hok d _ hd
    obtain ⟨mA, hns, hr⟩ := hx
    obtain ⟨od, ho, hl⟩ := lookIn_ns hns
    exact ⟨oe, some od, e, z.1, by unfold PySem.W.notCls; rw [dt] <;> rfl, by rw [z.2]; exact ho⟩
/-- isinstance(e, c), e a caught exception -/
def rIsC (K : PySem.W.Frag) : List V → Hp → VK → Prop := fun xs H Q => ∃ (a C : Addr) (fs : Option (List (Str × V))) (c : V) (cv : Value) (b : Bool), xs = [.ref a, c] ∧ ErC H a C fs ∧ ExcC K C ∧ (∀ u, RelV c u → u = cv) ∧ PySem.W.kitOne K (.ref C) cv = some b ∧ Q (.bl b) H
theorem call_isC : CallR X (.builtin "isinstance") (rIsC X.K) := by
  intro pins s σ H xs us Q I r h
  obtain ⟨a, C, fs, c, cv, b, rfl, he, T, hc, hk, q⟩ := h
  obtain ⟨u1, u2, rfl, r1, r2⟩ := vals2 r
  cases (show u1 = Value.ref a from r1)
  have e2 := hc _ r2
  subst e2
  obtain ⟨ox, od, J⟩ := erC_inst I he
  obtain ⟨cd, hcd, _⟩ := PySem.W.any_some T.hd
  exact PySem.W.kia_one (PySem.W.kitx_exc (by rw [hcd]; rfl) T.hg T.hk T.hs T.ha T.hn T.ht T.hm) I.kIn J hk (fun z => nomatch z) fun tk => ⟨.bl b, H, I.tok tk, rfl, q⟩
end
/-- e.f, e a caught exception with fields -/
def tErC (K : PySem.W.Frag) (f : Str) (te : TE) : TE := fun σ H Q => te σ H fun x H1 => ∃ (a C : Addr) (fs : List (Str × V)) (v : V), x = .ref a ∧ ErC H1 a C (some fs) ∧ XfC K C ∧ PySem.W.findIn K (.ref C) f = some none ∧ fs.lookup f = some v ∧ Q v H1
theorem pe_erC {X : Cx} {e : Expr} {te : TE} {pos : Pos} {n : Str} (he : PE X e te) (hb : attributeBase e n X.env (eval e X.env) = eval e X.env := by rfl) : PE X (.Attribute e n pos) (tErC X.K n te) := by
  refine ⟨fun pins s σ H Q I h => attr_of hb (thn (he.run pins s σ H _ I h) fun u s1 hh => ?_)⟩
  obtain ⟨x, H1, I1, rx, a, C, fs, v, rfl, he, T, hno, l, q⟩ := hh
  obtain rfl : u = Value.ref a := rx
  rcases he with ⟨z, _⟩ | ⟨d, xs, z, h, hd⟩
  · cases z
  · cases z
    have qo : ObjOk X.prog X.w H1 s1.heap a (ErX (.ref C) (some d) a) := I1.hok a _ h
    obtain ⟨⟨oe, vs, e, z, dt⟩, _⟩ := qo
    have hx : ObjOk X.prog X.w H1 s1.heap d (.xd fs) := I1.hok d _ hd
    obtain ⟨mA, hns, hr⟩ := hx
    obtain ⟨od, ho, hl⟩ := lookIn_ns hns
    obtain ⟨u, hu, ru⟩ := RelO.some_of (v := v) (o := mA n) (by rw [← l]; exact hr n)
    have J : PySem.W.InstAt s1.heap a oe C (some od) := ⟨e, z.1, by unfold PySem.W.notCls; rw [dt] <;> rfl, by rw [z.2]; exact ho⟩
    exact HandSPX.exc_get I1.kIn J T.ga T.gg T.exC (PySem.W.findObj_own T.hdC hno rfl (by rw [hl, hu])) (handed_of ru) ⟨v, H1, I1.tok _, ru, q⟩
end Xv

set_option Elab.async false
set_option linter.all false
set_option maxRecDepth 100000
set_option maxHeartbeats 4000000
set_option pp.maxSteps 3000
namespace PySem
theorem meets_enumerate_new1 {v : Value} {o : Obj} {H : Heap → Prop} (B : Begins v o H) :
    Meets (Builtin.«enumerate.__new__» ⟨[.type "enumerate", v], []⟩) (fun _ R s => H s.heap ∧
      R (.ok (.ret (.ref (s.heap.push o).objs.size))) { s with heap := (s.heap.push o).push { cls := .type "enumerate", data := .fields #[.none, .bool false, .ref s.heap.objs.size, rawInt 0, .none, .none] } }) :=
  .of_wp fun prog w A R s h => by
    obtain ⟨hp, g, d, tk, os⟩ := s; obtain ⟨h1, h⟩ := h
    have hsub := sub_enumerate
    have q1 : ∀ {A' : Around} {E : Value → Shared → Prop} {Q : Value → Shared → Prop}, Q (.ref hp.objs.size) ⟨hp.push o, g, d, tk, os⟩ → wpAny (model prog w) A' (pyIter v) Q E ⟨hp, g, d, tk, os⟩ :=
      fun q => B.iter prog w _ _ ⟨hp, g, d, tk, os⟩ _ h1 q
    wp_walk using q1
    refine wpAny_stack_any fun st => wpAny_pure ?_
    split
    · rename_i c _ _ _ _ _
      cases (c == Value.type "enumerate")
      · wp_walk using q1
        exact ⟨_, rfl, h⟩
      · wp_walk using q1
        exact ⟨_, rfl, h⟩
    · wp_walk using q1
      exact ⟨_, rfl, h⟩
section
variable {prog : Program} {w : World} {A : Around} {E : Value → Shared → Prop} {s : Shared}
theorem enum_begins1 {v : Value} {o : Obj} {H : Heap → Prop} {Q : Value → Shared → Prop} (B : Begins v o H) (h1 : H s.heap)
    (h : ∀ h', IsEnum h' (s.heap.objs.size + 1) s.heap.objs.size 0 .none → h'.get? s.heap.objs.size = some o → h'.objs.size = s.heap.objs.size + 2 →
      (∀ b o, s.heap.get? b = some o → h'.get? b = some o) → Q (.ref (s.heap.objs.size + 1)) { s with heap := h' }) :
    wpAny (model prog w) A (call (.type "enumerate") [v]) Q E s := by
  refine callType_new F.called_enumerate (by decide) (F.typeCall_enumerate_1 _) (F.newCall_enumerate_1 _) (fun obj => F.args_object_init_2 obj _) F.entry_enumerate_new
    (meets_enumerate_new1 B) ⟨h1, ?_⟩
  have hz : (s.heap.push o).objs.size = s.heap.objs.size + 1 := Heap.size_push ..
  show _ ∧ _
  rw [hz]
  have he : IsEnum ((s.heap.push o).push { cls := .type "enumerate", data := .fields #[.none, .bool false, .ref s.heap.objs.size, rawInt 0, .none, .none] }) (s.heap.objs.size + 1) s.heap.objs.size 0 .none := by
    have := Heap.get?_push_size (s.heap.push o) (o := { cls := .type "enumerate", data := .fields #[.none, .bool false, .ref s.heap.objs.size, rawInt 0, .none, .none] }) rfl
    rw [hz] at this; exact this
  refine ⟨⟨_, he, rfl⟩, h _ he (Heap.get?_push_of_some _ (Heap.get?_push_size _ B.free)) (by rw [Heap.size_push, hz]) fun b o x => Heap.get?_push_of_some _ (Heap.get?_push_of_some _ x)⟩
end
end PySem
namespace Xv
open PySem PySem.Spec PyProof.Rows L2
/-- enumerate of a tuple -/
def IteT (K : PySem.W.Frag) (a : Addr) : It :=
  ⟨fun i H => ∃ (xs : List V) (x : V), SqT K H a xs ∧ xs[i]? = some x, fun i H v H' => ∃ T x, v = .ref T ∧ H T = none ∧ H' = upd H T (.tup [.int (i : Nat), x]) ∧ ∀ xs, SqT K H a xs → xs[i]? = some x, fun i H => ∃ xs : List V, SqT K H a xs ∧ xs.length = i⟩
theorem turn_enumT {P : Program} {w : World} {K : PySem.W.Frag} {elts : List Expr} {kk : Nat} {tpos : Pos} (a e it : Addr) (hat : a ≠ it) :
    Turn P w K (.Tuple elts kk tpos) (IteT K a) [e, it] e (fun i h => (∃ old, IsEnum h e it ((i : Nat) : Int) old) ∧ h.IsTupleIter it a i ∧ e ≠ it ∧ e ≠ a) where
  mem := by simp
  obj := fun i h st b hb => by
    obtain ⟨⟨old, he⟩, ⟨o, ho, hc, hd⟩, _⟩ := st
    have e' : b = e ∨ b = it := by simpa using hb
    rcases e' with z | z
    · rw [z]; exact ⟨_, he, fun v q => nomatch q⟩
    · rw [z]; exact ⟨o, ho, fun v q => by rw [hd] at q; cases q⟩
  keep := fun i h h' st k => let ⟨⟨old, he⟩, hi, hne, hea⟩ := st; ⟨⟨old, k e (by simp) _ he⟩, hi.at fun o q => k it (by simp) o q, hne, hea⟩
  item := by
    intro X hP hw hK hc i pins s σ H E I hf st hg
    subst hP hw hK
    obtain ⟨⟨old, he⟩, hit, hne, hea⟩ := st
    obtain ⟨xs, x, hq, hx⟩ := hg
    obtain ⟨its, rv, p, hz⟩ := I.tuple hq
    obtain ⟨u, hu, ru⟩ := rv.get hx
    have hel : e < s.heap.objs.size := Heap.lt_size he
    have hil : it < s.heap.objs.size := by obtain ⟨_, q, _⟩ := hit; exact Heap.lt_size q
    have hlt : i < its.toArray.size := by
      have := (List.getElem?_eq_some_iff.mp hu).1
      simpa using this
    refine wpAny_pyNext_enum_itemD (Draws.tuple (prog := X.prog) (w := X.w) (A := X.A.in1) (I.ok.hd hc) it a hat its.toArray) he ⟨hit, p⟩ hlt hne (by simp [hne, hea]) fun y h' tk hy ho hst' hT hsz hk => ?_
    obtain ⟨hit', _⟩ := hst'
    have ey : y = u := by
      have e1 : its.toArray[i]? = some u := by simpa using hu
      rw [e1] at hy
      exact (Option.some.inj hy).symm
    subst ey
    refine ⟨_, rfl, wpAny_letOwnedTupleGo_enum (s := { s with heap := h', toks := tk + 1 }) ho fun h'' he' sb => ?_⟩
    have hT2 : h''.get? s.heap.objs.size = some { cls := .type "tuple", data := .seq #[.int i tk, y] } := (sb.2 _ (Nat.ne_of_gt hel)).trans hT
    have new : ObjOk X.prog X.w (upd H s.heap.objs.size (.tup [.int (i : Nat), x])) h'' s.heap.objs.size (.tup [.int (i : Nat), x]) :=
      ⟨by show 2 ≤ sizeLine; decide, [.int i tk, y], .cons ⟨_, rfl⟩ (.cons ru .nil), ⟨_, hT2, rfl, _, rfl⟩⟩
    have I1 : Inv X pins σ (upd H s.heap.objs.size (.tup [.int (i : Nat), x])) { s with heap := h'', toks := tk + 1 } :=
      I.turnedNew (ch := [e, it]) (fun b ob hb q => (sb.2 b (fun z => hb (by simp [z]))).trans (hk b ob (fun z => hb (by simp [z])) (fun z => hb (by simp [z])) q)) hf (Nat.le_refl _) new
    refine ⟨.ref s.heap.objs.size, _, I1, rfl, ⟨_, x, rfl, I.hok.fresh (Nat.le_refl _), rfl, fun ys hy => by rw [I.tuple_inj hy hq]; exact hx⟩, ⟨⟨y, ?_⟩, hit'.at fun o q => (sb.2 it (Ne.symm hne)).trans q, hne, hea⟩, fun b hb => ?_⟩
    · have e1 : ((i + 1 : Nat) : Int) = (i : Int) + 1 := by omega
      rw [e1]; exact he'
    · have hb' : b < s.heap.objs.size := by
        have e' : b = e ∨ b = it := by simpa using hb
        rcases e' with z | z
        · rw [z]; exact hel
        · rw [z]; exact hil
      rw [upd_ne (Nat.ne_of_lt hb')]
      exact (hf b hb).1
  done := by
    intro X hP hw hK hc i pins s σ H E I hf st hg
    subst hP hw hK
    obtain ⟨⟨old, he⟩, hit, hne, hea⟩ := st
    obtain ⟨xs, hq, hx⟩ := hg
    obtain ⟨its, rv, p, hz⟩ := I.tuple hq
    obtain ⟨f0, f1, f2, f3, f4, f5⟩ := hf it (by simp)
    have hl := rv.length
    have en : i = its.toArray.size := by
      rw [List.size_toArray]
      omega
    subst en
    have D := Draws.tuple (prog := X.prog) (w := X.w) (A := X.A.in1) (I.ok.hd hc) it a hat its.toArray
    exact wpAny_pyNext_enum_endD D he ⟨hit, p⟩ fun h' eb => ⟨rfl, I.turned (t' := s.toks) (fun b o hb q => eb b o hb q) f0 f1 f3 f4 f5⟩
  self := fun A i s Q E st h => let ⟨⟨_, he⟩, _⟩ := st; wpAny_pyIter_enum he h
/-- enumerate of a list or a tuple -/
def iEnumT (K : PySem.W.Frag) (ta : TA) : TI := fun σ H R => ta σ H fun vs H1 => ∃ a xs, vs = [.ref a] ∧ ((SqL K H1 a xs ∧ R (Ite K a) H1) ∨ (SqT K H1 a xs ∧ R (IteT K a) H1))
theorem pi_enumT {X : Cx} {e : Expr} {ta : TA} {p pos tpos : Pos} {elts : List Expr} {kk : Nat} (hg : Gl X "enumerate") (hm : X.mg "enumerate" = none) (ha : PA X [e] ta) (hs : starEach [e] X.env = [(false, eval e X.env)] := by rfl) :
    PI X (.Tuple elts kk tpos) (.Call (.Name "enumerate" p) [e] [] pos) (iEnumT X.K ta) := by
  refine ⟨fun pins s σ H R I h => ?_⟩
  refine Call_ (ld_blt I hg hm boot_enumerate (PyProof.Rows.callWith_type1 (thn (ha.run pos pins s σ H _ I h) fun us s1 ⟨vs, H1, I1, r1, q1⟩ => ?_) hs rfl))
  obtain ⟨a, xs, ex, q⟩ := q1
  subst ex
  cases r1 with
  | cons r rr =>
    cases rr
    cases r
    rcases q with ⟨hq, q⟩ | ⟨hq, q⟩
    · obtain ⟨its, rv, p', hz⟩ := I1.list hq
      refine call_enumerate_list p'.isList fun h' he hit hsz hk => wpAny_pyIter_enum he ?_
      have I2 : Inv X pins σ H1 { s1 with heap := h' } := I1.kept (t' := s1.toks) hk
      refine ⟨s1.heap.objs.size + 1, [s1.heap.objs.size + 1, s1.heap.objs.size], _, _, H1, rfl, I2, turn_enum a (s1.heap.objs.size + 1) s1.heap.objs.size, ⟨⟨.none, he⟩, hit, Nat.succ_ne_self _⟩, fun b hb => ?_, q⟩
      have e' : b = s1.heap.objs.size + 1 ∨ b = s1.heap.objs.size := by simpa using hb
      have hle : s1.heap.objs.size ≤ b := by
        rcases e' with z | z
        · rw [z]; exact Nat.le_add_right _ _
        · rw [z]; exact Nat.le_refl _
      exact I1.fpOk hle (I1.hok.fresh hle)
    · obtain ⟨its, rv, p', hz⟩ := I1.tuple hq
      have p2 : s1.heap.IsTuple a its.toArray := p'
      have hal : a < s1.heap.objs.size := by
        obtain ⟨o, ho, _⟩ := p2
        exact Heap.lt_size ho
      refine enum_begins1 (begins_tuple a its.toArray) p2 fun h' he hit hsz hk => wpAny_pyIter_enum he ?_
      have I2 : Inv X pins σ H1 { s1 with heap := h' } := I1.kept (t' := s1.toks) hk
      refine ⟨s1.heap.objs.size + 1, [s1.heap.objs.size + 1, s1.heap.objs.size], _, _, H1, rfl, I2, turn_enumT a (s1.heap.objs.size + 1) s1.heap.objs.size (Nat.ne_of_lt hal),
        ⟨⟨.none, he⟩, ⟨_, hit, rfl, rfl⟩, Nat.succ_ne_self _, Nat.ne_of_gt (Nat.lt_succ_of_lt hal)⟩, fun b hb => ?_, q⟩
      have e' : b = s1.heap.objs.size + 1 ∨ b = s1.heap.objs.size := by simpa using hb
      have hle : s1.heap.objs.size ≤ b := by
        rcases e' with z | z
        · rw [z]; exact Nat.le_add_right _ _
        · rw [z]; exact Nat.le_refl _
      exact I1.fpOk hle (I1.hok.fresh hle)
theorem walk_enumT {K : PySem.W.Frag} {a : Addr} {xs : List V} : Walk (IteT K a) xs.length (fun H => SqT K H a xs) (YPair (fun i => some (.int (i : Nat))) (fun i => xs[i]?)) := by
  refine ⟨fun i _ hi q => ⟨xs, xs[i], q, by simp [hi]⟩, fun _ q => ⟨xs, q, rfl⟩, fun i H v H' _ q y => ?_⟩
  obtain ⟨T, x, h1, h2, h3, h4⟩ := y
  exact ⟨T, .int (i : Nat), x, h1, h2, h3, rfl, h4 xs q⟩
/-- a list or a tuple walked -/
def iSeq (K : PySem.W.Frag) (tl : TE) : TI := fun σ H R => tl σ H fun x H1 => ∃ a, x = .ref a ∧ (((∃ xs, SqL K H1 a xs) ∧ R (Itl K a) H1) ∨ ((∃ xs, SqT K H1 a xs) ∧ R (Itt K a) H1))
theorem pi_seq {X : Cx} {tg l : Expr} {tl : TE} (hl : PE X l tl) : PI X tg l (iSeq X.K tl) := by
  refine ⟨fun pins s σ H R I h => ?_⟩
  refine thn (hl.run pins s σ H _ I h) fun v s1 ⟨x, H1, I1, r1, q1⟩ => ?_
  obtain ⟨a, e, q⟩ := q1
  subst e
  cases r1
  rcases q with ⟨⟨xs, hq⟩, q⟩ | ⟨⟨xs, hq⟩, q⟩
  · obtain ⟨its, rv, p, hz⟩ := I1.list hq
    refine wpAny_pyIter_list p.isList ?_
    refine ⟨s1.heap.objs.size, [s1.heap.objs.size], _, _, H1, rfl, I1.kept (t' := s1.toks) fun b o e => Heap.get?_push_of_some _ e, turn_list a _, ⟨_, Heap.get?_push_size _ rfl, rfl, rfl⟩, fun b hb => ?_, q⟩
    have e : b = s1.heap.objs.size := by simpa using hb
    subst e
    exact I1.fpOk (Nat.le_refl _) (I1.hok.fresh (Nat.le_refl _))
  · obtain ⟨its, rv, p, hz⟩ := I1.tuple hq
    refine wpAny_pyIter_tuple (show s1.heap.IsTuple a its.toArray from p) ?_
    refine ⟨s1.heap.objs.size, [s1.heap.objs.size], _, _, H1, rfl, I1.kept (t' := s1.toks) fun b o e => Heap.get?_push_of_some _ e, turn_tuple a _, ⟨_, Heap.get?_push_size _ rfl, rfl, rfl⟩, fun b hb => ?_, q⟩
    have e : b = s1.heap.objs.size := by simpa using hb
    subst e
    exact I1.fpOk (Nat.le_refl _) (I1.hok.fresh (Nat.le_refl _))
/-! ### f(k = v, ..): keywords alone -/
section
variable {X : Cx} {p pos : Pos} {x : Str} {kws : List Keyword} {tk : TA} {CX : CXT} {k : Nat} {f : Addr} {fd : FuncData} {ps ks : List Str} {sp : Sp} {E : XK} {g : List Value → List Value → List Value} {gV : List V → List V → List V}
theorem pe_callK0 (F : FnOk X.prog X.w X.K X.mg X.base CX k f fd ps sp) (hr : Room k X.A) (hg : Gl X x) (hm : X.mg x = some (.ref f)) (hk : PySem.W.keepIn X.K (.ref f) = true) (hb : KBinds X.K fd ps ks g gV) (hx : Passes CX X E)
    (hkw : PK X kws tk) (hall : (backToKw pos (keywordEach kws X.env)).all (·.1.isSome) = true := by rfl) (hks : (backToKw pos (keywordEach kws X.env)).filterMap (·.1) = ks := by rfl)
    (hdb : (x == ("__debug__" : Str)) = false := by decide)
    (hpl : ((backTo pos (starEach [] X.env)).any (·.1) || (backToKw pos (keywordEach kws X.env)).any (·.1.isNone)) = false := by rfl) :
    PE X (.Call (.Name x p) [] kws pos) (tCallK sp gV E tNil tk) := by
  refine ⟨fun pins s σ H Q I h => ?_⟩
  refine wpAny_Call_Name_kw (ld_glob I hg hm ?_ hdb)
  refine PySem.W.callWith_KW0 (h₀ := X.base) I.ok.mod.kin hk hall (thn (hkw.run pos pins s σ H _ I h) fun ws s2 ⟨zs, H2, I2, rz, q2⟩ => ⟨I2.kIn, ?_⟩) hpl
  rw [hks]
  exact run_fnk (us := []) (vs := []) F hr hb hx I2 .nil rz q2
end
/-! ### xs[t::m] of a list, 0 ≤ t, 0 < m -/
/-- the items at lo, lo + m, .. -/
def stepV (xs : List V) (t m : Nat) : List V := (List.range ((xs.length - t + m - 1) / m)).filterMap fun k => xs[t + m * k]?
def tStepL (K : PySem.W.Frag) (te : TE) (tl ts : TO) : TE := fun σ H Q => te σ H fun x H1 => tl σ H1 fun l H2 => ts σ H2 fun u H3 => ∃ a xs, ∃ t m : Nat, x = .ref a ∧ l = some (t : Int) ∧ u = some (m : Int) ∧ 0 < m ∧ t ≤ xs.length ∧ SqL K H3 a xs ∧ ∀ p, H3 p = none → Q (.ref p) (upd H3 p (.lst (stepV xs t m)))
theorem pick_step {its : List Value} {t m : Nat} (hm : 0 < m) (ht : t ≤ its.length) : slicePick its.toArray (some (t : Int)) none (some (m : Int)) = ((List.range ((its.length - t + m - 1) / m)).filterMap fun k => its[t + m * k]?).toArray := by
  have hm' : (m : Int) > 0 := by omega
  have hm2 : ¬ ((t : Int) < 0) := by omega
  have e1 : max 0 (min (t : Int) (its.length : Int)) = (t : Int) := by omega
  unfold slicePick sliceBounds
  simp only [Option.getD_some, List.size_toArray, hm', if_true, hm2, if_false, e1]
  unfold sliceRange
  simp only [hm', if_true]
  congr 1
  have e2 : (if (t : Int) < (its.length : Int) then ((its.length : Int) - t + m - 1) / m else 0).toNat = (its.length - t + m - 1) / m := by
    by_cases h : (t : Int) < (its.length : Int)
    · rw [if_pos h]
      have e3 : ((its.length : Int) - t + m - 1) = ((its.length - t + m - 1 : Nat) : Int) := by omega
      rw [e3]
      rw [← Int.natCast_ediv]
      exact Int.toNat_natCast _
    · rw [if_neg h]
      have e3 : its.length - t + m - 1 = m - 1 := by omega
      rw [e3, Nat.div_eq_of_lt (by omega)]
      rfl
  rw [e2, List.filterMap_map]
  congr 1
  funext k
  have e4 : ((t : Int) + (m : Int) * (k : Int)).toNat = t + m * k := by
    rw [← Int.natCast_mul]
    omega
  show its.toArray[((t : Int) + (m : Int) * (k : Int)).toNat]? = _
  rw [e4]
  simp
theorem stepV_vals {xs : List V} {its : List Value} (r : Vals xs its) (t m : Nat) : ∀ n : Nat, Vals ((List.range n).filterMap fun k => xs[t + m * k]?) ((List.range n).filterMap fun k => its[t + m * k]?)
  | 0 => .nil
  | n + 1 => by
    rw [List.range_succ, List.filterMap_append, List.filterMap_append]
    refine (stepV_vals r t m n).append ?_
    show Vals (List.filterMap _ [n]) (List.filterMap _ [n])
    rw [List.filterMap_cons, List.filterMap_cons]
    cases e : xs[t + m * n]? with
    | none =>
      have e2 : its[t + m * n]? = none := by
        have hl := r.length
        rw [List.getElem?_eq_none_iff] at e ⊢
        omega
      rw [e2]
      exact .nil
    | some v =>
      obtain ⟨u, hu, ru⟩ := r.get e
      rw [hu]
      exact .cons ru .nil
theorem filterMap_range_le {f : Nat → Option V} : ∀ n : Nat, ((List.range n).filterMap f).length ≤ n
  | 0 => Nat.le_refl _
  | n + 1 => by
    rw [List.range_succ, List.filterMap_append, List.length_append]
    have h1 := filterMap_range_le (f := f) n
    have h2 : ([n].filterMap f).length ≤ 1 := by
      rw [List.filterMap_cons]
      cases f n <;> simp
    omega
theorem stepV_length {xs : List V} {t m : Nat} (hm : 0 < m) (ht : t ≤ xs.length) : (stepV xs t m).length ≤ xs.length := by
  refine Nat.le_trans (filterMap_range_le _) ?_
  refine Nat.le_trans (m := xs.length - t) ?_ (Nat.sub_le _ _)
  by_cases h : xs.length - t = 0
  · rw [h, Nat.div_eq_of_lt (by omega)]
    exact Nat.le_refl _
  · refine Nat.div_le_of_le_mul ?_
    generalize xs.length - t = d at *
    have h1 : 0 ≤ (d - 1) * (m - 1) := Nat.zero_le _
    obtain ⟨d', rfl⟩ : ∃ d', d = d' + 1 := ⟨d - 1, by omega⟩
    obtain ⟨m', rfl⟩ : ∃ m', m = m' + 1 := ⟨m - 1, by omega⟩
    have e : (m' + 1) * (d' + 1) = m' * d' + m' + d' + 1 := by
      rw [Nat.add_mul, Nat.mul_add]
      omega
    rw [e]
    omega
theorem pe_stepL {X : Cx} {e lo st : Expr} {te : TE} {tl ts : TO} {p3 pos : Pos} (he : PE X e te) (hl : PO X (some lo) tl) (hst : PO X (some st) ts) : PE X (.Subscript e (.Slice (some lo) none (some st) p3) pos) (tStepL X.K te tl ts) := by
  refine ⟨fun pins s σ H Q I h => ?_⟩
  refine Subscript_ (thn (he.run pins s σ H _ I h) fun v s1 ⟨x, H1, I1, r1, q1⟩ => ?_)
  refine wpAny_Slice (thn (hl.run pins s1 σ H1 _ I1 q1) fun vl s2 ⟨l, H2, I2, pl, q2⟩ => ?_)
  refine thn (po_none.run pins s2 σ H2 (fun o H3 => o = none ∧ H3 = H2) I2 ⟨rfl, rfl⟩) fun vu s3 ⟨u, H3, I3, pu, eu, e3⟩ => ?_
  subst eu e3
  refine thn (hst.run pins s3 σ H3 _ I3 q2) fun vs s4 ⟨o, H4, I4, ps, q4⟩ => ?_
  obtain ⟨a, xs, t, m, rfl, rfl, rfl, hm, ht, hx, q⟩ := q4
  cases r1
  have I5 : Inv X pins σ H4 { s4 with heap := s4.heap.push { cls := .type "slice", data := .fields #[vl, vu, vs] } } := I4.kept (t' := s4.toks) fun b ob q => Heap.get?_push_of_some _ q
  obtain ⟨its, r, hT, hz⟩ := I5.list hx
  have hlen := r.length
  show wpAny (model X.prog X.w) X.A (subscriptTail e (.Slice (some lo) none (some st) p3) (.ref a) (.ref s4.heap.objs.size)) (EP X pins σ Q) X.xe { s4 with heap := s4.heap.push { cls := .type "slice", data := .fields #[vl, vu, vs] } }
  refine tail_any (ops := [.ref a, .ref s4.heap.objs.size]) hT.isList.typeIs (PySem.slot_list_getitem.lookup) ?_ (by with_unfolding_all rfl)
  refine wpAny_getItem_list_slice hT.isList (Heap.IsSliceOf.new _ vl vu vs) pl pu ps (by
    intro z
    have z2 := Option.some.inj z
    omega) ?_ (by rw [List.size_toArray]; omega)
  rw [pick_step hm (by omega)]
  refine ⟨.ref _, _, I5.laid (t' := s4.toks) (o := .lst (stepV xs t m)) (fun b ob q => Heap.get?_push_of_some _ q) (Nat.le_refl _) ?_, rfl, q _ (I5.hok.fresh (Nat.le_refl _))⟩
  refine ⟨Nat.le_trans (stepV_length hm ht) hz, _, 0, ?_, Heap.get?_push_size _ rfl⟩
  rw [← hlen]
  exact stepV_vals r t m _
end Xv

set_option Elab.async false
set_option linter.all false
set_option maxRecDepth 100000
set_option maxHeartbeats 0
namespace Xv
open PySem PySem.Spec PyProof.Rows L2
/-! the classes' facts, asked of the written part -/
def veT : List Value := [.type "ValueError", .type "Exception", .type "BaseException", .type "object"]
def oexB (K : PySem.W.Frag) (C : Addr) : Bool := match K.lookup C with
  | some ⟨.type "type", _, .cls cd, sl⟩ => (match cd.mro, sl.toList with
    | .ref C' :: bm, [_, _, _, _, some (.builtin n), _] => decide (C' = C) && (decide (n = "ValueError.__new__") && (!cd.hasDel && (PySem.HandSPX.refsVE bm && cd.hasDict)))
    | _, _ => false)
  | _ => false
theorem oexB_ok {K : PySem.W.Frag} {C : Addr} (h : oexB K C = true) : ∃ nm q N bs bm sn sub ab col dd k0 k1 k2 k3 k5, K.lookup C = some (excClassObj nm q C N bs bm true sn sub ab col dd k0 k1 k2 k3 k5 "ValueError.__new__") ∧ PySem.HandSPX.refsVE bm = true := by
  unfold oexB at h
  split at h
  · rename_i dx cd sl ho
    split at h
    · rename_i C' bm k0 k1 k2 k3 n k5 hm hs
      simp only [Bool.and_eq_true, decide_eq_true_eq, Bool.not_eq_true'] at h
      obtain ⟨rfl, rfl, hd, hr, hh⟩ := h
      obtain ⟨nm, bs, mro, ns, qn, hdc, sn, sub, ab, col, del⟩ := cd
      dsimp only at hm hd hh
      subst hm hd hh
      obtain ⟨l⟩ := sl
      have hs' : l = [k0, k1, k2, k3, some (.builtin "ValueError.__new__"), k5] := hs
      subst hs'
      exact ⟨nm, qn, ns, bs, bm, sn, sub, ab, col, dx, k0, k1, k2, k3, k5, ho, hr⟩
    · cases h
  · cases h
def eqV2 (a b : Option Value) : Bool := decide (a = b)
/-- a class of errors whose way up is l -/
def clsB (K : PySem.W.Frag) (C : Addr) (l : List Value) : Bool := (match PySem.W.clsIn K C with
  | some cd => decide (cd.mro = l) && cd.hasDict
  | none => false) && (eqV2 (PySem.W.typeIn K (.ref C)) (some (.type "type")) && (He.eqO (PySem.W.findIn K (.ref C) "__getattribute__") (some (some (.builtin "BaseException.__getattribute__"))) && (He.eqO (PySem.W.findIn K (.ref C) "__getattr__") (some none) &&
    (He.eqO (PySem.W.findIn K (.ref C) "__class__") (some (some (.builtin "object.__class__"))) && PySem.W.keepIn K (.ref C)))))
structure ClsOk (K : PySem.W.Frag) (C : Addr) (l : List Value) : Prop where
  cl : ∃ cd, PySem.W.clsIn K C = some cd ∧ cd.mro = l ∧ cd.hasDict = true
  ty : PySem.W.typeIn K (.ref C) = some (.type "type")
  ga : PySem.W.findIn K (.ref C) "__getattribute__" = some (some (.builtin "BaseException.__getattribute__"))
  gg : PySem.W.findIn K (.ref C) "__getattr__" = some none
  gc : PySem.W.findIn K (.ref C) "__class__" = some (some (.builtin "object.__class__"))
  kp : PySem.W.keepIn K (.ref C) = true
theorem clsB_ok {K : PySem.W.Frag} {C : Addr} {l : List Value} (h : clsB K C l = true) : ClsOk K C l := by
  unfold clsB at h
  simp only [Bool.and_eq_true] at h
  obtain ⟨h1, h2, h3, h4, h5, h6⟩ := h
  refine ⟨?_, of_decide_eq_true h2, He.eqO_ok h3, He.eqO_ok h4, He.eqO_ok h5, h6⟩
  cases e : PySem.W.clsIn K C with
  | none =>
    rw [e] at h1
    cases h1
  | some cd =>
    rw [e] at h1
    have h1' : (decide (cd.mro = l) && cd.hasDict) = true := h1
    rw [Bool.and_eq_true] at h1'
    exact ⟨cd, rfl, of_decide_eq_true h1'.1, h1'.2⟩
theorem ClsOk.sub {K : PySem.W.Frag} {C : Addr} {l : List Value} (h : ClsOk K C l) (hl : l ≠ []) (b : Value) : PySem.W.subIn K (.ref C) b = some (l.contains b) := by
  obtain ⟨cd, e, rfl, _⟩ := h.cl
  show (PySem.W.clsIn K C).bind (fun cd => if cd.mro.isEmpty then none else some (cd.mro.contains b)) = _
  rw [e]
  show (if cd.mro.isEmpty = true then none else some (cd.mro.contains b)) = _
  rw [if_neg (by cases q : cd.mro with
    | nil => exact absurd q hl
    | cons _ _ => exact Bool.false_ne_true)]
theorem ClsOk.excC {K : PySem.W.Frag} {C : Addr} {l : List Value} (h : ClsOk K C l) (hl : l ≠ []) (h1 : l.contains (.type "BaseException") = true) (h2 : l.contains (.type "object") = true) (hn : PySem.W.specialIn K (.builtin "object.__class__") "__get__" = some (some (.builtin "getset_descriptor.__get__")))
    (ht : PySem.W.takesIn K (.builtin "object.__class__") = some true) : ExcC K C where
  hg := h.ga
  hk := h.gg
  hs := by rw [h.sub hl, h1]
  hd := by
    obtain ⟨cd, e, _, hd⟩ := h.cl
    show (PySem.W.clsIn K C).any (·.hasDict) = true
    rw [e]
    exact hd
  ha := h.gc
  hn := hn
  ht := ht
  hm := by
    have z := h.sub hl (.type "object")
    rw [h2] at z
    exact z
theorem ClsOk.kit {K : PySem.W.Frag} {C D : Addr} {l m : List Value} (h : ClsOk K C l) (hl : l ≠ []) (hD : ClsOk K D m) {b : Bool} (e : (decide (C = D) || l.contains (.ref D)) = b) : PySem.W.kitOne K (.ref C) (.ref D) = some b := by
  unfold PySem.W.kitOne
  by_cases q : C = D
  · subst q
    rw [if_pos (by simp)]
    rw [decide_eq_true rfl] at e
    exact congrArg some e
  · rw [if_neg (by simpa using q)]
    show (if ((PySem.W.clsIn K D).isSome && PySem.W.typeIn K (.ref D) == some (.type "type")) = true then PySem.W.subIn K (.ref C) (.ref D) else none) = some b
    obtain ⟨cd, ed, _⟩ := hD.cl
    rw [ed, hD.ty, if_pos (by rfl), h.sub hl]
    rw [decide_eq_false q, Bool.false_or] at e
    exact congrArg some e
theorem ClsOk.kitT {K : PySem.W.Frag} {C : Addr} {l : List Value} (h : ClsOk K C l) (hl : l ≠ []) {T : String} (hT : PySem.W.kitMeta T = true) (e : l.contains (.type T) = true) : PySem.W.kitOne K (.ref C) (.type T) = some true := by
  unfold PySem.W.kitOne
  rw [if_neg (by simp)]
  show (if PySem.W.kitMeta T = true then PySem.W.subIn K (.ref C) (.type T) else none) = some true
  rw [if_pos hT, h.sub hl, e]
def eqB (a b : Option Bool) : Bool := decide (a = b)
def cfB (r : Option PySem.W.CFound) : Bool := match r with
  | some (.val v) => decide (v = .builtin "ValueError.__init__")
  | _ => false
theorem cfB_ok {r : Option PySem.W.CFound} (h : cfB r = true) : r = some (.val (.builtin "ValueError.__init__")) := by
  unfold cfB at h
  split at h
  · rw [of_decide_eq_true h]
  · cases h
/-! a hook: the facts by names, more of them by a Bool, the law's own table of code objects -/
abbrev AlE : Type := He.AlD × Bool
def asE (g : Addr → Option Obj) (n : Nat) : List Addr := cStatics :: He.asD g n
def lawD : He.Defn := ("law", none)
def obsE (fa : List He.Fa) (fn : List He.DefD) (ext : PySem.W.Frag → Bool) (n : Nat) (g : Addr → Option Obj) : AlE := (He.obsD fa fn (He.frT g (asE g n)), ext (He.frT g (asE g n)) && He.tabsB g [lawD] (He.frT g (asE g n)))
structure SaysE (fa : List He.Fa) (fn : List He.DefD) (ext : PySem.W.Frag → Bool) (h : Heap) (K : PySem.W.Frag) : Prop where
  d : He.SaysD fa fn K
  more : ext K = true
  hd : PySem.W.codeHdIn K (He.cT K lawD).1 (He.cT K lawD).2 = true
  out : K.lookup (He.cT K lawD).2 = none
  empty : h.get? (He.cT K lawD).2 = some { cls := .none, data := .fields #[] }
theorem saysE_of {fa : List He.Fa} {fn : List He.DefD} {ext : PySem.W.Frag → Bool} {n : Nat} {h : Heap} (e : obsE fa fn ext n h.get? = (He.valD fn, true)) : SaysE fa fn ext h (He.frT h.get? (asE h.get? n)) := by
  have e1 : He.obsD fa fn (He.frT h.get? (asE h.get? n)) = He.valD fn := congrArg (fun z : AlE => z.1) e
  have e2 : (ext (He.frT h.get? (asE h.get? n)) && He.tabsB h.get? [lawD] (He.frT h.get? (asE h.get? n))) = true := congrArg (fun z : AlE => z.2) e
  obtain ⟨h1, h2⟩ := Bool.and_eq_true_iff.mp e2
  obtain ⟨h3, h4⟩ := Bool.and_eq_true_iff.mp (List.all_eq_true.mp h2 lawD (List.mem_singleton.mpr rfl))
  cases q : h.get? (He.cT (He.frT h.get? (asE h.get? n)) lawD).2 with
  | none =>
    rw [q] at h4
    cases h4
  | some o =>
    rw [q] at h4
    exact ⟨e1, h1, h3, He.frT_none q h4, by rw [q, He.emptyTab_eq h4]⟩
def hookE (fa : List He.Fa) (fn : List He.DefD) (ext : PySem.W.Frag → Bool) (n : Nat) : PySem.W.Hook where
  α := AlE
  obs := fun s => obsE fa fn ext n s.heap.get?
  val := fun _ => (He.valD fn, true)
  says := fun _ h => ∃ K : PySem.W.Frag, K.In h ∧ SaysE fa fn ext h K
  of := fun _ _ e => ⟨_, He.frT_in, saysE_of e⟩
  keeps := fun _ _ _ ⟨K, hK, c⟩ k => ⟨K, PySem.W.Frag.In.keeps hK k, ⟨c.d, c.more, c.hd, c.out, k _ _ c.empty⟩⟩
end Xv

set_option Elab.async false
set_option linter.all false
set_option maxRecDepth 100000
set_option maxHeartbeats 4000000
set_option pp.deepTerms false
set_option pp.maxSteps 3000
namespace Dr
open PySem PySem.Spec PyProof.Rows L2
def top (i : Nat) : Stmt := PySem.Challenge.pw_etasure_k00_rows_added_multiplied_raised.main.body.getD i (.Pass ⟨0, 0, 0, 0⟩)
abbrev sBegun : Stmt := top 22
abbrev sBlend : Stmt := top 23
abbrev sTake : Stmt := top 24
abbrev sPick : Stmt := top 25
abbrev FnP (K : PySem.W.Frag) (x : Str) (st : Stmt) (f : Addr) (fd : FuncData) : Prop := FunD K x x (defArgs st) (defBody st) (defScope st) [] [] f fd
/-! ### the draw: a dict of four entries, two lists -/
def kLarge : Key := Sum.inr "large"
def kCells : Key := Sum.inr "cells"
def kRest : Key := Sum.inr "rest"
def kTurn : Key := Sum.inr "turn"
def drK (l c : Addr) (r t : Int) : List (Key × V) := [(kLarge, .ref l), (kCells, .ref c), (kRest, .int r), (kTurn, .int t)]
theorem k12 : ¬ kLarge = kCells := by decide +kernel
theorem k13 : ¬ kLarge = kRest := by decide +kernel
theorem k14 : ¬ kLarge = kTurn := by decide +kernel
theorem k23 : ¬ kCells = kRest := by decide +kernel
theorem k24 : ¬ kCells = kTurn := by decide +kernel
theorem k34 : ¬ kRest = kTurn := by decide +kernel
section
variable {l c : Addr} {r t z : Int}
theorem get_large : valV (drK l c r t) kLarge = some (.ref l) := valV_pos rfl
theorem get_cells : valV (drK l c r t) kCells = some (.ref c) := (valV_neg k12).trans (valV_pos rfl)
theorem get_rest : valV (drK l c r t) kRest = some (.int r) := (valV_neg k13).trans ((valV_neg k23).trans (valV_pos rfl))
theorem get_turn : valV (drK l c r t) kTurn = some (.int t) := (valV_neg k14).trans ((valV_neg k24).trans ((valV_neg k34).trans (valV_pos rfl)))
theorem put_rest : putK (drK l c r t) kRest (.int z) = drK l c z t := by
  have h1 := k13
  have h2 := k23
  have h3 : ¬ kTurn = kRest := fun e => k34 e.symm
  simp [putK, drK, h1, h2, h3]
theorem put_turn : putK (drK l c r t) kTurn (.int z) = drK l c r z := by
  have h1 := k14
  have h2 := k24
  have h3 := k34
  simp [putK, drK, h1, h2, h3]
end
/-- the draw at d, its lists at l and c -/
structure DrawAt (H : Hp) (d l c : Addr) (ls cs : List Int) (r t : Int) : Prop where
  dd : H d = some (.dK (drK l c r t))
  dl : H l = some (.lst (ls.map V.int))
  dc : H c = some (.lst (cs.map V.int))
  lc : l ≠ c
/-- all but d and l stays -/
def SameX (d l : Addr) (H H' : Hp) : Prop := ∀ b o, H b = some o → b ≠ d → b ≠ l → H' b = some o
/-- a draw at d (its list at l): what the callers keep -/
def Draw (H : Hp) (d l c : Addr) : Prop := ∃ ls cs r t, DrawAt H d l c ls cs r t
theorem SameX.refl (d l : Addr) (H : Hp) : SameX d l H H := fun _ _ e _ _ => e
theorem SameX.trans {d l : Addr} {H H1 H2 : Hp} (a : SameX d l H H1) (b : SameX d l H1 H2) : SameX d l H H2 := fun c o e n1 n2 => b c o (a c o e n1 n2) n1 n2
theorem SameX.of {d l : Addr} {H H' : Hp} (a : Same H H') : SameX d l H H' := fun c o e _ _ => a c o e
theorem DrawAt.nl {H : Hp} {d l c : Addr} {ls cs : List Int} {r t : Int} (D : DrawAt H d l c ls cs r t) : d ≠ l := ne_of D.dd D.dl (fun z => by cases z)
theorem DrawAt.nc {H : Hp} {d l c : Addr} {ls cs : List Int} {r t : Int} (D : DrawAt H d l c ls cs r t) : d ≠ c := ne_of D.dd D.dc (fun z => by cases z)
theorem DrawAt.same {H H' : Hp} {d l c : Addr} {ls cs : List Int} {r t : Int} (D : DrawAt H d l c ls cs r t) (s : Same H H') : DrawAt H' d l c ls cs r t := ⟨s _ _ D.dd, s _ _ D.dl, s _ _ D.dc, D.lc⟩
theorem Draw.same {H H' : Hp} {d l c : Addr} (D : Draw H d l c) (s : Same H H') : Draw H' d l c := by
  obtain ⟨ls, cs, r, t, D⟩ := D
  exact ⟨ls, cs, r, t, D.same s⟩
theorem Draw.put {H : Hp} {d l c p : Addr} {o : HO} (D : Draw H d l c) (h1 : p ≠ d) (h2 : p ≠ l) (h3 : p ≠ c) : Draw (upd H p o) d l c := by
  obtain ⟨ls, cs, r, t, D⟩ := D
  exact ⟨ls, cs, r, t, by rw [upd_ne h1.symm]; exact D.dd, by rw [upd_ne h2.symm]; exact D.dl, by rw [upd_ne h3.symm]; exact D.dc, D.lc⟩
theorem Draw.ne {H : Hp} {d l c p : Addr} (D : Draw H d l c) (n : H p = none) : p ≠ d ∧ p ≠ l ∧ p ≠ c := by
  obtain ⟨ls, cs, r, t, D⟩ := D
  exact ⟨(ne_of_none D.dd n).symm, (ne_of_none D.dl n).symm, (ne_of_none D.dc n).symm⟩
theorem DrawAt.rest {H : Hp} {d l c : Addr} {ls cs : List Int} {r t : Int} (D : DrawAt H d l c ls cs r t) (z : Int) : DrawAt (upd H d (.dK (drK l c z t))) d l c ls cs z t :=
  ⟨upd_same, by rw [upd_ne D.nl.symm]; exact D.dl, by rw [upd_ne D.nc.symm]; exact D.dc, D.lc⟩
theorem DrawAt.turn {H : Hp} {d l c : Addr} {ls cs : List Int} {r t : Int} (D : DrawAt H d l c ls cs r t) (z : Int) : DrawAt (upd H d (.dK (drK l c r z))) d l c ls cs r z :=
  ⟨upd_same, by rw [upd_ne D.nl.symm]; exact D.dl, by rw [upd_ne D.nc.symm]; exact D.dc, D.lc⟩
theorem DrawAt.pop {H : Hp} {d l c : Addr} {ls ls' cs : List Int} {r t : Int} (D : DrawAt H d l c ls cs r t) : DrawAt (upd H l (.lst (ls'.map V.int))) d l c ls' cs r t :=
  ⟨by rw [upd_ne D.nl]; exact D.dd, upd_same, by rw [upd_ne D.lc.symm]; exact D.dc, D.lc⟩
theorem sameX_d {H : Hp} {d l : Addr} {o : HO} : SameX d l H (upd H d o) := fun b o e n1 n2 => by rw [upd_ne n1]; exact e
theorem sameX_l {H : Hp} {d l : Addr} {o : HO} : SameX d l H (upd H l o) := fun b o e n1 n2 => by rw [upd_ne n2]; exact e
theorem sameX_new {H : Hp} {d l p : Addr} {o : HO} (n : H p = none) : SameX d l H (upd H p o) := fun b o e n1 n2 => by rw [upd_ne (ne_of_none e n)]; exact e
theorem same_new {H : Hp} {p : Addr} {o : HO} (n : H p = none) : Same H (upd H p o) := fun b o e => by rw [upd_ne (ne_of_none e n)]; exact e
theorem int_at {ns : List Int} {i : Nat} {x : V} (h : (ns.map V.int)[i]? = some x) : ∃ z, ns[i]? = some z ∧ x = .int z := by
  rw [List.getElem?_map] at h
  cases e : ns[i]? with
  | none =>
    rw [e] at h
    cases h
  | some z =>
    rw [e] at h
    exact ⟨z, rfl, (Option.some.inj h).symm⟩
theorem merge_dr {l c : Addr} {r t : Int} : mergeK [] (drK l c r t) = drK l c r t := by
  have h1 := k12
  have h2 := k13
  have h3 := k14
  have h4 := k23
  have h5 := k24
  have h6 := k34
  simp [mergeK, putK, drK, h1, h2, h3, h4, h5, h6]
theorem yesT {s : L2.St} {H : Hp} {A B : Hp → Prop} (h : A H) : tYes s H (fun b H3 => if b = true then A H3 else B H3) := by
  show if true = true then A H else B H
  rw [if_pos rfl]
  exact h
/-! ### lists of ints as data -/
def intsD (ls : List Int) : List PyData := ls.map PyData.int
theorem ints_lay : ∀ ls : List Int, PyData.canLayAll0 (intsD ls) = true
  | [] => rfl
  | z :: r => by
    show (PyData.canLay0 (.int z) && PyData.canLayAll0 (intsD r)) = true
    rw [ints_lay r]
    rfl
theorem ints_depth : ∀ ls : List Int, PyData.depthAll (intsD ls) = 0
  | [] => rfl
  | z :: r => by
    show max (PyData.depth (.int z)) (PyData.depthAll (intsD r)) = 0
    rw [ints_depth r]
    rfl
theorem ints_shaped (ls : List Int) : SeqAt.shaped (.list (intsD ls)) = true := by
  show (PyData.canLayAll0 (intsD ls) && decide (PyData.depthAll (intsD ls) + 1 ≤ 64)) = true
  rw [ints_lay, ints_depth]
  rfl
theorem ints_dp {K : PySem.W.Frag} {H : Hp} : ∀ ls : List Int, DpAll K H (ls.map V.int) (intsD ls)
  | [] => .nil
  | z :: r => .cons (.int z) (ints_dp r)
def spBegun (K : PySem.W.Frag) : Sp := fun vs H Q _ => ∃ (a : Addr) (ns : List Int), vs = [.ref a] ∧ SqL K H a (ns.map V.int) ∧ ns.length ≤ 1000 ∧
  ∀ (d l c : Addr) (H' : Hp), H d = none → H l = none → H c = none → Same H H' → Draw H' d l c → Q (.ref d) H'
section
variable {H : Hp} {d l c : Addr} {ls cs : List Int} {r t : Int}
theorem DrawAt.gLarge (D : DrawAt H d l c ls cs r t) : DGet H d (.str "large") (some (.ref l)) := by
  have z := DGet.k (k := kLarge) D.dd
  rw [get_large] at z
  exact z
theorem DrawAt.gCells (D : DrawAt H d l c ls cs r t) : DGet H d (.str "cells") (some (.ref c)) := by
  have z := DGet.k (k := kCells) D.dd
  rw [get_cells] at z
  exact z
theorem DrawAt.gRest (D : DrawAt H d l c ls cs r t) : DGet H d (.str "rest") (some (.int r)) := by
  have z := DGet.k (k := kRest) D.dd
  rw [get_rest] at z
  exact z
theorem DrawAt.gTurn (D : DrawAt H d l c ls cs r t) : DGet H d (.str "turn") (some (.int t)) := by
  have z := DGet.k (k := kTurn) D.dd
  rw [get_turn] at z
  exact z
theorem DrawAt.pRest (D : DrawAt H d l c ls cs r t) (z : Int) : DPut H d (.str "rest") (.int z) (upd H d (.dK (drK l c z t))) := by
  have q := DPut.k (k := kRest) (v := .int z) D.dd (by show 4 < sizeLine; decide)
  rw [put_rest] at q
  exact q
theorem DrawAt.pTurn (D : DrawAt H d l c ls cs r t) (z : Int) : DPut H d (.str "turn") (.int z) (upd H d (.dK (drK l c r z))) := by
  have q := DPut.k (k := kTurn) (v := .int z) D.dd (by show 4 < sizeLine; decide)
  rw [put_turn] at q
  exact q
end
def spBlend : Sp := fun vs H Q _ => ∃ (d l c : Addr) (ls cs : List Int) (r t : Int), vs = [.ref d] ∧ DrawAt H d l c ls cs r t ∧
  ∀ (v t' : Int) (H' : Hp), DrawAt H' d l c ls cs r t' → SameX d l H H' → Q (.int v) H'
def spTake : Sp := fun vs H Q _ => ∃ (d l c : Addr) (n : Int), vs = [.ref d, .int n] ∧ Draw H d l c ∧ 0 < n ∧ n.natAbs.log2 < 9000 ∧
  ∀ (v : Int) (H' : Hp), 0 ≤ v → v < n → Draw H' d l c → SameX d l H H' → Q (.int v) H'
section
variable {P : Program} {w : World} {K : PySem.W.Frag} {mg : Str → Option Value} {base : Heap} {f fB fT : Addr} {fd fdB fdT : FuncData}
theorem scBegun : FnScope ["script", "large", "cell"] ["script"] (defScope sBegun) := ⟨rfl, rfl, rfl, by decide +kernel, rfl, by decide +kernel, by decide +kernel⟩
theorem ok_begun (F : FnP K "_law_begun" sBegun f fd) (abs0 : mg "abs" = none) : FnOk P w K mg base CX0 1 f fd ["script"] (spBegun K) := by
  refine F.ok scBegun (fun vs H Q E h => ?_) (fun cdv A outer s H vs Q E hr h => ?_)
  · obtain ⟨a, ns, rfl, _⟩ := h
    rfl
  · obtain ⟨a, ns, rfl, hS, hlen, k⟩ := h
    refine ⟨_, PSs.nox (pss_cons (ps_setLc (i := 1) (own := [("cell", 2)]) (g := gName 2) rfl scBegun.nd rfl rfl (sw_true rfl rfl rfl (by decide +kernel)) (pi_list (pv 0)) (blkOk_by (own := [("cell", 2)]) (N := ["script", "large", "cell"]) (sc := defScope sBegun) (by decide +kernel))
        (fun _ _ _ _ _ => pg_name (i := 2) scBegun.nd rfl (Or.inl rfl)) (fun _ _ _ _ _ => pts_one (pt_cmpR op_ge (pe_callB call_abs (by rfl) abs0 boot_abs (pa_cons (pv 2) pa_nil)) (pe_op op_pow pe_int pe_int) (nomark _)))
        (fun _ _ _ _ _ => pe_op op_sub (pe_callB call_abs (by rfl) abs0 boot_abs (pa_cons (pv 2) pa_nil)) (pe_op op_pow pe_int pe_int)))
      (pss_one (ps_ret (pe_disp (pps_cons pe_str (pv 1) (pps_cons pe_str (pe_lc (own := [("cell", 2)]) (g := gName 2) rfl scBegun.nd (pi_list (pv 0)) (blkOk_by (own := [("cell", 2)]) (N := ["script", "large", "cell"]) (sc := defScope sBegun) (by decide +kernel))
        (fun _ _ _ _ _ => pg_name (i := 2) scBegun.nd rfl (Or.inl rfl)) (fun _ _ _ _ _ => pts_nil) (fun _ _ _ _ _ => pe_callB call_abs (by rfl) abs0 boot_abs (pa_cons (pv 2) pa_nil)))
        (pps_cons pe_str pe_int (pps_cons pe_str pe_int pps_nil)))) (by rfl) (by rfl) (fun z => by cases z) (by decide))))), ?_⟩
    refine ⟨_, rfl, a, rfl, ⟨_, hS⟩, fun D hD => lc_list (K := K) (a := a) (xs := ns.map V.int) (fun i H' => ∃ out : List Int, H' D = some (.lst (out.map V.int)) ∧ out.length ≤ i ∧ Same H H')
      ⟨[], upd_same, Nat.le_refl _, same_new hD⟩ (fun i H' _ ⟨_, _, _, s⟩ => s.seq hS) ?_ ?_⟩
    · rintro i x H' hi ⟨out, h1, h2, s⟩
      obtain ⟨z, hz, rfl⟩ := int_at hi
      have hlt : i < ns.length := by
        by_cases q : i < ns.length
        · exact q
        · rw [List.getElem?_eq_none (by omega)] at hz
          cases hz
      refine ⟨rfl, _, rfl, _, rfl, _, _, rfl, rfl, ⟨by decide, by decide, by decide⟩, _, _, rfl, rfl, _, rfl, ?_⟩
      refine ite2 (fun _ => ?_) (fun _ => ?_)
      · refine ⟨_, rfl, _, rfl, _, _, rfl, rfl, ⟨by decide, by decide, by decide⟩, _, _, rfl, rfl, _, h1, ?_, ?_⟩
        · rw [List.length_map]
          exact small1000 (by omega)
        · exact ⟨out ++ [(if z < 0 then -z else z) - 10 ^ (18 : Int).toNat], by rw [upd_same, List.map_append]; rfl, by rw [List.length_append]; show out.length + 1 ≤ i + 1; omega, fun b o e => by rw [upd_ne (ne_of_none e hD)]; exact s b o e⟩
      · exact ⟨out, h1, by omega, s⟩
    · rintro H1 ⟨out, h1, h2, s⟩
      intro p hp
      refine ⟨_, rfl, _, rfl, a, rfl, ⟨ns.map V.int, ?_⟩, fun D2 hD2 => lc_list (K := K) (a := a) (xs := ns.map V.int) (fun i H' => ∃ out : List Int, H' D2 = some (.lst (out.map V.int)) ∧ out.length ≤ i ∧ Same (upd H1 p (.dK [])) H')
        ⟨[], upd_same, Nat.le_refl _, same_new hD2⟩ (fun i H' _ ⟨_, _, _, s2⟩ => (s.trans ((same_new hp).trans s2)).seq hS) ?_ ?_⟩
      · exact ((same_new hp).seq (s.seq hS))
      · rintro i x H' hi ⟨out2, g1, g2, s2⟩
        obtain ⟨z, hz, rfl⟩ := int_at hi
        have hlt : i < ns.length := by
          by_cases q : i < ns.length
          · exact q
          · rw [List.getElem?_eq_none (by omega)] at hz
            cases hz
        refine ⟨rfl, yesT ?_⟩
        refine ⟨_, rfl, _, rfl, _, g1, ?_, ?_⟩
        · rw [List.length_map]
          exact small1000 (by omega)
        · exact ⟨out2 ++ [(if z < 0 then -z else z)], by rw [upd_same, List.map_append]; rfl, by rw [List.length_append]; show out2.length + 1 ≤ i + 1; omega, fun b o e => by rw [upd_ne (ne_of_none e hD2)]; exact s2 b o e⟩
      · rintro H2 ⟨out2, g1, g2, s2⟩
        have hp2 : H2 p = some (.dK []) := s2 _ _ upd_same
        refine ⟨hp2, drK D D2 0 0, rfl, (by show 4 ≤ 15; decide), ?_⟩
        have nD : D ≠ p := ne_of_none h1 hp
        have nD2 : D2 ≠ p := (ne_of_none upd_same hD2).symm
        have e1 : H2 D = some (.lst (out.map V.int)) := s2 _ _ (by rw [upd_ne nD]; exact h1)
        have nDD : D ≠ D2 := ne_of_none (o := .lst (out.map V.int)) (by rw [upd_ne nD]; exact h1) hD2
        have em : mergeK [] (drK D D2 0 0) = drK D D2 0 0 := merge_dr
        rw [em]
        refine k p D D2 _ (s.free hp) hD ((s.trans (same_new hp)).free hD2) (fun b o e => ?_) ⟨out, out2, 0, 0, upd_same, by rw [upd_ne nD]; exact e1, by rw [upd_ne nD2]; exact g1, nDD⟩
        have nb : b ≠ p := ne_of_none (s b o e) hp
        rw [upd_ne nb]
        exact s2 b o (by rw [upd_ne nb]; exact s b o e)
theorem scBlend : FnScope ["draw", "turn", "found", "prime", "stirred", "cell"] ["draw"] (defScope sBlend) := ⟨rfl, rfl, rfl, by decide +kernel, rfl, by decide +kernel, by decide +kernel⟩
theorem pow_small {z q : Int} (h0 : 0 ≤ z) (h1 : z < q) (hq : q ≤ 2147483648) : CPow z 5 := ⟨by decide, by decide, by
  have e : (2 : Nat) ^ 64 = 18446744073709551616 := by decide
  omega⟩
theorem ok_blend (F : FnP K "_law_blend" sBlend f fd) (int0 : mg "int" = none) : FnOk P w K mg base CX0 1 f fd ["draw"] spBlend := by
  refine F.ok scBlend (fun vs H Q E h => ?_) (fun cdv A outer s H vs Q E hr h => ?_)
  · obtain ⟨d, l, c, ls, cs, r, t, rfl, _⟩ := h
    rfl
  · obtain ⟨d, l, c, ls, cs, r, t, rfl, D, k⟩ := h
    have hu := hu_of hr
    refine ⟨_, PSs.nox (pss_cons (ps_par (i := 1) (j := 2) (by rfl) scBlend.nd rfl rfl (by decide) rfl rfl (pa_cons (pe_op op_add (pe_dget hu (pv 0) pe_str (fun _ _ => rfl)) pe_int) (pa_cons pe_int pa_nil)) (by rfl))
      (pss_cons (ps_dput hu (pv 0) pe_str (pv 1) rfl)
      (pss_cons (ps_for PassesOwn.never rfl (pi_list (pe_lst (pa_cons pe_int (pa_cons pe_int (pa_cons pe_int pa_nil))))) (pg_name (i := 3) scBlend.nd rfl (Or.inl rfl))
        (pss_cons (ps_set (i := 4) scBlend.nd rfl (Or.inl rfl) (pe_op op_mod (pe_callTy call_int1 (by rfl) int0 boot_int (pa_cons (pe_op op_add (pe_op op_mul (pv 1) pe_int) (pe_op op_fdiv (pv 3) pe_int)) pa_nil)) (pv 3)))
        (pss_cons (ps_for PassesOwn.never rfl (pi_list (pe_dget hu (pv 0) pe_str (fun _ _ => rfl))) (pg_name (i := 5) scBlend.nd rfl (Or.inl rfl))
          (pss_one (ps_set (i := 4) scBlend.nd rfl (Or.inl rfl) (pe_op op_mod (pe_callTy call_int1 (by rfl) int0 boot_int (pa_cons (pe_op op_add (pe_op op_add (pe_op op_mul (pv 4) pe_int) (pe_callTy call_int1 (by rfl) int0 boot_int (pa_cons (pv 5) pa_nil))) pe_int) pa_nil)) (pv 3)))))
        (pss_one (ps_set (i := 2) scBlend.nd rfl (Or.inl rfl) (pe_op op_add (pe_op op_mul (pv 2) pe_int) (pe_op op_mod (pe_callTy call_int1 (by rfl) int0 boot_int (pa_cons (pe_op op_pow (pv 4) pe_int) pa_nil)) (pv 3))))))))
      (pss_one (ps_ret (pv 2)))))), ?_⟩
    refine ⟨_, rfl, d, _, rfl, D.gTurn, _, _, rfl, rfl, _, _, rfl, ?_⟩
    refine ⟨_, rfl, _, rfl, d, _, rfl, D.pTurn _, ?_⟩
    have D1 := D.turn (t + 1)
    refine ⟨(by show 3 ≤ sizeLine; decide), fun p hp => ?_⟩
    have D2 := D1.same (same_new (o := .lst ([2147483629, 2147483587, 2147483579].map V.int)) hp)
    refine ⟨p, rfl, ⟨[2147483629, 2147483587, 2147483579].map V.int, SqL.of upd_same⟩, for_list (K := K) (a := p) (xs := [2147483629, 2147483587, 2147483579].map V.int)
      (fun i σ H2 => ∃ (v : Int) (x3 x4 x5 : Option V), σ = [some (.ref d), some (.int (t + 1)), some (.int v), x3, x4, x5] ∧ H2 = upd (upd H d (.dK (drK l c r (t + 1)))) p (.lst ([2147483629, 2147483587, 2147483579].map V.int)))
      ⟨0, none, none, none, rfl, rfl⟩ (fun i σ H2 _ ⟨_, _, _, _, _, e⟩ => by rw [e]; exact SqL.of upd_same) ?_ ?_⟩
    · rintro i x σ H2 hi ⟨v, x3, x4, x5, rfl, rfl⟩
      obtain ⟨q, hq, rfl⟩ := int_at hi
      have hq2 : 0 < q ∧ q ≤ 2147483648 := by
        rcases i with _ | _ | _ | i
        · cases hq; exact ⟨by decide, by decide⟩
        · cases hq; exact ⟨by decide, by decide⟩
        · cases hq; exact ⟨by decide, by decide⟩
        · cases hq
      refine ⟨_, rfl, _, _, rfl, rfl, .inr ⟨by decide, by decide⟩, _, rfl, _, _, rfl, rfl, ⟨by decide, by decide⟩, _, _, rfl, rfl, .inl ⟨_, rfl, _, rfl, _, _, rfl, rfl, hq2.1, ?_⟩⟩
      refine ⟨_, rfl, d, _, rfl, D2.gCells, c, rfl, ⟨cs.map V.int, SqL.of D2.dc⟩, for_list (K := K) (a := c) (xs := cs.map V.int)
        (fun j σ H2 => ∃ (z : Int) (y5 : Option V), σ = [some (.ref d), some (.int (t + 1)), some (.int v), some (.int q), some (.int z), y5] ∧ 0 ≤ z ∧ z < q ∧ H2 = upd (upd H d (.dK (drK l c r (t + 1)))) p (.lst ([2147483629, 2147483587, 2147483579].map V.int)))
        ⟨_, x5, rfl, Int.emod_nonneg _ (by omega), Int.emod_lt_of_pos _ hq2.1, rfl⟩ (fun j σ H2 _ ⟨_, _, _, _, _, e⟩ => by rw [e]; exact SqL.of D2.dc) ?_ ?_⟩
      · rintro j x σ H2 hj ⟨z, y5, rfl, z0, z1, rfl⟩
        obtain ⟨u, hu2, rfl⟩ := int_at hj
        refine ⟨_, rfl, _, _, rfl, rfl, .inr ⟨by decide, by decide⟩, _, rfl, .inl ⟨_, rfl, _, _, rfl, rfl, _, _, rfl, rfl, .inl ⟨_, rfl, _, rfl, _, _, rfl, rfl, hq2.1, ?_⟩⟩⟩
        exact ⟨_, some (.int u), rfl, Int.emod_nonneg _ (by omega), Int.emod_lt_of_pos _ hq2.1, rfl⟩
      · rintro σ H2 ⟨z, y5, rfl, z0, z1, rfl⟩
        refine ⟨_, rfl, _, _, rfl, rfl, .inr ⟨by decide, by decide⟩, _, rfl, _, _, rfl, rfl, pow_small z0 z1 hq2.2, .inl ⟨_, rfl, _, rfl, _, _, rfl, rfl, hq2.1, _, _, rfl, rfl, ?_⟩⟩
        exact ⟨_, some (.int q), some (.int z), y5, rfl, rfl⟩
    · rintro σ H2 ⟨v, x3, x4, x5, rfl, rfl⟩
      exact ⟨_, rfl, k v (t + 1) _ D2 (sameX_d.trans (sameX_new hp))⟩
theorem pop_ix (n : Nat) : seqIndex? 0 (n + 1) = some 0 := by
  unfold seqIndex?
  simp
theorem scTake : FnScope ["draw", "size", "found"] ["draw", "size"] (defScope sTake) := ⟨rfl, rfl, rfl, by decide +kernel, rfl, by decide +kernel, by decide +kernel⟩
theorem ok_take (F : FnP K "_law_take" sTake f fd) (int0 : mg "int" = none) (FB : FnP K "_law_blend" sBlend fB fdB) (gB : mg "_law_blend" = some (.ref fB)) : FnOk P w K mg base CX0 2 f fd ["draw", "size"] spTake := by
  have GB : FnOk P w K mg base CX0 1 fB fdB ["draw"] spBlend := ok_blend FB int0
  have bB : Binds K fdB ["draw"] [] := FB.bindsN fun _ _ _ _ _ _ us hl => match us, hl with | [_], _ => rfl
  refine F.ok scTake (fun vs H Q E h => ?_) (fun cdv A outer s H vs Q E hr h => ?_)
  · obtain ⟨d, l, c, n, rfl, _⟩ := h
    rfl
  · obtain ⟨d, l, c, n, rfl, ⟨ls, cs, r, t, D⟩, n0, n1, k⟩ := h
    have hu := hu_of hr
    refine ⟨_, PSs.nox (pss_cons (ps_while PassesOwn.never (PW.pt (pw_and (pt_cmpR op_eq (pe_dget hu (pv 0) pe_str (fun _ _ => rfl)) pe_int (nomark _)) (pw_and1 (pt_cmpR (op_neD hr.units) (pe_dget hu (pv 0) pe_str (fun _ _ => rfl)) (pe_lst pa_nil) (nomark _)))))
        (pss_one (ps_dput hu (pv 0) pe_str (pe_bm PySem.F.plainAttrs_list PySem.F.slot_list_pop PySem.F.type_list_pop mt_popAt (pe_dget hu (pv 0) pe_str (fun _ _ => rfl)) (pa_cons pe_int pa_nil)) rfl)))
      (pss_cons (ps_if (pt_cmpR op_eq (pe_dget hu (pv 0) pe_str (fun _ _ => rfl)) pe_int (nomark _))
          (pss_one (ps_dput hu (pv 0) pe_str (pe_call GB hr rfl gB FB.kp bB .nil pass0 (pa_cons (pv 0) pa_nil)) rfl)) pss_nil)
      (pss_cons (ps_set (i := 2) scTake.nd rfl (Or.inl rfl) (pe_op op_mod (pe_callTy call_int1 (by rfl) int0 boot_int (pa_cons (pe_dget hu (pv 0) pe_str (fun _ _ => rfl)) pa_nil)) (pv 1)))
      (pss_cons (ps_dput hu (pv 0) pe_str (pe_op op_fdivW (pe_callTy call_int1 (by rfl) int0 boot_int (pa_cons (pe_dget hu (pv 0) pe_str (fun _ _ => rfl)) pa_nil)) (pv 1)) rfl)
      (pss_one (ps_ret (pv 2))))))), ?_⟩
    refine ⟨fun m σ H' => ∃ (ls' : List Int) (r' : Int), σ = [some (.ref d), some (.int n), none] ∧ DrawAt H' d l c ls' cs r' t ∧ SameX d l H H' ∧ m = ls'.length, ⟨_, ls, r, rfl, D, SameX.refl _ _ _, rfl⟩, ?_⟩
    rintro m σ H1 ⟨ls1, r1, rfl, D1, s1, rfl⟩
    refine ⟨_, rfl, d, _, rfl, D1.gRest, rfl, _, rfl, ?_⟩
    refine ite2 (fun e0 => ?_) (fun e0 => ?_)
    · refine ⟨_, rfl, d, _, rfl, D1.gLarge, ?_⟩
      refine ⟨(by show 0 ≤ sizeLine; decide), fun p hp => ?_⟩
      have D2 := D1.same (same_new (o := .lst []) hp)
      have s2 := s1.trans (sameX_new (o := .lst []) hp)
      refine ⟨.list (intsD ls1), .list [], .lst (SqL.of D2.dl) (ints_dp _), .lst (SqL.of upd_same) .nil, ints_shaped _, rfl, _, rfl, ?_⟩
      cases ls1 with
      | nil =>
        refine iteF ?_
        have D1 := D2
        have s1 := s2
        refine ⟨_, rfl, d, _, rfl, D1.gRest, rfl, _, rfl, ?_⟩
        refine ite2 (fun _ => ?_) (fun _ => ?_)
        · refine ⟨_, rfl, d, l, c, _, cs, _, t, rfl, D1, fun v t' H2 D2 s2 => ?_⟩
          have DD := D2.rest v
          have SS := (s1.trans s2).trans (sameX_d (o := .dK (drK l c v t')))
          refine ⟨_, rfl, d, _, rfl, D2.pRest v, ?_⟩
          refine ⟨_, rfl, d, _, rfl, DD.gRest, .inl ⟨_, rfl, _, rfl, _, _, rfl, rfl, n0, ?_⟩⟩
          refine ⟨_, rfl, d, _, rfl, DD.gRest, .inl ⟨_, rfl, _, rfl, _, _, rfl, rfl, ⟨n0, n1⟩, _, rfl, d, _, rfl, DD.pRest _, _, rfl, ?_⟩⟩
          exact k _ _ (Int.emod_nonneg _ (by omega)) (Int.emod_lt_of_pos _ n0) ⟨_, cs, _, _, DD.rest _⟩ (SS.trans sameX_d)
        · have DD := D1
          have SS := s1
          refine ⟨_, rfl, d, _, rfl, DD.gRest, .inl ⟨_, rfl, _, rfl, _, _, rfl, rfl, n0, ?_⟩⟩
          refine ⟨_, rfl, d, _, rfl, DD.gRest, .inl ⟨_, rfl, _, rfl, _, _, rfl, rfl, ⟨n0, n1⟩, _, rfl, d, _, rfl, DD.pRest _, _, rfl, ?_⟩⟩
          exact k _ _ (Int.emod_nonneg _ (by omega)) (Int.emod_lt_of_pos _ n0) ⟨_, cs, _, _, DD.rest _⟩ (SS.trans sameX_d)
      | cons z zs =>
        refine iteT ⟨_, fun σ' H' e => e, ?_⟩
        refine ⟨_, rfl, d, _, rfl, D2.gLarge, .inl ⟨rfl, _, SqL.of D2.dl⟩, ?_⟩
        refine ⟨l, _, _, 0, V.int z, rfl, rfl, D2.dl, by decide, by decide, pop_ix _, rfl, ?_⟩
        have D3 := D2.pop (ls' := zs)
        refine ⟨_, rfl, d, _, rfl, D3.pRest _, ?_⟩
        exact ⟨zs.length, Nat.lt_succ_self _, zs, z, rfl, D3.rest z, (s2.trans sameX_l).trans sameX_d, rfl⟩
    · refine iteF ?_
      refine ⟨_, rfl, d, _, rfl, D1.gRest, rfl, _, rfl, ?_⟩
      refine ite2 (fun _ => ?_) (fun _ => ?_)
      · refine ⟨_, rfl, d, l, c, _, cs, _, t, rfl, D1, fun v t' H2 D2 s2 => ?_⟩
        have DD := D2.rest v
        have SS := (s1.trans s2).trans (sameX_d (o := .dK (drK l c v t')))
        refine ⟨_, rfl, d, _, rfl, D2.pRest v, ?_⟩
        refine ⟨_, rfl, d, _, rfl, DD.gRest, .inl ⟨_, rfl, _, rfl, _, _, rfl, rfl, n0, ?_⟩⟩
        refine ⟨_, rfl, d, _, rfl, DD.gRest, .inl ⟨_, rfl, _, rfl, _, _, rfl, rfl, ⟨n0, n1⟩, _, rfl, d, _, rfl, DD.pRest _, _, rfl, ?_⟩⟩
        exact k _ _ (Int.emod_nonneg _ (by omega)) (Int.emod_lt_of_pos _ n0) ⟨_, cs, _, _, DD.rest _⟩ (SS.trans sameX_d)
      · have DD := D1
        have SS := s1
        refine ⟨_, rfl, d, _, rfl, DD.gRest, .inl ⟨_, rfl, _, rfl, _, _, rfl, rfl, n0, ?_⟩⟩
        refine ⟨_, rfl, d, _, rfl, DD.gRest, .inl ⟨_, rfl, _, rfl, _, _, rfl, rfl, ⟨n0, n1⟩, _, rfl, d, _, rfl, DD.pRest _, _, rfl, ?_⟩⟩
        exact k _ _ (Int.emod_nonneg _ (by omega)) (Int.emod_lt_of_pos _ n0) ⟨_, cs, _, _, DD.rest _⟩ (SS.trans sameX_d)
/-! ### _law_pick -/
def spPick (K : PySem.W.Frag) : Sp := fun vs H Q _ => ∃ (d l c a : Addr) (xs : List V), vs = [.ref d, .ref a] ∧ Draw H d l c ∧ (∀ H', SameX d l H H' → SqL K H' a xs) ∧ xs ≠ [] ∧ xs.length ≤ 1000 ∧
  ∀ (v : V) (H' : Hp), v ∈ xs → Draw H' d l c → SameX d l H H' → Q v H'
theorem log_small {n : Nat} (h : n ≤ 1000) : ((n : Int)).natAbs.log2 < 9000 := by
  have e : ((n : Int)).natAbs = n := by omega
  rw [e]
  by_cases z : n = 0
  · rw [z]
    decide
  · have k : n.log2 < 10 := (Nat.log2_lt z).mpr (by omega)
    omega
theorem scPick : FnScope ["draw", "some"] ["draw", "some"] (defScope sPick) := ⟨rfl, rfl, rfl, by decide +kernel, rfl, by decide +kernel, by decide +kernel⟩
theorem ok_pick (F : FnP K "_law_pick" sPick f fd) (len0 : mg "len" = none) (GT : FnOk P w K mg base CX0 2 fT fdT ["draw", "size"] spTake) (bT : Binds K fdT ["draw", "size"] []) (gT : mg "_law_take" = some (.ref fT)) (kT : PySem.W.keepIn K (.ref fT) = true) :
    FnOk P w K mg base CX0 3 f fd ["draw", "some"] (spPick K) := by
  refine F.ok scPick (fun vs H Q E h => ?_) (fun cdv A outer s H vs Q E hr h => ?_)
  · obtain ⟨d, l, c, a, xs, rfl, _⟩ := h
    rfl
  · obtain ⟨d, l, c, a, xs, rfl, D, hA, hne, hlen, q⟩ := h
    refine ⟨_, PSs.nox (pss_one (ps_ret (pe_ix ix_list (pv 1) (pe_call GT hr rfl gT kT bT .nil pass0 (pa_cons (pv 0) (pa_cons (pe_callB call_len (by rfl) len0 PySem.boot_len (pa_cons (pv 1) pa_nil)) pa_nil))) (fun _ _ => rfl)))), ?_⟩
    have h0 : 0 < xs.length := List.length_pos_iff.mpr hne
    refine ⟨_, rfl, _, rfl, _, rfl, _, xs.length, rfl, .inl ⟨_, hA H (SameX.refl _ _ _), rfl⟩, d, l, c, _, rfl, D, by omega, log_small hlen, fun v H' v0 v1 D' s' => ?_⟩
    obtain ⟨i, rfl⟩ : ∃ i : Nat, v = (i : Int) := ⟨v.toNat, by omega⟩
    have hi : i < xs.length := by omega
    refine ⟨a, xs, _, xs[i], rfl, rfl, hA H' s', atI_nat (by simp [hi]), ?_⟩
    exact q _ _ (List.getElem_mem hi) D' s'
end
end Dr

set_option Elab.async false
set_option linter.all false
set_option maxRecDepth 100000
set_option maxHeartbeats 4000000
set_option pp.maxSteps 3000
namespace K00
open PySem PySem.Spec PyProof.Rows L2 Dr Xv
abbrev sNum : Stmt := top 5
abbrev sWithin : Stmt := top 6
abbrev sNums : Stmt := top 7
abbrev sNumL : Stmt := top 8
abbrev sIsRow : Stmt := top 12
abbrev sChk : Stmt := top 13
abbrev sInvt : Stmt := top 14
abbrev sPlus : Stmt := top 15
abbrev sTimes : Stmt := top 16
abbrev sInv : Stmt := top 17
abbrev sPow : Stmt := top 18
abbrev sZeros : Stmt := top 19
abbrev sLed : Stmt := top 20
abbrev sCaught : Stmt := top 26
abbrev sLTimes : Stmt := top 27
abbrev sSome : Stmt := top 28
abbrev sRaised : Stmt := top 29
abbrev sLaw : Stmt := top 30
/-- a plain value: nothing, a truth value, a number, a text, a list, a tuple, a dict -/
inductive PV (H : Hp) : V → Prop
  | non : PV H .non
  | bl (b : Bool) : PV H (.bl b)
  | int (i : Int) : PV H (.int i)
  | str (x : Str) : PV H (.str x)
  | lst {a : Addr} {xs : List V} : H a = some (.lst xs) → PV H (.ref a)
  | tup {a : Addr} {xs : List V} : H a = some (.tup xs) → PV H (.ref a)
  | dK {a : Addr} {kvs : List (Key × V)} : H a = some (.dK kvs) → PV H (.ref a)
theorem PV.same {H H' : Hp} {x : V} (h : PV H x) (s : Same H H') : PV H' x := by
  cases h with
  | non => exact .non
  | bl b => exact .bl b
  | int i => exact .int i
  | str x => exact .str x
  | lst e => exact .lst (s _ _ e)
  | tup e => exact .tup (s _ _ e)
  | dK e => exact .dK (s _ _ e)
def isNum : V → Bool
  | .int _ => true
  | _ => false
/-- isinstance(x, int), isinstance(x, bool) of a plain value -/
def kInt : V → Bool
  | .int _ => true
  | .bl _ => true
  | _ => false
def kBool : V → Bool
  | .bl _ => true
  | _ => false
theorem PV.ty {K : PySem.W.Frag} {H : Hp} {x : V} (h : PV H x) : ∃ t, TyX K H x t ∧ PySem.W.kitOne K t (.type "int") = some (kInt x) ∧ PySem.W.kitOne K t (.type "bool") = some (kBool x) := by
  cases h with
  | non => exact ⟨_, .base .non, kit_ty (r := false) (by decide +kernel), kit_ty (r := false) (by decide +kernel)⟩
  | bl b => exact ⟨_, .base (.bl b), kit_ty (r := true) (by decide +kernel), kit_ty (r := true) (by decide +kernel)⟩
  | int i => exact ⟨_, .base (.int i), kit_ty (r := true) (by decide +kernel), kit_ty (r := false) (by decide +kernel)⟩
  | str x => exact ⟨_, .base (.str x), kit_ty (r := false) (by decide +kernel), kit_ty (r := false) (by decide +kernel)⟩
  | lst e => exact ⟨_, .base (.lst e), kit_ty (r := false) (by decide +kernel), kit_ty (r := false) (by decide +kernel)⟩
  | tup e => exact ⟨_, .base (.tup e), kit_ty (r := false) (by decide +kernel), kit_ty (r := false) (by decide +kernel)⟩
  | dK e => exact ⟨_, .base (.dK e), kit_ty (r := false) (by decide +kernel), kit_ty (r := false) (by decide +kernel)⟩
theorem kInt_num (x : V) : (kInt x && !kBool x) = isNum x := by
  cases x <;> rfl
section
variable {P : Program} {w : World} {K : PySem.W.Frag} {mg : Str → Option Value} {base : Heap} {f : Addr} {fd : FuncData}
def spNum : Sp := fun vs H Q _ => ∃ x, vs = [x] ∧ PV H x ∧ Q (.bl (isNum x)) H
theorem scNum : FnScope ["thing"] ["thing"] (defScope sNum) := ⟨rfl, rfl, rfl, by decide +kernel, rfl, by decide +kernel, by decide +kernel⟩
theorem ok_num (F : FnP K "is_number" sNum f fd) (isi0 : mg "isinstance" = none) (int0 : mg "int" = none) (bool0 : mg "bool" = none) : FnOk P w K mg base CX0 1 f fd ["thing"] spNum := by
  refine F.ok scNum (fun vs H Q E h => ?_) (fun cdv A outer s H vs Q E hr h => ?_)
  · obtain ⟨x, rfl, _⟩ := h
    rfl
  · obtain ⟨x, rfl, hx, q⟩ := h
    refine ⟨_, PSs.nox (pss_one (ps_ret (pe_and (pe_callB call_isi (by rfl) isi0 boot_isinstance (pa_cons (pv 0) (pa_cons (pe_bltn (v := .ty "int") rfl int0 boot_int rfl) pa_nil)))
      (pe_one (pe_not (pe_callB call_isi (by rfl) isi0 boot_isinstance (pa_cons (pv 0) (pa_cons (pe_bltn (v := .ty "bool") rfl bool0 boot_bool rfl) pa_nil)))))))), ?_⟩
    obtain ⟨t, ty, k1, k2⟩ := hx.ty (K := K)
    refine ⟨_, rfl, x, _, t, _, _, rfl, .ty "int", ty, k1, kInt x, rfl, ?_⟩
    have e := kInt_num x
    cases hk : kInt x with
    | true =>
      refine iteT ⟨_, rfl, x, _, t, _, _, rfl, .ty "bool", ty, k2, kBool x, rfl, ?_⟩
      rw [hk, Bool.true_and] at e
      rw [e]
      exact q
    | false =>
      refine iteF ?_
      rw [hk, Bool.false_and] at e
      rw [e]
      exact q
/-- least <= thing <= greatest, a number -/
def within (x : V) (lo hi : Int) : Bool := match x with
  | .int i => decide (lo ≤ i) && decide (i ≤ hi)
  | _ => false
def spWithin : Sp := fun vs H Q _ => ∃ (x : V) (lo hi : Int), vs = [x, .int lo, .int hi] ∧ PV H x ∧ Q (.bl (within x lo hi)) H
theorem scWithin : FnScope ["thing", "least", "greatest"] ["thing", "least", "greatest"] (defScope sWithin) := ⟨rfl, rfl, rfl, by decide +kernel, rfl, by decide +kernel, by decide +kernel⟩
theorem ok_within {fN : Addr} {fdN : FuncData} (F : FnP K "is_within" sWithin f fd) (GN : FnOk P w K mg base CX0 1 fN fdN ["thing"] spNum) (bN : L2.Binds K fdN ["thing"] []) (gN : mg "is_number" = some (.ref fN)) (kN : PySem.W.keepIn K (.ref fN) = true) :
    FnOk P w K mg base CX0 2 f fd ["thing", "least", "greatest"] spWithin := by
  refine F.ok scWithin (fun vs H Q E h => ?_) (fun cdv A outer s H vs Q E hr h => ?_)
  · obtain ⟨x, lo, hi, rfl, _⟩ := h
    rfl
  · obtain ⟨x, lo, hi, rfl, hx, q⟩ := h
    refine ⟨_, PSs.nox (pss_one (ps_ret (pe_and (pe_call GN hr rfl gN kN bN .nil pass0 (pa_cons (pv 0) pa_nil)) (pe_one (pe_chain op_le op_le (pv 1) (pv 0) (pv 2)))))), ?_⟩
    refine ⟨_, rfl, x, rfl, hx, isNum x, rfl, ?_⟩
    cases x with
    | int i =>
      refine iteT ⟨_, rfl, _, rfl, _, _, rfl, rfl, _, rfl, ?_⟩
      have e : within (.int i) lo hi = (decide (lo ≤ i) && decide (i ≤ hi)) := rfl
      rw [e] at q
      by_cases c : lo ≤ i
      · rw [decide_eq_true c, Bool.true_and] at q
        rw [decide_eq_true c]
        exact iteT ⟨_, rfl, _, _, rfl, rfl, q⟩
      · rw [decide_eq_false c, Bool.false_and] at q
        rw [decide_eq_false c]
        exact iteF q
    | _ => exact iteF q
/-- what it holds, as a list or a tuple -/
inductive Items (H : Hp) : V → Option (List V) → Prop
  | non : Items H .non none
  | bl (b : Bool) : Items H (.bl b) none
  | int (i : Int) : Items H (.int i) none
  | str (x : Str) : Items H (.str x) none
  | lst {a : Addr} {xs : List V} : H a = some (.lst xs) → Items H (.ref a) (some xs)
  | tup {a : Addr} {xs : List V} : H a = some (.tup xs) → Items H (.ref a) (some xs)
  | dK {a : Addr} {kvs : List (Key × V)} : H a = some (.dK kvs) → Items H (.ref a) none
theorem Items.same {H H' : Hp} {x : V} {o : Option (List V)} (h : Items H x o) (s : Same H H') : Items H' x o := by
  cases h with
  | non => exact .non
  | bl b => exact .bl b
  | int i => exact .int i
  | str x => exact .str x
  | lst e => exact .lst (s _ _ e)
  | tup e => exact .tup (s _ _ e)
  | dK e => exact .dK (s _ _ e)
theorem Items.pv {H : Hp} {x : V} {o : Option (List V)} (h : Items H x o) : PV H x := by
  cases h with
  | non => exact .non
  | bl b => exact .bl b
  | int i => exact .int i
  | str x => exact .str x
  | lst e => exact .lst e
  | tup e => exact .tup e
  | dK e => exact .dK e
def AllPV (H : Hp) (o : Option (List V)) : Prop := ∀ xs, o = some xs → ∀ v ∈ xs, PV H v
theorem AllPV.same {H H' : Hp} {o : Option (List V)} (h : AllPV H o) (s : Same H H') : AllPV H' o := fun xs e v hv => (h xs e v hv).same s
/-! ### are_numbers -/
def spNums : Sp := fun vs H Q _ => ∃ (a : Addr) (xs : List V), vs = [.ref a] ∧ Items H (.ref a) (some xs) ∧ xs.length < sizeLine ∧ (∀ v ∈ xs, PV H v) ∧ ∀ H', Same H H' → Q (.bl (xs.all isNum)) H'
theorem scNums : FnScope ["things", "thing"] ["things"] (defScope sNums) := ⟨rfl, rfl, rfl, by decide +kernel, rfl, by decide +kernel, by decide +kernel⟩
theorem take_snoc {α β : Type} {f : α → β} {xs : List α} {i : Nat} {x : α} (h : xs[i]? = some x) : (xs.take i).map f ++ [f x] = (xs.take (i + 1)).map f := by
  obtain ⟨hi, e⟩ := List.getElem?_eq_some_iff.mp h
  rw [List.take_succ, h]
  simp
theorem take_len {α β : Type} {f : α → β} {xs : List α} {i : Nat} : ((xs.take i).map f).length ≤ xs.length := by
  rw [List.length_map, List.length_take]
  omega
theorem ok_nums {fN : Addr} {fdN : FuncData} (F : FnP K "are_numbers" sNums f fd) (all0 : mg "all" = none) (GN : FnOk P w K mg base CX0 1 fN fdN ["thing"] spNum) (bN : L2.Binds K fdN ["thing"] []) (gN : mg "is_number" = some (.ref fN)) (kN : PySem.W.keepIn K (.ref fN) = true) :
    FnOk P w K mg base CX0 2 f fd ["things"] spNums := by
  refine F.ok scNums (fun vs H Q E h => ?_) (fun cdv A outer s H vs Q E hr h => ?_)
  · obtain ⟨a, xs, rfl, _⟩ := h
    rfl
  · obtain ⟨a, xs, rfl, hi, hl, hp, q⟩ := h
    cases hi with
    | lst e =>
      refine ⟨_, PSs.nox (pss_one (ps_ret (pe_callB (cr_all rfl) (by rfl) all0 (by decide +kernel) (pa_cons (pe_lc (own := [("thing", 1)]) (g := gName 1) rfl scNums.nd (pi_list (pv 0)) (blkOk_by (own := [("thing", 1)]) (N := ["things", "thing"]) (sc := defScope sNums) (by decide +kernel))
        (fun _ _ _ _ _ => pg_name (i := 1) scNums.nd rfl (Or.inl rfl)) (fun _ _ _ _ _ => pts_nil) (fun _ _ _ _ _ => pe_call GN hr rfl gN kN bN .nil pass0 (pa_cons (pv 1) pa_nil))) pa_nil)))), ?_⟩
      refine ⟨_, rfl, a, rfl, ⟨_, SqL.of e⟩, fun D hD => lc_list (K := K) (a := a) (xs := xs) (fun i H' => H' D = some (.lst ((xs.take i).map fun v => V.bl (isNum v))) ∧ Same H H')
        ⟨upd_same, same_new hD⟩ (fun i H' _ ⟨_, s⟩ => SqL.of (s _ _ e)) ?_ ?_⟩
      · rintro i x H' hi ⟨h1, s⟩
        refine ⟨rfl, yesT ⟨_, rfl, x, rfl, (hp x (List.mem_of_getElem? hi)).same s, _, h1, ?_, ?_, ?_⟩⟩
        · exact Nat.lt_of_le_of_lt take_len hl
        · rw [upd_same, take_snoc hi]
        · exact fun b o e => by rw [upd_ne (ne_of_none e hD)]; exact s b o e
      · rintro H1 ⟨h1, s⟩
        rw [List.take_length] at h1
        refine ⟨D, xs.map isNum, rfl, ?_, ?_⟩
        · rw [List.map_map]
          exact SqL.of h1
        · have e2 : (xs.map isNum).all id = xs.all isNum := by
            rw [List.all_map]
            rfl
          rw [e2]
          exact q _ s
    | tup e =>
      refine ⟨_, PSs.nox (pss_one (ps_ret (pe_callB (cr_all rfl) (by rfl) all0 (by decide +kernel) (pa_cons (pe_lc (own := [("thing", 1)]) (g := gName 1) rfl scNums.nd (pi_tup (pv 0)) (blkOk_by (own := [("thing", 1)]) (N := ["things", "thing"]) (sc := defScope sNums) (by decide +kernel))
        (fun _ _ _ _ _ => pg_name (i := 1) scNums.nd rfl (Or.inl rfl)) (fun _ _ _ _ _ => pts_nil) (fun _ _ _ _ _ => pe_call GN hr rfl gN kN bN .nil pass0 (pa_cons (pv 1) pa_nil))) pa_nil)))), ?_⟩
      refine ⟨_, rfl, a, rfl, ⟨_, SqT.of e⟩, fun D hD => lc_tup (K := K) (a := a) (xs := xs) (fun i H' => H' D = some (.lst ((xs.take i).map fun v => V.bl (isNum v))) ∧ Same H H')
        ⟨upd_same, same_new hD⟩ (fun i H' _ ⟨_, s⟩ => SqT.of (s _ _ e)) ?_ ?_⟩
      · rintro i x H' hi ⟨h1, s⟩
        refine ⟨rfl, yesT ⟨_, rfl, x, rfl, (hp x (List.mem_of_getElem? hi)).same s, _, h1, ?_, ?_, ?_⟩⟩
        · exact Nat.lt_of_le_of_lt take_len hl
        · rw [upd_same, take_snoc hi]
        · exact fun b o e => by rw [upd_ne (ne_of_none e hD)]; exact s b o e
      · rintro H1 ⟨h1, s⟩
        rw [List.take_length] at h1
        refine ⟨D, xs.map isNum, rfl, ?_, ?_⟩
        · rw [List.map_map]
          exact SqL.of h1
        · have e2 : (xs.map isNum).all id = xs.all isNum := by
            rw [List.all_map]
            rfl
          rw [e2]
          exact q _ s
def itemsOk (x : Option (List V)) : Bool := match x with
  | some xs => xs.all isNum
  | none => false
def short (o : Option (List V)) : Prop := ∀ xs, o = some xs → xs.length < sizeLine
theorem isi_seq {H : Hp} {x : V} {o : Option (List V)} (h : Items H x o) : ∃ t, TyX K H x t ∧ PySem.W.kitAny K t [.type "list", .type "tuple"] = some o.isSome := by
  cases h with
  | non => exact ⟨_, .base .non, kitAny_cons (b := false) (kit_ty (by decide +kernel)) (fun _ => kitAny_cons (b := false) (kit_ty (by decide +kernel)) (fun _ => rfl) (fun z => nomatch z)) (fun z => nomatch z)⟩
  | bl b => exact ⟨_, .base (.bl b), kitAny_cons (b := false) (kit_ty (by decide +kernel)) (fun _ => kitAny_cons (b := false) (kit_ty (by decide +kernel)) (fun _ => rfl) (fun z => nomatch z)) (fun z => nomatch z)⟩
  | int i => exact ⟨_, .base (.int i), kitAny_cons (b := false) (kit_ty (by decide +kernel)) (fun _ => kitAny_cons (b := false) (kit_ty (by decide +kernel)) (fun _ => rfl) (fun z => nomatch z)) (fun z => nomatch z)⟩
  | str x => exact ⟨_, .base (.str x), kitAny_cons (b := false) (kit_ty (by decide +kernel)) (fun _ => kitAny_cons (b := false) (kit_ty (by decide +kernel)) (fun _ => rfl) (fun z => nomatch z)) (fun z => nomatch z)⟩
  | lst e => exact ⟨_, .base (.lst e), kitAny_cons (b := true) (kit_ty (by decide +kernel)) (fun z => nomatch z) (fun _ => rfl)⟩
  | tup e => exact ⟨_, .base (.tup e), kitAny_cons (b := false) (kit_ty (by decide +kernel)) (fun _ => kitAny_cons (b := true) (kit_ty (by decide +kernel)) (fun z => nomatch z) (fun _ => rfl)) (fun z => nomatch z)⟩
  | dK e => exact ⟨_, .base (.dK e), kitAny_cons (b := false) (kit_ty (by decide +kernel)) (fun _ => kitAny_cons (b := false) (kit_ty (by decide +kernel)) (fun _ => rfl) (fun z => nomatch z)) (fun z => nomatch z)⟩
/-! ### is_number_list -/
def spNumL : Sp := fun vs H Q _ => ∃ (x : V) (o : Option (List V)), vs = [x] ∧ Items H x o ∧ short o ∧ AllPV H o ∧ ∀ H', Same H H' → Q (.bl (itemsOk o)) H'
theorem scNumL : FnScope ["thing"] ["thing"] (defScope sNumL) := ⟨rfl, rfl, rfl, by decide +kernel, rfl, by decide +kernel, by decide +kernel⟩
theorem ok_numL {fN : Addr} {fdN : FuncData} (F : FnP K "is_number_list" sNumL f fd) (isi0 : mg "isinstance" = none) (list0 : mg "list" = none) (tuple0 : mg "tuple" = none) (GN : FnOk P w K mg base CX0 2 fN fdN ["things"] spNums) (bN : L2.Binds K fdN ["things"] []) (gN : mg "are_numbers" = some (.ref fN)) (kN : PySem.W.keepIn K (.ref fN) = true) :
    FnOk P w K mg base CX0 3 f fd ["thing"] spNumL := by
  refine F.ok scNumL (fun vs H Q E h => ?_) (fun cdv A outer s H vs Q E hr h => ?_)
  · obtain ⟨x, o, rfl, _⟩ := h
    rfl
  · obtain ⟨x, o, rfl, hi, hl, hp, q⟩ := h
    refine ⟨_, PSs.nox (pss_one (ps_ret (pe_and (pe_callB call_isiT (by rfl) isi0 boot_isinstance (pa_cons (pv 0) (pa_cons (pe_tup (pa_cons (pe_bltn (v := .ty "list") rfl list0 (by decide +kernel) rfl) (pa_cons (pe_bltn (v := .ty "tuple") rfl tuple0 (by decide +kernel) rfl) pa_nil))) pa_nil)))
      (pe_one (pe_call GN hr rfl gN kN bN .nil pass0 (pa_cons (pv 0) pa_nil)))))), ?_⟩
    refine ⟨_, rfl, (by show 2 ≤ sizeLine; decide), fun tp htp => ?_⟩
    have s1 : Same H (upd H tp (.tup [.ty "list", .ty "tuple"])) := same_new htp
    obtain ⟨t, ty, k1⟩ := isi_seq (K := K) (hi.same s1)
    refine ⟨x, tp, _, t, _, o.isSome, rfl, upd_same, .cons (.ty "list") (.cons (.ty "tuple") .nil), ty, k1, o.isSome, rfl, ?_⟩
    cases o with
    | none =>
      refine iteF ?_
      exact q _ s1
    | some xs =>
      refine iteT ?_
      have hi2 := hi.same s1
      have hx : ∃ a, x = .ref a := by
        cases hi with
        | lst e => exact ⟨_, rfl⟩
        | tup e => exact ⟨_, rfl⟩
      obtain ⟨a, rfl⟩ := hx
      exact ⟨_, rfl, a, xs, rfl, hi2, hl xs rfl, fun v hv => (hp xs rfl v hv).same s1, fun H' s2 => q _ (s1.trans s2)⟩
/-! ### is_row, check_row -/
def isRow (o : Option (List V)) : Bool := match o with
  | some xs => xs.all isNum && (decide (1 ≤ (xs.length : Int)) && decide ((xs.length : Int) ≤ 3001))
  | none => false
def spIsRow : Sp := fun vs H Q _ => ∃ (x : V) (o : Option (List V)), vs = [x] ∧ Items H x o ∧ short o ∧ AllPV H o ∧ ∀ H', Same H H' → Q (.bl (isRow o)) H'
theorem scIsRow : FnScope ["thing"] ["thing"] (defScope sIsRow) := ⟨rfl, rfl, rfl, by decide +kernel, rfl, by decide +kernel, by decide +kernel⟩
theorem ok_isRow {fN : Addr} {fdN : FuncData} (F : FnP K "is_row" sIsRow f fd) (len0 : mg "len" = none) {tL : Tok} (gL : mg "LONGEST_ROW" = some (.int 3001 tL)) (GN : FnOk P w K mg base CX0 3 fN fdN ["thing"] spNumL) (bN : L2.Binds K fdN ["thing"] []) (gN : mg "is_number_list" = some (.ref fN)) (kN : PySem.W.keepIn K (.ref fN) = true) :
    FnOk P w K mg base CX0 4 f fd ["thing"] spIsRow := by
  refine F.ok scIsRow (fun vs H Q E h => ?_) (fun cdv A outer s H vs Q E hr h => ?_)
  · obtain ⟨x, o, rfl, _⟩ := h
    rfl
  · obtain ⟨x, o, rfl, hi, hl, hp, q⟩ := h
    refine ⟨_, PSs.nox (pss_one (ps_ret (pe_and (pe_call GN hr rfl gN kN bN .nil pass0 (pa_cons (pv 0) pa_nil)) (pe_one (pe_chain op_le op_le pe_int (pe_callB call_len (by rfl) len0 PySem.boot_len (pa_cons (pv 0) pa_nil)) (pe_glob (v := .int 3001) rfl gL ⟨_, rfl⟩)))))), ?_⟩
    refine ⟨_, rfl, x, o, rfl, hi, hl, hp, fun H1 s1 => ⟨itemsOk o, rfl, ?_⟩⟩
    cases o with
    | none =>
      refine iteF ?_
      exact q _ s1
    | some xs =>
      have e0 : itemsOk (some xs) = xs.all isNum := rfl
      have e1 : isRow (some xs) = (xs.all isNum && (decide (1 ≤ (xs.length : Int)) && decide ((xs.length : Int) ≤ 3001))) := rfl
      rw [e1] at q
      rw [e0]
      cases hx : xs.all isNum with
      | false =>
        rw [hx] at q
        exact iteF (q _ s1)
      | true =>
        rw [hx, Bool.true_and] at q
        refine iteT ?_
        have fin : ∀ k : Bool, (k = true → (if decide ((xs.length : Int) ≤ 3001) = true then Q (.bl true) H1 else Q (.bl false) H1)) → True := fun _ _ => trivial
        have q1 := q H1 s1
        cases hi with
        | lst e =>
          refine ⟨_, rfl, _, xs.length, rfl, .inl ⟨_, SqL.of (s1 _ _ e), rfl⟩, ?_⟩
          refine ⟨_, _, rfl, rfl, _, rfl, ?_⟩
          by_cases c : 1 ≤ (xs.length : Int)
          · rw [decide_eq_true c, Bool.true_and] at q1
            rw [decide_eq_true c]
            exact iteT ⟨_, _, rfl, rfl, q1⟩
          · rw [decide_eq_false c, Bool.false_and] at q1
            rw [decide_eq_false c]
            exact iteF q1
        | tup e =>
          refine ⟨_, rfl, _, xs.length, rfl, .inr ⟨_, SqT.of (s1 _ _ e), rfl⟩, ?_⟩
          refine ⟨_, _, rfl, rfl, _, rfl, ?_⟩
          by_cases c : 1 ≤ (xs.length : Int)
          · rw [decide_eq_true c, Bool.true_and] at q1
            rw [decide_eq_true c]
            exact iteT ⟨_, _, rfl, rfl, q1⟩
          · rw [decide_eq_false c, Bool.false_and] at q1
            rw [decide_eq_false c]
            exact iteF q1
structure Txt (K : PySem.W.Frag) (mg : Str → Option Value) (cS cN cR : Addr) : Prop where
  gS : mg "SeriesError" = some (.ref cS)
  gN : mg "BadNumber" = some (.ref cN)
  gR : mg "BadRow" = some (.ref cR)
  xN : PySem.W.excIn K cN [.type "ValueError", .type "Exception", .type "BaseException", .type "object"] "ValueError.__new__" = true
  xR : PySem.W.excIn K cR [.type "ValueError", .type "Exception", .type "BaseException", .type "object"] "ValueError.__new__" = true
  kN : PySem.W.keepIn K (.ref cN) = true
  kR : PySem.W.keepIn K (.ref cR) = true
  bN : PySem.W.subIn K (.ref cN) (.type "BaseException") = some true
  bR : PySem.W.subIn K (.ref cR) (.type "BaseException") = some true
  tN : PySem.W.typeIn K (.ref cN) = some (.type "type")
  tR : PySem.W.typeIn K (.ref cR) = some (.type "type")
  mN : PySem.W.exmOne K (.ref cN) (.ref cS) = some true
  mR : PySem.W.exmOne K (.ref cR) (.ref cS) = some true
  eN : ExcC K cN
  eR : ExcC K cR
  iN : PySem.W.kitOne K (.ref cN) (.ref cN) = some true
  iR : PySem.W.kitOne K (.ref cR) (.ref cR) = some true
variable {cS cN cR : Addr}
def spChk (cR : Addr) : Sp := fun vs H Q E => ∃ (x : V) (o : Option (List V)), vs = [x] ∧ Items H x o ∧ short o ∧ AllPV H o ∧ (isRow o = true → ∀ H', Same H H' → Q .non H') ∧ (isRow o = false → ∀ H', Same H H' → E (.ref cR) none H')
theorem scChk : FnScope ["row"] ["row"] (defScope sChk) := ⟨rfl, rfl, rfl, by decide +kernel, rfl, by decide +kernel, by decide +kernel⟩
theorem ok_chk {fN : Addr} {fdN : FuncData} (F : FnP K "check_row" sChk f fd) (T : Txt K mg cS cN cR) (GN : FnOk P w K mg base CX0 4 fN fdN ["thing"] spIsRow) (bN : L2.Binds K fdN ["thing"] []) (gN : mg "is_row" = some (.ref fN)) (kN : PySem.W.keepIn K (.ref fN) = true) :
    FnOk P w K mg base (L2.CX P w) 5 f fd ["row"] (spChk cR) := by
  refine F.ok scChk (fun vs H Q E h => ?_) (fun cdv A outer s H vs Q E hr h => ?_)
  · obtain ⟨x, o, rfl, _⟩ := h
    rfl
  · obtain ⟨x, o, rfl, hi, hl, hp, q1, q2⟩ := h
    refine ⟨_, pss_one (ps_if (pt_not (pt_val (pe_call GN hr rfl gN kN bN .nil pass0 (pa_cons (pv 0) pa_nil)))) (pss_one (ps_raise rfl (takes_of rfl rfl rfl rfl) (pmk_own PySem.F.excBase_ValueError T.xR T.gR T.kR (raises_own T.bR T.tR) rfl))) pss_nil), ?_⟩
    refine ⟨_, rfl, x, o, rfl, hi, hl, hp, fun H1 s1 => ⟨isRow o, rfl, ?_⟩⟩
    cases h : isRow o with
    | true => exact iteF (q1 h _ s1)
    | false => exact iteT (q2 h _ s1)
end
end K00

set_option Elab.async false
set_option linter.all false
set_option maxRecDepth 100000
set_option maxHeartbeats 4000000
/-! power series with whole coefficients, as functions -/
namespace Ps
/-- f 0 + .. + f (n - 1) -/
def sm (f : Nat → Int) : Nat → Int
  | 0 => 0
  | n + 1 => sm f n + f n
theorem sm_congr {f g : Nat → Int} : ∀ n : Nat, (∀ i, i < n → f i = g i) → sm f n = sm g n
  | 0, _ => rfl
  | n + 1, h => by
    show sm f n + f n = sm g n + g n
    rw [sm_congr n fun i hi => h i (by omega), h n (by omega)]
theorem sm_add (f g : Nat → Int) : ∀ n, sm (fun i => f i + g i) n = sm f n + sm g n
  | 0 => rfl
  | n + 1 => by
    show sm (fun i => f i + g i) n + (f n + g n) = sm f n + f n + (sm g n + g n)
    rw [sm_add f g n]
    omega
theorem sm_mul (c : Int) (f : Nat → Int) : ∀ n, sm (fun i => c * f i) n = c * sm f n
  | 0 => by
    show (0 : Int) = c * 0
    rw [Int.mul_zero]
  | n + 1 => by
    show sm (fun i => c * f i) n + c * f n = c * (sm f n + f n)
    rw [sm_mul c f n, Int.mul_add]
theorem sm_mul' (c : Int) (f : Nat → Int) (n : Nat) : sm (fun i => f i * c) n = sm f n * c := by
  rw [Int.mul_comm (sm f n), ← sm_mul]
  exact sm_congr n fun i _ => Int.mul_comm _ _
theorem sm_zero : ∀ n, sm (fun _ => 0) n = 0
  | 0 => rfl
  | n + 1 => by
    show sm (fun _ => 0) n + 0 = 0
    rw [sm_zero n]
    rfl
theorem sm_first (f : Nat → Int) : ∀ n, sm f (n + 1) = f 0 + sm (fun i => f (i + 1)) n
  | 0 => by
    show 0 + f 0 = f 0 + 0
    omega
  | n + 1 => by
    show sm f (n + 1) + f (n + 1) = f 0 + (sm (fun i => f (i + 1)) n + f (n + 1))
    rw [sm_first f n]
    omega
theorem sm_rev (f : Nat → Int) : ∀ n, sm (fun i => f (n - 1 - i)) n = sm f n
  | 0 => rfl
  | n + 1 => by
    rw [sm_first]
    show f (n + 1 - 1 - 0) + sm (fun i => f (n + 1 - 1 - (i + 1))) n = sm f n + f n
    have e : sm (fun i => f (n + 1 - 1 - (i + 1))) n = sm (fun i => f (n - 1 - i)) n := sm_congr n fun i hi => by
      have e2 : n + 1 - 1 - (i + 1) = n - 1 - i := by omega
      rw [e2]
    rw [e, sm_rev f n]
    have e3 : n + 1 - 1 - 0 = n := by omega
    rw [e3]
    omega
/-- the triangle summed the other way -/
theorem sm_tri (F : Nat → Nat → Int) : ∀ n, sm (fun i => sm (fun j => F i j) (i + 1)) n = sm (fun j => sm (fun k => F (k + j) j) (n - j)) n
  | 0 => rfl
  | n + 1 => by
    show sm (fun i => sm (fun j => F i j) (i + 1)) n + (sm (fun j => F n j) n + F n n) = sm (fun j => sm (fun k => F (k + j) j) (n + 1 - j)) n + sm (fun k => F (k + n) n) (n + 1 - n)
    rw [sm_tri F n]
    have e1 : sm (fun j => sm (fun k => F (k + j) j) (n + 1 - j)) n = sm (fun j => sm (fun k => F (k + j) j) (n - j) + F n j) n := sm_congr n fun j hj => by
      have e2 : n + 1 - j = (n - j) + 1 := by omega
      rw [e2]
      show sm _ (n - j) + F (n - j + j) j = _
      have e3 : n - j + j = n := by omega
      rw [e3]
    have e4 : sm (fun k => F (k + n) n) (n + 1 - n) = F n n := by
      have e5 : n + 1 - n = 1 := by omega
      rw [e5]
      show 0 + F (0 + n) n = F n n
      rw [Nat.zero_add]
      omega
    have e9 : sm (F n) n = sm (fun j => F n j) n := rfl
    rw [e1, sm_add, e4]
    omega
abbrev S : Type := Nat → Int
/-- the product -/
def cv (f g : S) : S := fun n => sm (fun i => f i * g (n - i)) (n + 1)
def one : S := fun n => if n = 0 then 1 else 0
theorem cv_comm (f g : S) : cv f g = cv g f := by
  funext n
  unfold cv
  rw [← sm_rev (fun i => f i * g (n - i)) (n + 1)]
  refine sm_congr _ fun i hi => ?_
  have e1 : n + 1 - 1 - i = n - i := by omega
  have e2 : n - (n - i) = i := by omega
  show f (n + 1 - 1 - i) * g (n - (n + 1 - 1 - i)) = _
  rw [e1, e2, Int.mul_comm]
theorem cv_assoc (f g h : S) : cv (cv f g) h = cv f (cv g h) := by
  funext n
  unfold cv
  have e1 : sm (fun i => sm (fun j => f j * g (i - j)) (i + 1) * h (n - i)) (n + 1) = sm (fun i => sm (fun j => f j * g (i - j) * h (n - i)) (i + 1)) (n + 1) := sm_congr _ fun i hi => (sm_mul' _ _ _).symm
  rw [e1, sm_tri (fun i j => f j * g (i - j) * h (n - i))]
  refine sm_congr _ fun j hj => ?_
  have e2 : n + 1 - j = (n - j) + 1 := by omega
  rw [e2, ← sm_mul]
  refine sm_congr _ fun k hk => ?_
  have e3 : k + j - j = k := by omega
  have e4 : n - (k + j) = n - j - k := by omega
  rw [e3, e4, Int.mul_assoc]
theorem cv_one (f : S) : cv f one = f := by
  rw [cv_comm]
  funext n
  unfold cv
  rw [sm_first]
  have e : sm (fun i => one (i + 1) * f (n - (i + 1))) n = 0 := by
    rw [← sm_zero n]
    refine sm_congr _ fun i _ => ?_
    show (if i + 1 = 0 then (1 : Int) else 0) * _ = 0
    rw [if_neg (by omega), Int.zero_mul]
  rw [e]
  show (1 : Int) * f (n - 0) + 0 = f n
  rw [Int.one_mul, Int.add_zero, Nat.sub_zero]
theorem one_cv (f : S) : cv one f = f := by
  rw [cv_comm, cv_one]
def sc (c : Int) (f : S) : S := fun n => c * f n
def ad (f g : S) : S := fun n => f n + g n
theorem cv_sc (c : Int) (f g : S) : cv f (sc c g) = sc c (cv f g) := by
  funext n
  unfold cv sc
  rw [← sm_mul]
  refine sm_congr _ fun i _ => ?_
  rw [← Int.mul_assoc, Int.mul_comm (f i) c, Int.mul_assoc]
theorem sc_cv (c : Int) (f g : S) : cv (sc c f) g = sc c (cv f g) := by
  rw [cv_comm, cv_sc, cv_comm]
theorem cv_ad (f g h : S) : cv f (ad g h) = ad (cv f g) (cv f h) := by
  funext n
  unfold cv ad
  rw [← sm_add]
  refine sm_congr _ fun i _ => Int.mul_add _ _ _
/-- n * f n -/
def dv (f : S) : S := fun n => (n : Int) * f n
theorem dv_cv (f g : S) : dv (cv f g) = ad (cv (dv f) g) (cv f (dv g)) := by
  funext n
  unfold dv cv ad
  rw [← sm_mul, ← sm_add]
  refine sm_congr _ fun i hi => ?_
  have e : (n : Int) = (i : Int) + ((n - i : Nat) : Int) := by omega
  have e1 : ((i : Int) + ((n - i : Nat) : Int)) * (f i * g (n - i)) = (i : Int) * f i * g (n - i) + f i * (((n - i : Nat) : Int) * g (n - i)) := by
    rw [Int.add_mul, Int.mul_assoc, ← Int.mul_assoc (f i), Int.mul_comm (f i) ((n - i : Nat) : Int), Int.mul_assoc]
  rw [← e1, ← e]
theorem dv_one : dv one = fun _ => 0 := by
  funext n
  show (n : Int) * (if n = 0 then 1 else 0) = 0
  by_cases h : n = 0
  · rw [h]
    rfl
  · rw [if_neg h, Int.mul_zero]
/-- powers -/
def pw (f : S) : Nat → S
  | 0 => one
  | k + 1 => cv (pw f k) f
theorem cv_zero (f : S) : cv f (fun _ => 0) = fun _ => 0 := by
  funext n
  unfold cv
  refine Eq.trans (sm_congr _ fun i _ => Int.mul_zero _) (sm_zero _)
theorem sc_zero (c : Int) : sc c (fun _ => 0) = fun _ => 0 := by
  funext n
  exact Int.mul_zero _
/-- f times the derivative of its power -/
theorem dv_pw (f : S) : ∀ k : Nat, cv f (dv (pw f k)) = sc (k : Int) (cv (dv f) (pw f k))
  | 0 => by
    show cv f (dv one) = _
    rw [dv_one, cv_zero]
    funext n
    exact (Int.zero_mul _).symm
  | k + 1 => by
    show cv f (dv (cv (pw f k) f)) = sc ((k + 1 : Nat) : Int) (cv (dv f) (cv (pw f k) f))
    rw [dv_cv, cv_ad]
    have e1 : cv f (cv (dv (pw f k)) f) = sc (k : Int) (cv (dv f) (cv (pw f k) f)) := by
      rw [← cv_assoc, dv_pw f k, sc_cv, cv_assoc]
    have e2 : cv f (cv (pw f k) (dv f)) = cv (dv f) (cv (pw f k) f) := by
      rw [cv_comm f, cv_comm (pw f k), cv_assoc]
    rw [e1, e2]
    funext n
    show (k : Int) * _ + _ = ((k + 1 : Nat) : Int) * _
    have e3 : ((k + 1 : Nat) : Int) = (k : Int) + 1 := rfl
    rw [e3, Int.add_mul, Int.one_mul]
/-- the same of the powers of an inverse -/
theorem dv_inv (f g : S) (h : cv f g = one) : ∀ k : Nat, cv f (dv (pw g k)) = sc (-(k : Int)) (cv (dv f) (pw g k))
  | 0 => by
    show cv f (dv one) = _
    rw [dv_one, cv_zero]
    funext n
    show (0 : Int) = -0 * _
    rw [Int.neg_zero, Int.zero_mul]
  | k + 1 => by
    have hd : cv f (dv g) = sc (-1) (cv (dv f) g) := by
      have e := dv_cv f g
      rw [h, dv_one] at e
      funext n
      have e1 := congrFun e n
      have e2 : (0 : Int) = cv (dv f) g n + cv f (dv g) n := e1
      show cv f (dv g) n = -1 * cv (dv f) g n
      omega
    show cv f (dv (cv (pw g k) g)) = sc (-((k + 1 : Nat) : Int)) (cv (dv f) (cv (pw g k) g))
    rw [dv_cv, cv_ad]
    have e1 : cv f (cv (dv (pw g k)) g) = sc (-(k : Int)) (cv (dv f) (cv (pw g k) g)) := by
      rw [← cv_assoc, dv_inv f g h k, sc_cv, cv_assoc]
    have e2 : cv f (cv (pw g k) (dv g)) = sc (-1) (cv (dv f) (cv (pw g k) g)) := by
      rw [cv_comm (pw g k), ← cv_assoc, hd, sc_cv, cv_assoc, cv_comm g]
    rw [e1, e2]
    funext n
    show -(k : Int) * _ + -1 * _ = -((k + 1 : Nat) : Int) * _
    have e3 : -((k + 1 : Nat) : Int) = -(k : Int) + -1 := by
      have : ((k + 1 : Nat) : Int) = (k : Int) + 1 := rfl
      omega
    rw [e3, Int.add_mul]
/-- the recurrence of a power with the exponent e -/
theorem recur {f b : S} {e : Int} (h : cv f (dv b) = sc e (cv (dv f) b)) (n : Nat) : (n : Int) * f 0 * b n = sm (fun i => ((e + 1) * ((i + 1 : Nat) : Int) - (n : Int)) * f (i + 1) * b (n - (i + 1))) n := by
  have h1 : sm (fun i => f i * (((n - i : Nat) : Int) * b (n - i))) (n + 1) = e * sm (fun i => ((i : Nat) : Int) * f i * b (n - i)) (n + 1) := congrFun h n
  rw [sm_first, sm_first] at h1
  have z : ((0 : Nat) : Int) * f 0 * b (n - 0) = 0 := by
    show (0 : Int) * f 0 * _ = 0
    rw [Int.zero_mul, Int.zero_mul]
  rw [z, Int.zero_add, ← sm_mul] at h1
  have e1 : sm (fun i => ((e + 1) * ((i + 1 : Nat) : Int) - (n : Int)) * f (i + 1) * b (n - (i + 1))) n = sm (fun i => e * (((i + 1 : Nat) : Int) * f (i + 1) * b (n - (i + 1)))) n - sm (fun i => f (i + 1) * (((n - (i + 1) : Nat) : Int) * b (n - (i + 1)))) n := by
    have e2 : sm (fun i => ((e + 1) * ((i + 1 : Nat) : Int) - (n : Int)) * f (i + 1) * b (n - (i + 1))) n + sm (fun i => f (i + 1) * (((n - (i + 1) : Nat) : Int) * b (n - (i + 1)))) n = sm (fun i => e * (((i + 1 : Nat) : Int) * f (i + 1) * b (n - (i + 1)))) n := by
      rw [← sm_add]
      refine sm_congr _ fun i hi => ?_
      have e3 : ((n - (i + 1) : Nat) : Int) = (n : Int) - ((i + 1 : Nat) : Int) := by omega
      rw [e3]
      generalize ((i + 1 : Nat) : Int) = I
      generalize (n : Int) = N
      generalize f (i + 1) = F
      generalize b (n - (i + 1)) = B
      have e4 : F * ((N - I) * B) = (N - I) * F * B := by
        rw [← Int.mul_assoc, Int.mul_comm F]
      have e5 : e * (I * F * B) = e * I * F * B := by
        rw [← Int.mul_assoc, ← Int.mul_assoc]
      rw [e4, e5, ← Int.add_mul, ← Int.add_mul]
      congr 2
      rw [Int.add_mul, Int.one_mul]
      omega
    omega
  rw [e1, ← h1]
  have e6 : f 0 * (((n - 0 : Nat) : Int) * b (n - 0)) = (n : Int) * f 0 * b n := by
    rw [Nat.sub_zero, ← Int.mul_assoc, Int.mul_comm (f 0)]
  rw [e6]
  omega
/-! ### an inverse -/
def inA (f : S) (u : Int) : Nat → S
  | 0 => fun m => if m = 0 then u else 0
  | n + 1 => fun m => if m = n + 1 then -u * sm (fun i => f (i + 1) * inA f u n (n - i)) (n + 1) else inA f u n m
def inv (f : S) (u : Int) : S := fun m => inA f u m m
theorem inA_le (f : S) (u : Int) : ∀ n m, m ≤ n → inA f u n m = inv f u m
  | 0, m, h => by
    have e : m = 0 := by omega
    subst e
    rfl
  | n + 1, m, h => by
    by_cases e : m = n + 1
    · subst e
      rfl
    · show (if m = n + 1 then _ else inA f u n m) = _
      rw [if_neg e]
      exact inA_le f u n m (by omega)
theorem inv_zero (f : S) (u : Int) : inv f u 0 = u := rfl
theorem inv_succ (f : S) (u : Int) (n : Nat) : inv f u (n + 1) = -u * sm (fun i => f (i + 1) * inv f u (n - i)) (n + 1) := by
  show (if n + 1 = n + 1 then -u * sm (fun i => f (i + 1) * inA f u n (n - i)) (n + 1) else _) = _
  rw [if_pos rfl]
  congr 1
  refine sm_congr _ fun i _ => ?_
  rw [inA_le f u n (n - i) (by omega)]
theorem cv_inv (f : S) {u : Int} (h0 : f 0 = u) (hu : u * u = 1) : cv f (inv f u) = one := by
  funext n
  unfold cv
  cases n with
  | zero =>
    show 0 + f 0 * inv f u 0 = 1
    rw [h0, inv_zero, hu]
    rfl
  | succ n =>
    rw [sm_first, h0]
    show u * inv f u (n + 1) + sm (fun i => f (i + 1) * inv f u (n + 1 - (i + 1))) (n + 1) = 0
    have e : sm (fun i => f (i + 1) * inv f u (n + 1 - (i + 1))) (n + 1) = sm (fun i => f (i + 1) * inv f u (n - i)) (n + 1) := sm_congr _ fun i _ => by
      have e2 : n + 1 - (i + 1) = n - i := by omega
      rw [e2]
    rw [e, inv_succ, ← Int.mul_assoc, Int.mul_neg, hu]
    omega
theorem pw_zero (f : S) : ∀ k, pw f k 0 = f 0 ^ k
  | 0 => (Int.pow_zero _).symm
  | k + 1 => by
    show cv (pw f k) f 0 = _
    show 0 + pw f k 0 * f 0 = _
    rw [pw_zero f k, Int.zero_add, Int.pow_succ]
/-! ### only the coefficients up to some last one matter -/
theorem cv_congr {f f' g g' : S} {N : Nat} (hf : ∀ i, i < N → f i = f' i) (hg : ∀ i, i < N → g i = g' i) : ∀ n, n < N → cv f g n = cv f' g' n := fun n hn => sm_congr _ fun i hi => by
  rw [hf i (by omega), hg (n - i) (by omega)]
theorem pw_congr {f f' : S} {N : Nat} (hf : ∀ i, i < N → f i = f' i) : ∀ k n, n < N → pw f k n = pw f' k n
  | 0, _, _ => rfl
  | k + 1, n, hn => cv_congr (pw_congr hf k) hf n hn
theorem inv_congr {f f' : S} {u : Int} {N : Nat} (hf : ∀ i, i < N → f i = f' i) : ∀ n, n < N → inv f u n = inv f' u n := by
  intro n
  induction n using Nat.strongRecOn with
  | ind n ih =>
    intro hn
    cases n with
    | zero => rfl
    | succ n =>
      rw [inv_succ, inv_succ]
      congr 1
      refine sm_congr _ fun i hi => ?_
      rw [hf (i + 1) (by omega), ih (n - i) (by omega) (by omega)]
/-! ### shifts -/
/-- q ^ z times it -/
def sh (z : Nat) (f : S) : S := fun n => if n < z then 0 else f (n - z)
theorem sm_split (f : S) (z : Nat) : ∀ n, sm f (z + n) = sm f z + sm (fun i => f (z + i)) n
  | 0 => by
    show sm f z = sm f z + 0
    omega
  | n + 1 => by
    show sm f (z + n) + f (z + n) = _
    rw [sm_split f z n]
    show _ = sm f z + (sm (fun i => f (z + i)) n + f (z + n))
    omega
theorem sh_cv (z : Nat) (f g : S) : cv (sh z f) g = sh z (cv f g) := by
  funext n
  unfold cv
  by_cases h : n < z
  · show _ = if n < z then 0 else _
    rw [if_pos h]
    refine Eq.trans (sm_congr _ fun i hi => ?_) (sm_zero _)
    show (if i < z then 0 else f (i - z)) * _ = 0
    rw [if_pos (by omega), Int.zero_mul]
  · show _ = if n < z then 0 else sm (fun i => f i * g (n - z - i)) (n - z + 1)
    rw [if_neg h]
    have e : n + 1 = z + (n - z + 1) := by omega
    rw [e, sm_split]
    have e0 : sm (fun i => sh z f i * g (n - i)) z = 0 := by
      refine Eq.trans (sm_congr _ fun i hi => ?_) (sm_zero _)
      show (if i < z then 0 else f (i - z)) * _ = 0
      rw [if_pos hi, Int.zero_mul]
    rw [e0, Int.zero_add]
    refine sm_congr _ fun i hi => ?_
    show (if z + i < z then 0 else f (z + i - z)) * g (n - (z + i)) = _
    rw [if_neg (by omega)]
    have e1 : z + i - z = i := by omega
    have e2 : n - (z + i) = n - z - i := by omega
    rw [e1, e2]
theorem sh_sh (a b : Nat) (f : S) : sh a (sh b f) = sh (a + b) f := by
  funext n
  unfold sh
  by_cases h : n < a
  · rw [if_pos h, if_pos (by omega)]
  · rw [if_neg h]
    by_cases h2 : n - a < b
    · rw [if_pos h2, if_pos (by omega)]
    · rw [if_neg h2, if_neg (by omega)]
      congr 1
      omega
theorem sh_zero (f : S) : sh 0 f = f := by
  funext n
  show (if n < 0 then 0 else f (n - 0)) = f n
  rw [if_neg (by omega), Nat.sub_zero]
theorem pw_sh (z : Nat) (f : S) : ∀ k, pw (sh z f) k = sh (z * k) (pw f k)
  | 0 => by
    rw [Nat.mul_zero, sh_zero]
    rfl
  | k + 1 => by
    show cv (pw (sh z f) k) (sh z f) = sh (z * (k + 1)) (cv (pw f k) f)
    rw [pw_sh z f k, sh_cv, cv_comm, sh_cv, cv_comm f, sh_sh]
    rfl
/-! ### bounds -/
theorem sm_bound {f : S} {M : Nat} : ∀ n, (∀ i, i < n → (f i).natAbs ≤ M) → (sm f n).natAbs ≤ n * M
  | 0, _ => by
    show 0 ≤ _
    omega
  | n + 1, h => by
    have h1 := sm_bound n fun i hi => h i (by omega)
    have h2 := h n (by omega)
    show (sm f n + f n).natAbs ≤ (n + 1) * M
    rw [Nat.succ_mul]
    omega
theorem cv_bound {f g : S} {N A B : Nat} (hf : ∀ i, i < N → (f i).natAbs ≤ A) (hg : ∀ i, i < N → (g i).natAbs ≤ B) : ∀ n, n < N → (cv f g n).natAbs ≤ N * (A * B) := fun n hn => by
  refine Nat.le_trans (sm_bound (M := A * B) (n + 1) fun i hi => ?_) (Nat.mul_le_mul_right _ (by omega))
  rw [Int.natAbs_mul]
  exact Nat.mul_le_mul (hf i (by omega)) (hg (n - i) (by omega))
theorem pw_bound {f : S} {N A : Nat} (hf : ∀ i, i < N → (f i).natAbs ≤ A) (hN : 0 < N) : ∀ k n, n < N → (pw f k n).natAbs ≤ (N * A) ^ k
  | 0, n, _ => by
    show (if n = 0 then (1 : Int) else 0).natAbs ≤ 1
    by_cases h : n = 0
    · rw [if_pos h]
      decide
    · rw [if_neg h]
      decide
  | k + 1, n, hn => by
    refine Nat.le_trans (cv_bound (pw_bound hf hN k) hf n hn) ?_
    rw [Nat.pow_succ, ← Nat.mul_assoc, Nat.mul_comm N, Nat.mul_assoc]
    exact Nat.le_refl _
theorem inv_bound {f : S} {u : Int} {N A : Nat} (hu : u.natAbs = 1) (hf : ∀ i, i < N → (f i).natAbs ≤ A) : ∀ n, n < N → (inv f u n).natAbs ≤ (N * (A + 1)) ^ n := by
  intro n
  induction n using Nat.strongRecOn with
  | ind n ih =>
    intro hn
    cases n with
    | zero =>
      rw [inv_zero, hu]
      exact Nat.le_refl _
    | succ n =>
      rw [inv_succ, Int.natAbs_mul, Int.natAbs_neg, hu, Nat.one_mul]
      have hp : 0 < N * (A + 1) := Nat.mul_pos (by omega) (by omega)
      refine Nat.le_trans (sm_bound (M := A * (N * (A + 1)) ^ n) (n + 1) fun i hi => ?_) ?_
      · rw [Int.natAbs_mul]
        refine Nat.mul_le_mul (hf (i + 1) (by omega)) (Nat.le_trans (ih (n - i) (by omega) (by omega)) ?_)
        exact Nat.pow_le_pow_right hp (by omega)
      · rw [Nat.pow_succ, Nat.mul_comm _ (N * (A + 1)), Nat.mul_assoc N]
        have h1 : A * (N * (A + 1)) ^ n ≤ (A + 1) * (N * (A + 1)) ^ n := Nat.mul_le_mul_right _ (by omega)
        exact Nat.mul_le_mul (by omega) h1
end Ps

set_option Elab.async false
set_option linter.all false
set_option maxRecDepth 100000
set_option maxHeartbeats 4000000
set_option pp.maxSteps 3000
namespace Xv
open PySem PySem.Spec PyProof.Rows L2
/-- // by any divisor but 0 below 2 ^ 9000 -/
def CDivB (_ j : Int) : Prop := j ≠ 0 ∧ j.natAbs.log2 < 9000
theorem op_fdivB {X : Cx} : OpR X (binaryOp .FloorDiv) (rI CDivB fun i j => .int (i.fdiv j)) := opI fun i j _ _ _ _ _ hc q => floordiv_int hc.1 q (.inl (PyProof.noPylong_of_log2 hc.2))
end Xv
namespace K00
open PySem PySem.Spec PyProof.Rows L2 Dr Xv Ps
/-! ### the terms of a row -/
def fnL (ns : List Int) : S := fun i => ns.getD i 0
def tms (f : S) (N : Nat) : List Nat := (List.range N).filter fun i => decide (0 < i) && decide (f i ≠ 0)
theorem tms_succ (f : S) (N : Nat) : tms f (N + 1) = tms f N ++ (if 0 < N ∧ f N ≠ 0 then [N] else []) := by
  unfold tms
  rw [List.range_succ, List.filter_append]
  congr 1
  by_cases h : 0 < N ∧ f N ≠ 0
  · rw [if_pos h, List.filter_cons_of_pos (by simp [h.1, h.2])]
    rfl
  · rw [if_neg h, List.filter_cons_of_neg (by
      simp only [Bool.and_eq_true, decide_eq_true_eq]
      exact h)]
    rfl
theorem tms_lt {f : S} {N i : Nat} (h : i ∈ tms f N) : i < N ∧ 0 < i := by
  unfold tms at h
  rw [List.mem_filter, List.mem_range] at h
  simp only [Bool.and_eq_true, decide_eq_true_eq] at h
  exact ⟨h.1, h.2.1⟩
theorem tms_split (f : S) (n : Nat) : ∀ k, ∃ r, tms f (n + 1 + k) = tms f (n + 1) ++ r ∧ ∀ i ∈ r, n < i
  | 0 => ⟨[], (List.append_nil _).symm, fun i h => by cases h⟩
  | k + 1 => by
    obtain ⟨r, e, h⟩ := tms_split f n k
    refine ⟨r ++ (if 0 < n + 1 + k ∧ f (n + 1 + k) ≠ 0 then [n + 1 + k] else []), ?_, fun i hi => ?_⟩
    · show tms f (n + 1 + k + 1) = _
      rw [tms_succ, e, List.append_assoc]
    · rcases List.mem_append.mp hi with z | z
      · exact h i z
      · split at z
        · rw [List.mem_singleton.mp z]
          omega
        · cases z
theorem tms_sum (f g : S) (hg : ∀ i, f i = 0 → g i = 0) : ∀ n, ((tms f (n + 1)).map g).sum = sm (fun i => g (i + 1)) n
  | 0 => by
    rw [tms_succ]
    show (List.map g ([] ++ _)).sum = 0
    rw [if_neg (by omega)]
    rfl
  | n + 1 => by
    rw [tms_succ, List.map_append, List.sum_append, tms_sum f g hg n]
    show _ = sm (fun i => g (i + 1)) n + g (n + 1)
    congr 1
    by_cases h : f (n + 1) ≠ 0
    · rw [if_pos ⟨by omega, h⟩]
      show g (n + 1) + 0 = _
      omega
    · rw [if_neg (fun z => h z.2), hg (n + 1) (by simpa using h)]
      rfl
theorem take_sum {g : S} {l : List Nat} {j x : Nat} (h : l[j]? = some x) : ((l.take (j + 1)).map g).sum = ((l.take j).map g).sum + g x := by
  rw [List.take_succ, h]
  show ((l.take j ++ [x]).map g).sum = _
  rw [List.map_append, List.sum_append]
  show _ + (g x + 0) = _
  omega
section
variable {P : Program} {w : World} {K : PySem.W.Frag} {mg : Str → Option Value} {base : Heap} {f : Addr} {fd : FuncData}
theorem cut_at {A r : List Nat} {N m i : Nat} (hA : ∀ x ∈ A, x ≤ N) (hr : ∀ x ∈ r, N < x) (h : (A ++ r)[m]? = some i) (hi : N < i) (hle : ∀ x ∈ (A ++ r).take m, x ≤ N) : (A ++ r).take m = A := by
  have hm := (List.getElem?_eq_some_iff.mp h).1
  rw [List.length_append] at hm
  have l1 : A.length ≤ m := by
    refine Nat.le_of_not_lt fun hlt => ?_
    rw [List.getElem?_append_left hlt] at h
    have := hA i (List.mem_of_getElem? h)
    omega
  have l2 : m ≤ A.length := by
    refine Nat.le_of_not_lt fun hlt => ?_
    have h0 : 0 < r.length := by omega
    have e : ((A ++ r).take m)[A.length]? = some r[0] := by
      rw [List.getElem?_take, if_pos hlt, List.getElem?_append_right (Nat.le_refl _), Nat.sub_self]
      simp [h0]
    have h1 := hle _ (List.mem_of_getElem? e)
    have h2 := hr r[0] (List.getElem_mem h0)
    omega
  have e : m = A.length := by omega
  rw [e, List.take_left]
theorem cut_end {A r : List Nat} {N : Nat} (hr : ∀ x ∈ r, N < x) (hle : ∀ x ∈ (A ++ r).take (A ++ r).length, x ≤ N) : A ++ r = A := by
  rw [List.take_length] at hle
  cases r with
  | nil => exact List.append_nil _
  | cons x s =>
    have h1 := hle x (by simp)
    have h2 := hr x (by simp)
    omega
theorem iteF' {b : Bool} {A B : Prop} (h : b = false) (q : B) : if b = true then A else B := by
  rw [h]
  exact iteF q
theorem iteT' {b : Bool} {A B : Prop} (h : b = true) (q : A) : if b = true then A else B := by
  rw [h]
  exact iteT q
/-! ### _power_of_led -/
def spLed : Sp := fun vs H Q _ => ∃ (a : Addr) (ns : List Int) (e : Int) (b : S) (B1 B2 : Nat), vs = [.ref a, .int e] ∧ H a = some (.lst (ns.map V.int)) ∧ 1 ≤ ns.length ∧ ns.length ≤ 3001 ∧ e.natAbs ≤ 60 ∧ fnL ns 0 ≠ 0 ∧ b 0 = fnL ns 0 ^ e.natAbs ∧
  (∀ n, n < ns.length → (n : Int) * fnL ns 0 * b n = sm (fun i => ((e + 1) * ((i + 1 : Nat) : Int) - (n : Int)) * fnL ns (i + 1) * b (n - (i + 1))) n) ∧
  B1 ≤ 8000 ∧ B2 ≤ 400000 ∧ (∀ i, (fnL ns i).natAbs < 2 ^ B1) ∧ (∀ n, n < ns.length → (b n).natAbs < 2 ^ B2) ∧
  ∀ (p : Addr) (H' : Hp), H p = none → Same H H' → H' p = some (.lst (((List.range ns.length).map b).map V.int)) → Q (.ref p) H'
theorem scLed : FnScope ["row", "k", "lead", "first", "_", "i", "x", "terms", "power", "n", "total"] ["row", "k"] (defScope sLed) := ⟨rfl, rfl, rfl, by decide +kernel, rfl, by decide +kernel, by decide +kernel⟩
theorem ok_led (F : FnP K "_power_of_led" sLed f fd) (range0 : mg "range" = none) (abs0 : mg "abs" = none) (len0 : mg "len" = none) (enum0 : mg "enumerate" = none) : FnOk P w K mg base CX0 1 f fd ["row", "k"] spLed := by
  refine F.ok scLed (fun vs H Q E h => ?_) (fun cdv A outer s H vs Q E hr h => ?_)
  · obtain ⟨a, ns, e, b, B1, B2, rfl, _⟩ := h
    rfl
  · obtain ⟨a, ns, e, b, B1, B2, rfl, ha, l1, l2, he, h0, hb0, hrec, hB1, hB2, hf, hbb, q⟩ := h
    have hu := hu_of hr
    refine ⟨_, PSs.nox (pss_cons (ps_set (i := 2) scLed.nd rfl (Or.inl rfl) (pe_ix ix_list (pv 0) pe_int (fun _ _ => rfl)))
      (pss_cons (ps_set (i := 3) scLed.nd rfl (Or.inl rfl) pe_int)
      (C8.pss_cut (ps_for PassesOwn.never rfl (pi_range1 (by rfl) range0 (pa_cons (pe_callB call_abs (by rfl) abs0 boot_abs (pa_cons (pv 1) pa_nil)) pa_nil)) (pg_name (i := 4) scLed.nd rfl (Or.inl rfl))
        (pss_one (ps_set (i := 3) scLed.nd rfl (Or.inl rfl) (pe_op op_mulW (pv 3) (pv 2)))))
      (C8.pss_cut (ps_setLc (i := 7) (own := [("i", 5), ("x", 6)]) (g := gTup K 2 (gCons (gName 5) (gCons (gName 6) gNil))) rfl scLed.nd rfl rfl (sw_true rfl rfl rfl (by decide +kernel)) (pi_enumT (by rfl) enum0 (pa_cons (pv 0) pa_nil)) (blkOk_by (own := [("i", 5), ("x", 6)]) (N := ["row", "k", "lead", "first", "_", "i", "x", "terms", "power", "n", "total"]) (sc := defScope sLed) (by decide +kernel))
          (fun _ _ _ _ _ => pg_tup rfl (pgs_cons (pg_name (i := 5) scLed.nd rfl (Or.inl rfl)) (pgs_cons (pg_name (i := 6) scLed.nd rfl (Or.inl rfl)) pgs_nil)))
          (fun _ _ _ _ _ => pts_one (PW.pt (pw_and (pt_cmpR op_gt (pv 5) pe_int (nomark _)) (pw_and1 (pt_cmpR op_ne (pv 6) pe_int (nomark _)))))) (fun _ _ _ _ _ => pe_tup (pa_cons (pv 5) (pa_cons (pv 6) pa_nil))))
      (pss_cons (ps_set (i := 8) scLed.nd rfl (Or.inl rfl) (pe_lst (pa_cons (pv 3) pa_nil)))
      (pss_cons (ps_for PassesOwn.never rfl (pi_range2 (by rfl) range0 (pa_cons pe_int (pa_cons (pe_callB call_len (by rfl) len0 PySem.boot_len (pa_cons (pv 0) pa_nil)) pa_nil))) (pg_name (i := 9) scLed.nd rfl (Or.inl rfl))
        (pss_cons (ps_set (i := 10) scLed.nd rfl (Or.inl rfl) pe_int)
        (C8.pss_cut (ps_for PassesOwn.never rfl (pi_list (pv 7)) (pg_tup rfl (pgs_cons (pg_name (i := 5) scLed.nd rfl (Or.inl rfl)) (pgs_cons (pg_name (i := 6) scLed.nd rfl (Or.inl rfl)) pgs_nil)))
          (pss_cons (ps_if (pt_cmpR op_gt (pv 5) (pv 9) (nomark _)) (pss_one ps_break) pss_nil)
          (pss_one (ps_aug (i := 10) scLed.nd rfl (Or.inl rfl) (pe_op op_mulW (pe_op op_mulW (pe_op op_sub (pe_op op_mul (pe_op op_add (pv 1) pe_int) (pv 5)) (pv 9)) (pv 6)) (pe_ix ix_list (pv 8) (pe_op op_sub (pv 9) (pv 5)) (fun _ _ => rfl))) ip_add))))
        (pss_one (ps_expr (pe_bm PySem.F.plainAttrs_list PySem.F.slot_list_append PySem.F.type_list_append mt_append (pv 8) (pa_cons (pe_op op_fdivB (pv 10) (pe_op op_mulW (pv 9) (pv 2))) pa_nil)))))))
      (pss_one (ps_ret (pv 8))))))))), ?_⟩
    obtain ⟨z0, r0, rfl⟩ : ∃ z r, ns = z :: r := by
      cases ns with
      | nil => exact absurd l1 (by decide)
      | cons z r => exact ⟨z, r, rfl⟩
    have hz0 : fnL (z0 :: r0) 0 = z0 := rfl
    generalize hns : z0 :: r0 = ns at *
    have hat : ∀ i, i < ns.length → (ns.map V.int)[i]? = some (.int (fnL ns i)) := fun i hi => by
      rw [List.getElem?_map]
      unfold fnL
      rw [List.getD_eq_getElem?_getD]
      simp [hi]
    refine ⟨_, rfl, a, ns.map V.int, _, _, rfl, rfl, SqL.of ha, atI_nat (hat 0 (by omega)), ?_⟩
    generalize hL : fnL ns 0 = L at *
    have hLB : L.natAbs < 2 ^ B1 := by
      rw [← hL]
      exact hf 0
    have habs : (if e < 0 then -e else e) = (e.natAbs : Int) := by
      by_cases h : e < 0
      · rw [if_pos h]
        omega
      · rw [if_neg h]
        omega
    have hB0 : 0 < B1 := by
      cases B1 with
      | zero =>
        have : L.natAbs < 1 := hLB
        omega
      | succ n => omega
    refine ⟨fun σ H' => ∃ y4, σ = [some (.ref a), some (.int e), some (.int L), some (.int (L ^ e.natAbs)), y4, none, none, none, none, none, none] ∧ H' = H, ?_, ?_⟩
    · refine ⟨_, rfl, _, rfl, (e.natAbs : Int), by
        show [V.int (if e < 0 then -e else e)] = _
        rw [habs], by omega, by omega, for_range (lo := 0) (n := (e.natAbs : Int).toNat) (fun j σ H' => ∃ y4, σ = [some (.ref a), some (.int e), some (.int L), some (.int (L ^ j)), y4, none, none, none, none, none, none] ∧ H' = H) ⟨none, congrArg (fun z : Int => [some (V.ref a), some (V.int e), some (V.int L), some (V.int z), none, none, none, none, none, none, none]) (Int.pow_zero L).symm, rfl⟩ ?_ ?_⟩
      · rintro j σ H' hj ⟨y4, rfl, rfl⟩
        have hj2 : j ≤ 60 := by omega
        have hp : (L ^ j).natAbs < 2 ^ (B1 * j + 1) := by
          rw [Int.natAbs_pow]
          refine Nat.lt_of_le_of_lt (Nat.pow_le_pow_left (Nat.le_of_lt hLB) j) ?_
          rw [← Nat.pow_mul]
          exact Nat.pow_lt_pow_right (by decide) (by omega)
        have hm : B1 * j ≤ 8000 * 60 := Nat.mul_le_mul hB1 hj2
        refine ⟨_, rfl, _, rfl, _, _, rfl, rfl, wide_mul hp hLB (by omega) hB0 (by omega), ?_⟩
        exact ⟨_, by rw [Int.pow_succ]; rfl, rfl⟩
      · rintro σ H' ⟨y4, rfl, rfl⟩
        exact ⟨y4, by rw [Int.toNat_natCast], rfl⟩
    · rintro σ H1 ⟨y4, rfl, rfl⟩
      refine ⟨fun σ H' => ∃ (D : Addr) (Ts : List Addr), σ = [some (.ref a), some (.int e), some (.int L), some (.int (L ^ e.natAbs)), y4, none, none, some (.ref D), none, none, none] ∧ H' D = some (.lst (Ts.map V.ref)) ∧ Same H1 H' ∧ Ts.length = (tms (fnL ns) ns.length).length ∧
        ∀ (j i : Nat), (tms (fnL ns) ns.length)[j]? = some i → ∃ T, Ts[j]? = some T ∧ H' T = some (.tup [.int (i : Nat), .int (fnL ns i)]), ?_, ?_⟩
      · refine ⟨_, rfl, a, _, rfl, .inl ⟨SqL.of ha, fun D hD => lc_it walk_enum (fun i H' => ∃ Ts : List Addr, H' D = some (.lst (Ts.map V.ref)) ∧ Same H1 H' ∧ Ts.length = (tms (fnL ns) i).length ∧ (tms (fnL ns) i).length ≤ i ∧
          ∀ (j k : Nat), (tms (fnL ns) i)[j]? = some k → ∃ T, Ts[j]? = some T ∧ H' T = some (.tup [.int (k : Nat), .int (fnL ns k)]))
          ⟨[], upd_same, same_new hD, rfl, Nat.le_refl _, fun j k h => by cases h⟩ (fun i H' _ ⟨_, _, sb, _⟩ => SqL.of (sb _ _ ha)) ?_ ?_⟩⟩
        · rintro i v H2 H3 hi ⟨Ts, hD2, sb, ht, ht2, hall⟩ ⟨T', y1, y2, rfl, hT, rfl, e1, e2⟩
          cases Option.some.inj e1
          rw [List.length_map] at hi
          have e3 : y2 = .int (fnL ns i) := by
            have e4 := hat i hi
            have e5 : (ns.map V.int)[i]? = some y2 := e2
            rw [e4] at e5
            exact (Option.some.inj e5).symm
          subst e3
          have sT := same_new (o := .tup [.int (i : Nat), .int (fnL ns i)]) hT
          have es := tms_succ (fnL ns) i
          refine ⟨T', _, rfl, SqT.of upd_same, rfl, _, _, rfl, _, _, rfl, rfl, rfl, ?_⟩
          have skip : ¬ (0 < i ∧ fnL ns i ≠ 0) → ∃ Ts : List Addr, (upd H2 T' (.tup [.int (i : Nat), .int (fnL ns i)])) D = some (.lst (Ts.map V.ref)) ∧ Same H1 (upd H2 T' (.tup [.int (i : Nat), .int (fnL ns i)])) ∧ Ts.length = (tms (fnL ns) (i + 1)).length ∧ (tms (fnL ns) (i + 1)).length ≤ i + 1 ∧
              ∀ (j k : Nat), (tms (fnL ns) (i + 1))[j]? = some k → ∃ T, Ts[j]? = some T ∧ (upd H2 T' (.tup [.int (i : Nat), .int (fnL ns i)])) T = some (.tup [.int (k : Nat), .int (fnL ns k)]) := fun hn => by
            rw [if_neg hn, List.append_nil] at es
            rw [es]
            exact ⟨Ts, sT _ _ hD2, sb.trans sT, ht, by omega, fun j k h => by
              obtain ⟨T, h1, h2⟩ := hall j k h
              exact ⟨T, h1, sT _ _ h2⟩⟩
          refine ⟨_, rfl, _, _, rfl, rfl, _, rfl, ?_⟩
          by_cases c1 : 0 < i
          · refine iteT' (decide_eq_true (by omega)) ⟨_, rfl, rfl, _, rfl, ?_⟩
            by_cases c2 : fnL ns i = 0
            · refine iteF' (by rw [c2]; rfl) ?_
              exact skip (fun z => z.2 c2)
            · refine iteT' (by
                rw [decide_eq_false (fun z => c2 (by injection z))]
                rfl) ?_
              rw [if_pos ⟨c1, c2⟩] at es
              refine ⟨_, rfl, _, rfl, (by show 2 ≤ sizeLine; decide), fun T2 hT2 => ?_⟩
              have sT2 := same_new (o := .tup [.int (i : Nat), .int (fnL ns i)]) hT2
              have hD3 := sT2 _ _ (sT _ _ hD2)
              have nT2 : T2 ≠ D := fun z => by
                rw [z, sT _ _ hD2] at hT2
                cases hT2
              refine ⟨_, hD3, ?_, Ts ++ [T2], ?_, ?_, ?_, ?_, fun j k h => ?_⟩
              · rw [List.length_map, sizeLine_eq]
                omega
              · rw [upd_same, List.map_append]
                rfl
              · intro b' o' e'
                rw [upd_ne (ne_of_none e' hD)]
                exact sT2 _ _ (sT _ _ (sb _ _ e'))
              · rw [es, List.length_append, List.length_append, ht]
                rfl
              · rw [es, List.length_append]
                show _ + 1 ≤ _
                omega
              · have keep : ∀ {T : Addr} {o : HO}, T ≠ D → H2 T = some o → (upd (upd (upd H2 T' (.tup [.int (i : Nat), .int (fnL ns i)])) T2 (.tup [.int (i : Nat), .int (fnL ns i)])) D (.lst (Ts.map V.ref ++ [V.ref T2]))) T = some o := fun {T o} nT hTo => by
                  rw [upd_ne nT]
                  exact sT2 _ _ (sT _ _ hTo)
                rw [es] at h
                by_cases hj : j < (tms (fnL ns) i).length
                · rw [List.getElem?_append_left hj] at h
                  obtain ⟨T, h1, h2⟩ := hall j k h
                  refine ⟨T, by rw [List.getElem?_append_left (by omega)]; exact h1, keep (fun z => ?_) h2⟩
                  rw [z, hD2] at h2
                  cases h2
                · have ej : j = (tms (fnL ns) i).length := by
                    have := (List.getElem?_eq_some_iff.mp h).1
                    rw [List.length_append, List.length_cons, List.length_nil] at this
                    omega
                  subst ej
                  rw [List.getElem?_append_right (Nat.le_refl _), Nat.sub_self] at h
                  have ek : i = k := Option.some.inj h
                  subst ek
                  refine ⟨T2, by rw [← ht, List.getElem?_append_right (Nat.le_refl _), Nat.sub_self]; rfl, ?_⟩
                  rw [upd_ne nT2, upd_same]
          · refine iteF' (decide_eq_false (by omega)) ?_
            refine iteF ?_
            exact skip (fun z => c1 z.1)
        · rintro H2 ⟨Ts, hD2, sb, ht, ht2, hall⟩
          rw [List.length_map] at ht hall
          exact ⟨D, Ts, rfl, hD2, sb, ht, hall⟩
      · rintro σ H2 ⟨D, Ts, rfl, hD2, sb, ht, hall⟩
        have hlenB : ∀ i, i < ns.length → (((List.range (i + 1)).map b).map V.int).length = i + 1 := fun i _ => by rw [List.length_map, List.length_map, List.length_range]
        refine ⟨_, rfl, (by show 1 ≤ sizeLine; decide), fun p hp => ?_⟩
        have s3 := same_new (o := .lst [V.int (L ^ e.natAbs)]) hp
        have e0 : (((List.range (0 + 1)).map b).map V.int) = [V.int (L ^ e.natAbs)] := by
          rw [← hb0]
          rfl
        refine ⟨_, rfl, _, _, rfl, .inl ⟨_, SqL.of (s3 _ _ (sb _ _ ha)), rfl⟩, _, _, rfl, ⟨by omega, by omega, by omega, by rw [List.length_map]; omega⟩, ?_⟩
        refine for_range (lo := 1) (n := (((ns.map V.int).length : Int) - 1).toNat) (fun j σ H' => ∃ y5 y6 y9 y10, σ = [some (.ref a), some (.int e), some (.int L), some (.int (L ^ e.natAbs)), y4, y5, y6, some (.ref D), some (.ref p), y9, y10] ∧
          H' p = some (.lst (((List.range (j + 1)).map b).map V.int)) ∧ Same H2 H') ⟨_, _, _, _, rfl, by rw [upd_same, e0], s3⟩ ?_ ?_
        · rintro j σ H3 hj ⟨y5, y6, y9, y10, rfl, hp3, s4⟩
          rw [List.length_map] at hj
          have hjN : j + 1 < ns.length := by omega
          have hcast : (1 : Int) + (j : Int) = ((j + 1 : Nat) : Int) := by omega
          have hD4 := s4 _ _ hD2
          generalize hg : (fun i : Nat => ((e + 1) * ((i : Nat) : Int) - ((j + 1 : Nat) : Int)) * fnL ns i * b (j + 1 - i)) = g
          have hg0 : ∀ i, fnL ns i = 0 → g i = 0 := fun i h => by
            rw [← hg]
            show _ * fnL ns i * _ = 0
            rw [h, Int.mul_zero, Int.zero_mul]
          have hfull : ((tms (fnL ns) (j + 1 + 1)).map g).sum = ((1 + (j : Int)) * L) * b (j + 1) := by
            rw [tms_sum _ g hg0, hcast, hrec (j + 1) hjN, ← hg]
          obtain ⟨rest, hsplit, hrest⟩ := tms_split (fnL ns) (j + 1) (ns.length - (j + 1 + 1))
          have eN : j + 1 + 1 + (ns.length - (j + 1 + 1)) = ns.length := by omega
          rw [eN] at hsplit
          refine ⟨fun σ H' => ∃ y5 y6, σ = [some (.ref a), some (.int e), some (.int L), some (.int (L ^ e.natAbs)), y4, y5, y6, some (.ref D), some (.ref p), some (.int (1 + (j : Int))), some (.int (((1 + (j : Int)) * L) * b (j + 1)))] ∧ H' = H3, ?_, ?_⟩
          · refine ⟨_, rfl, D, rfl, ⟨_, SqL.of hD4⟩, for_list (K := K) (a := D) (xs := Ts.map V.ref) (fun m σ H' => ∃ y5 y6, σ = [some (.ref a), some (.int e), some (.int L), some (.int (L ^ e.natAbs)), y4, y5, y6, some (.ref D), some (.ref p), some (.int (1 + (j : Int))), some (.int (((tms (fnL ns) ns.length).take m).map g).sum)] ∧ H' = H3 ∧
              ∀ i ∈ (tms (fnL ns) ns.length).take m, i ≤ j + 1) ⟨_, _, rfl, rfl, fun i hi => by cases hi⟩ (fun m σ H' _ ⟨_, _, _, eH, _⟩ => by rw [eH]; exact SqL.of hD4) ?_ ?_⟩
            · rintro m x σ H4 hm ⟨y5, y6, rfl, rfl, hle⟩
              rw [List.getElem?_map] at hm
              obtain ⟨T, hT1, rfl⟩ := Option.map_eq_some_iff.mp hm
              have hml : m < (tms (fnL ns) ns.length).length := by
                have := (List.getElem?_eq_some_iff.mp hT1).1
                omega
              have ei : (tms (fnL ns) ns.length)[m]? = some (tms (fnL ns) ns.length)[m] := by simp [hml]
              generalize (tms (fnL ns) ns.length)[m] = i at ei
              obtain ⟨T', hT2, hT3⟩ := hall m i ei
              rw [hT1] at hT2
              cases hT2
              have hi1 := tms_lt (List.mem_of_getElem? ei)
              refine ⟨T, _, rfl, SqT.of (s4 _ _ hT3), rfl, _, _, rfl, _, _, rfl, rfl, ?_⟩
              refine ⟨_, rfl, _, rfl, _, _, rfl, rfl, _, rfl, ?_⟩
              by_cases c : j + 1 < i
              · refine iteT' (decide_eq_true (by omega)) ?_
                have hm2 : (tms (fnL ns) ns.length).take m = tms (fnL ns) (j + 1 + 1) := by
                  rw [hsplit] at ei hle ⊢
                  exact cut_at (fun x hx => by have := tms_lt hx; omega) hrest ei c hle
                rw [hm2, hfull]
                exact ⟨_, _, rfl, rfl⟩
              · refine iteF' (decide_eq_false (by omega)) ?_
                have hx := hf i
                have hbn := hbb (j + 1 - i) (by omega)
                have hB2 : 0 < B2 := by
                  have h9 := hbb 0 (by omega)
                  rw [hb0, Int.natAbs_pow] at h9
                  cases B2 with
                  | zero =>
                    have h10 : 0 < L.natAbs ^ e.natAbs := Nat.pow_pos (by omega)
                    have h11 : L.natAbs ^ e.natAbs < 1 := h9
                    omega
                  | succ n => omega
                have hc1 : ((e + 1) * (i : Int) - (1 + (j : Int))).natAbs < 2 ^ 30 := by
                  have h1 : ((e + 1) * (i : Int)).natAbs ≤ 61 * 3001 := by
                    rw [Int.natAbs_mul]
                    exact Nat.mul_le_mul (by omega) (by omega)
                  have h2 : (2 : Nat) ^ 30 = 1073741824 := by decide
                  omega
                have hat3 : (((List.range (j + 1)).map b).map V.int)[j + 1 - i]? = some (V.int (b (j + 1 - i))) := by
                  rw [List.getElem?_map, List.getElem?_map, List.getElem?_range (by omega)]
                  rfl
                refine ⟨_, rfl, _, rfl, _, _, rfl, rfl, _, rfl, _, _, rfl, rfl, .inl ⟨by omega, by omega⟩, _, rfl, _, _, rfl, rfl, _, rfl, _, _, rfl, rfl, wide_mul hc1 hx (by decide) hB0 (by omega), ?_⟩
                refine ⟨_, rfl, _, rfl, _, rfl, _, _, rfl, rfl, ?_⟩
                refine ⟨p, _, _, _, rfl, rfl, SqL.of hp3, by
                  show atI _ (1 + (j : Int) - (i : Int)) = _
                  have e7 : 1 + (j : Int) - (i : Int) = ((j + 1 - i : Nat) : Int) := by omega
                  rw [e7]
                  exact atI_nat hat3, ?_⟩
                refine ⟨_, _, rfl, rfl, wide_mul (wide_lt hc1 hx) hbn (by omega) hB2 (by omega), ?_⟩
                refine ⟨_, _, rfl, rfl, ?_⟩
                have e7 : (((tms (fnL ns) ns.length).take m).map g).sum + ((e + 1) * (i : Int) - (1 + (j : Int))) * fnL ns i * b (j + 1 - i) = (((tms (fnL ns) ns.length).take (m + 1)).map g).sum := by
                  rw [take_sum ei]
                  congr 1
                  rw [← hg]
                  show _ = ((e + 1) * (i : Int) - ((j + 1 : Nat) : Int)) * fnL ns i * b (j + 1 - i)
                  rw [hcast]
                refine ⟨some (.int (i : Nat)), some (.int (fnL ns i)), ?_, rfl, fun y hy => ?_⟩
                · exact congrArg (fun z : Int => [some (V.ref a), some (V.int e), some (V.int L), some (V.int (L ^ e.natAbs)), y4, some (V.int (i : Nat)), some (V.int (fnL ns i)), some (V.ref D), some (V.ref p), some (V.int (1 + (j : Int))), some (V.int z)]) e7
                · rw [List.take_succ, ei] at hy
                  rcases List.mem_append.mp hy with z | z
                  · exact hle y z
                  · have : y = i := by simpa using z
                    omega
            · rintro σ H4 ⟨y5, y6, rfl, rfl, hle⟩
              have el : (Ts.map V.ref).length = (tms (fnL ns) ns.length).length := by rw [List.length_map, ht]
              rw [el] at hle ⊢
              have e8 : (tms (fnL ns) ns.length).take (tms (fnL ns) ns.length).length = tms (fnL ns) (j + 1 + 1) := by
                rw [List.take_length]
                rw [hsplit] at hle ⊢
                exact cut_end hrest hle
              rw [e8, hfull]
              exact ⟨_, _, rfl, rfl⟩
          · rintro σ H4 ⟨y5, y6, rfl, rfl⟩
            have hn12 : (1 + (j : Int)).natAbs < 2 ^ 12 := by
              have h2 : (2 : Nat) ^ 12 = 4096 := by decide
              omega
            have hne : (1 + (j : Int)) * L ≠ 0 := Int.mul_ne_zero (by omega) h0
            refine ⟨_, rfl, .inl ⟨rfl, _, SqL.of hp3⟩, _, rfl, _, rfl, _, rfl, _, _, rfl, rfl, wide_mul hn12 hLB (by decide) hB0 (by omega), ?_⟩
            refine ⟨_, _, rfl, rfl, ⟨hne, Nat.lt_of_lt_of_le (PySem.Flt.log2_lt_of (k := 12 + B1) (by omega) (wide_lt hn12 hLB)) (by omega)⟩, ?_⟩
            refine ⟨p, _, _, rfl, rfl, hp3, ?_, ?_⟩
            · rw [List.length_map, List.length_map, List.length_range, sizeLine_eq]
              omega
            · refine ⟨_, _, _, _, rfl, ?_, fun b' o' e' => by rw [upd_ne (ne_of_none e' hp)]; exact s4 _ _ e'⟩
              rw [upd_same, List.range_succ (n := j + 1), List.map_append, List.map_append]
              show _ = some (HO.lst (_ ++ [V.int (b (j + 1))]))
              have e9 : ((1 + (j : Int)) * L * b (j + 1)).fdiv ((1 + (j : Int)) * L) = b (j + 1) := Int.mul_fdiv_cancel_left _ hne
              show some (HO.lst (_ ++ [V.int (((1 + (j : Int)) * L * b (j + 1)).fdiv ((1 + (j : Int)) * L))])) = _
              rw [e9]
        · rintro σ H3 ⟨y5, y6, y9, y10, rfl, hp3, s4⟩
          have e9 : (((ns.map V.int).length : Int) - 1).toNat + 1 = ns.length := by
            rw [List.length_map]
            omega
          rw [e9] at hp3
          exact ⟨_, rfl, q p H3 (sb.free hp) (sb.trans s4) hp3⟩
end
end K00

set_option Elab.async false
set_option linter.all false
set_option maxRecDepth 100000
set_option maxHeartbeats 4000000
set_option pp.maxSteps 3000
namespace K00
open PySem PySem.Spec PyProof.Rows L2 Dr Xv Ps
theorem inV_pm (z : Int) : inV (.int z) [.int 1, .int (-1)] = decide (z = 1 ∨ z = -1) := by
  have e : inV (.int z) [.int 1, .int (-1)] = ((1 == z) || ((-1 == z) || false)) := by
    first
      | rfl
      | (simp [inV, eqV])
  rw [e]
  by_cases h1 : z = 1
  · subst h1
    rfl
  · by_cases h2 : z = -1
    · subst h2
      rfl
    · have e1 : (1 == z) = false := by simpa using fun h => h1 h.symm
      have e2 : (-1 == z) = false := by simpa using fun h => h2 h.symm
      rw [e1, e2, decide_eq_false (fun h => h.elim h1 h2)]
      rfl
section
variable {P : Program} {w : World} {K : PySem.W.Frag} {mg : Str → Option Value} {base : Heap} {f : Addr} {fd : FuncData} {cS cN cR : Addr}
theorem items_ref {H : Hp} {x : V} {xs : List V} (h : Items H x (some xs)) : ∃ a, x = .ref a ∧ (H a = some (.lst xs) ∨ H a = some (.tup xs)) := by
  cases h with
  | lst e => exact ⟨_, rfl, .inl e⟩
  | tup e => exact ⟨_, rfl, .inr e⟩
theorem hat {ns : List Int} {i : Nat} (hi : i < ns.length) : (ns.map V.int)[i]? = some (.int (fnL ns i)) := by
  rw [List.getElem?_map]
  unfold fnL
  rw [List.getD_eq_getElem?_getD]
  simp [hi]
/-! ### check_invertible -/
def spInvt (cR : Addr) : Sp := fun vs H Q E => ∃ (a : Addr) (ns : List Int), vs = [.ref a] ∧ Items H (.ref a) (some (ns.map V.int)) ∧ 1 ≤ ns.length ∧ ((fnL ns 0 = 1 ∨ fnL ns 0 = -1) → ∀ H', Same H H' → Q .non H') ∧ (¬ (fnL ns 0 = 1 ∨ fnL ns 0 = -1) → ∀ H', Same H H' → E (.ref cR) none H')
theorem scInvt : FnScope ["row"] ["row"] (defScope sInvt) := ⟨rfl, rfl, rfl, by decide +kernel, rfl, by decide +kernel, by decide +kernel⟩
theorem ok_invt (F : FnP K "check_invertible" sInvt f fd) (T : Txt K mg cS cN cR) : FnOk P w K mg base (L2.CX P w) 1 f fd ["row"] (spInvt cR) := by
  refine F.ok scInvt (fun vs H Q E h => ?_) (fun cdv A outer s H vs Q E hr h => ?_)
  · obtain ⟨a, ns, rfl, _⟩ := h
    rfl
  · obtain ⟨a, ns, rfl, hi, l1, q1, q2⟩ := h
    refine ⟨_, pss_one (ps_if (pt_cmpR op_notIn_seq (pe_ix ix_seq (pv 0) pe_int (fun _ _ => rfl)) (pe_tup (pa_cons pe_int (pa_cons (pe_un un_neg pe_int) pa_nil))) (by rfl))
      (pss_one (ps_raise rfl (takes_of rfl rfl rfl rfl) (pmk_own PySem.F.excBase_ValueError T.xR T.gR T.kR (raises_own T.bR T.tR) rfl))) pss_nil), ?_⟩
    have fin : ∀ tp, H tp = none → (2 ≤ sizeLine ∧ True) := fun _ _ => ⟨by decide, trivial⟩
    obtain ⟨a', e, hx⟩ := items_ref hi
    cases e
    have rest : ∀ (tp : Addr), H tp = none → (upd H tp (.tup [.int 1, .int (-1)])) tp = some (.tup [.int 1, .int (-1)]) ∧ Same H (upd H tp (.tup [.int 1, .int (-1)])) := fun tp h => ⟨upd_same, same_new h⟩
    have tail : ∀ {A B : Prop}, ((fnL ns 0 = 1 ∨ fnL ns 0 = -1) → B) → (¬ (fnL ns 0 = 1 ∨ fnL ns 0 = -1) → A) → (if (!inV (.int (fnL ns 0)) [.int 1, .int (-1)]) = true then A else B) := fun {A B} hB hA => by
      rw [inV_pm]
      by_cases c : fnL ns 0 = 1 ∨ fnL ns 0 = -1
      · rw [decide_eq_true c]
        exact iteF (hB c)
      · rw [decide_eq_false c]
        exact iteT (hA c)
    rcases hx with e | e
    · refine ⟨_, rfl, .inl ⟨a, _, _, _, rfl, rfl, SqL.of e, atI_nat (hat l1), 1, rfl, (by show 2 ≤ sizeLine; decide), fun tp htp => ?_⟩⟩
      refine ⟨tp, _, rfl, .inr (SqT.of upd_same), rfl, rfl, _, rfl, tail (fun c => q1 c _ (same_new htp)) (fun c => q2 c _ (same_new htp))⟩
    · refine ⟨_, rfl, .inr (.inl ⟨a, _, _, _, rfl, rfl, SqT.of e, atI_nat (hat l1), 1, rfl, (by show 2 ≤ sizeLine; decide), fun tp htp => ?_⟩)⟩
      refine ⟨tp, _, rfl, .inr (SqT.of upd_same), rfl, rfl, _, rfl, tail (fun c => q1 c _ (same_new htp)) (fun c => q2 c _ (same_new htp))⟩
/-! ### _leading_zeros -/
def spZeros : Sp := fun vs H Q _ => ∃ (a : Addr) (ns : List Int), vs = [.ref a] ∧ H a = some (.lst (ns.map V.int)) ∧ ns.length ≤ 3001 ∧ ∀ z : Nat, z ≤ ns.length → (∀ i, i < z → fnL ns i = 0) → (z < ns.length → fnL ns z ≠ 0) → Q (.int (z : Int)) H
theorem scZeros : FnScope ["row", "count"] ["row"] (defScope sZeros) := ⟨rfl, rfl, rfl, by decide +kernel, rfl, by decide +kernel, by decide +kernel⟩
theorem ok_zeros (F : FnP K "_leading_zeros" sZeros f fd) (len0 : mg "len" = none) : FnOk P w K mg base CX0 1 f fd ["row"] spZeros := by
  refine F.ok scZeros (fun vs H Q E h => ?_) (fun cdv A outer s H vs Q E hr h => ?_)
  · obtain ⟨a, ns, rfl, _⟩ := h
    rfl
  · obtain ⟨a, ns, rfl, ha, l2, q⟩ := h
    refine ⟨_, PSs.nox (pss_cons (ps_set (i := 1) scZeros.nd rfl (Or.inl rfl) pe_int)
      (pss_cons (ps_while PassesOwn.never (PW.pt (pw_and (pt_cmpR op_lt (pv 1) (pe_callB call_len (by rfl) len0 PySem.boot_len (pa_cons (pv 0) pa_nil)) (nomark _)) (pw_and1 (pt_cmpR op_eq (pe_ix ix_list (pv 0) (pv 1) (fun _ _ => rfl)) pe_int (nomark _)))))
        (pss_one (ps_aug (i := 1) scZeros.nd rfl (Or.inl rfl) pe_int ip_add)))
      (pss_one (ps_ret (pv 1))))), ?_⟩
    refine ⟨fun m σ H' => ∃ z : Nat, σ = [some (.ref a), some (.int (z : Int))] ∧ H' = H ∧ z ≤ ns.length ∧ (∀ i, i < z → fnL ns i = 0) ∧ m = ns.length - z, ⟨_, 0, rfl, rfl, Nat.zero_le _, fun i h => absurd h (Nat.not_lt_zero _), rfl⟩, ?_⟩
    rintro m σ H1 ⟨z, rfl, rfl, hz, h0, rfl⟩
    refine ⟨_, rfl, _, rfl, _, _, rfl, .inl ⟨_, SqL.of ha, rfl⟩, _, _, rfl, rfl, _, rfl, ?_⟩
    by_cases c : z < ns.length
    · refine iteT' (decide_eq_true (by rw [List.length_map]; omega)) ?_
      refine ⟨_, rfl, _, rfl, a, _, _, _, rfl, rfl, SqL.of ha, atI_nat (hat c), rfl, _, rfl, ?_⟩
      by_cases c2 : fnL ns z = 0
      · refine iteT' (decide_eq_true (by rw [c2])) ⟨_, fun σ' H' e => e, ?_⟩
        refine ⟨_, rfl, _, _, rfl, rfl, ?_⟩
        exact ⟨ns.length - (z + 1), by omega, z + 1, rfl, rfl, by omega, fun i hi => by
          by_cases e : i = z
          · rw [e]
            exact c2
          · exact h0 i (by omega), rfl⟩
      · refine iteF' (decide_eq_false (fun h => c2 (by injection h))) ⟨_, rfl, q z hz h0 fun _ => c2⟩
    · refine iteF' (decide_eq_false (by rw [List.length_map]; omega)) ?_
      exact iteF ⟨_, rfl, q z hz h0 fun h => absurd h c⟩
end
end K00

set_option Elab.async false
set_option linter.all false
set_option maxRecDepth 100000
set_option maxHeartbeats 4000000
set_option pp.maxSteps 3000
set_option exponentiation.threshold 500000
namespace K00
open PySem PySem.Spec PyProof.Rows L2 Dr Xv Ps
theorem nums_of : ∀ {xs : List V}, xs.all isNum = true → ∃ ns : List Int, xs = ns.map V.int
  | [], _ => ⟨[], rfl⟩
  | x :: r, h => by
    rw [List.all_cons, Bool.and_eq_true] at h
    obtain ⟨ns, rfl⟩ := nums_of h.2
    cases x with
    | int z => exact ⟨z :: ns, rfl⟩
    | _ => cases h.1
theorem isRow_ints {o : Option (List V)} (h : isRow o = true) : ∃ ns : List Int, o = some (ns.map V.int) ∧ 1 ≤ ns.length ∧ ns.length ≤ 3001 := by
  cases o with
  | none => cases h
  | some xs =>
    have e1 : (xs.all isNum && (decide (1 ≤ (xs.length : Int)) && decide ((xs.length : Int) ≤ 3001))) = true := h
    simp only [Bool.and_eq_true, decide_eq_true_eq] at e1
    obtain ⟨ns, rfl⟩ := nums_of e1.1
    rw [List.length_map] at e1
    exact ⟨ns, rfl, by omega, by omega⟩
theorem within_int {m : V} {lo hi : Int} (h : within m lo hi = true) : ∃ i, m = .int i ∧ lo ≤ i ∧ i ≤ hi := by
  cases m with
  | int i =>
    have e : (decide (lo ≤ i) && decide (i ≤ hi)) = true := h
    simp only [Bool.and_eq_true, decide_eq_true_eq] at e
    exact ⟨i, rfl, e.1, e.2⟩
  | _ => cases h
/-! ### what the power of a row is -/
def rowOf (n : Nat) (b : S) : List V := ((List.range n).map b).map V.int
theorem fnL_out {ns : List Int} {i : Nat} (h : ns.length ≤ i) : fnL ns i = 0 := by
  unfold fnL
  rw [List.getD_eq_getElem?_getD, List.getElem?_eq_none h]
  rfl
theorem bound_pos {ns : List Int} {B1 k : Nat} (hB : B1 ≤ 6000) (hf : ∀ i, (fnL ns i).natAbs < 2 ^ B1) (l1 : 1 ≤ ns.length) (l2 : ns.length ≤ 3001) (hk : k ≤ 60) : ∀ n, n < ns.length → (pw (fnL ns) k n).natAbs < 2 ^ 400000 := fun n hn => by
  have h1 := pw_bound (A := 2 ^ B1) (N := ns.length) (fun i _ => Nat.le_of_lt (hf i)) (by omega) k n hn
  refine Nat.lt_of_le_of_lt h1 ?_
  have h2 : ns.length * 2 ^ B1 ≤ 2 ^ (12 + B1) := by
    rw [Nat.pow_add]
    refine Nat.mul_le_mul_right _ ?_
    have e : (2 : Nat) ^ 12 = 4096 := by decide
    omega
  refine Nat.lt_of_le_of_lt (Nat.pow_le_pow_left h2 k) ?_
  rw [← Nat.pow_mul]
  refine Nat.pow_lt_pow_right (by decide) ?_
  have h3 : (12 + B1) * k ≤ 6012 * 60 := Nat.mul_le_mul (by omega) hk
  omega
theorem inv_small {ns : List Int} {u : Int} (hu : u.natAbs = 1) (hf : ∀ i, (fnL ns i).natAbs < 2 ^ 100) : ∀ n, n < 9 → (inv (fnL ns) u n).natAbs ≤ 2 ^ 840 := fun n hn => by
  have h1 := inv_bound (A := 2 ^ 100) (N := 9) hu (fun i _ => Nat.le_of_lt (hf i)) n hn
  refine Nat.le_trans h1 ?_
  have h2 : 9 * (2 ^ 100 + 1) ≤ 2 ^ 105 := by decide
  refine Nat.le_trans (Nat.pow_le_pow_left h2 n) ?_
  rw [← Nat.pow_mul]
  exact Nat.pow_le_pow_right (by decide) (by omega)
theorem bound_neg {ns : List Int} {u : Int} {k : Nat} (hu : u.natAbs = 1) (hf : ∀ i, (fnL ns i).natAbs < 2 ^ 100) (l2 : ns.length ≤ 9) (hk : k ≤ 60) : ∀ n, n < ns.length → (pw (inv (fnL ns) u) k n).natAbs < 2 ^ 400000 := fun n hn => by
  have h1 := pw_bound (A := 2 ^ 840) (N := 9) (inv_small hu hf) (by decide) k n (by omega)
  refine Nat.lt_of_le_of_lt h1 ?_
  have h2 : 9 * 2 ^ 840 ≤ 2 ^ 844 := by decide
  refine Nat.lt_of_le_of_lt (Nat.pow_le_pow_left h2 k) ?_
  rw [← Nat.pow_mul]
  exact Nat.pow_lt_pow_right (by decide) (by omega)
section
variable {P : Program} {w : World} {K : PySem.W.Frag} {mg : Str → Option Value} {base : Heap} {f fC fI fL fW fZ : Addr} {fd fdC fdI fdL fdW fdZ : FuncData} {cS cN cR : Addr}
/-- the promise of _power_of_led for a power that is not negative -/
theorem led_pos {H : Hp} {Q : VK} {E : XK} {a : Addr} {ns : List Int} {k B1 : Nat} (ha : H a = some (.lst (ns.map V.int))) (l1 : 1 ≤ ns.length) (l2 : ns.length ≤ 3001) (hk : k ≤ 60) (h0 : fnL ns 0 ≠ 0) (hB : B1 ≤ 6000) (hf : ∀ i, (fnL ns i).natAbs < 2 ^ B1)
    (q : ∀ (p : Addr) (H' : Hp), H p = none → Same H H' → H' p = some (.lst (rowOf ns.length (pw (fnL ns) k))) → Q (.ref p) H') : spLed [.ref a, .int (k : Int)] H Q E := by
  refine ⟨a, ns, (k : Int), pw (fnL ns) k, B1, 400000, rfl, ha, l1, l2, by omega, h0, ?_, fun n _ => recur (dv_pw (fnL ns) k) n, by omega, Nat.le_refl _, hf, bound_pos hB hf l1 l2 hk, q⟩
  rw [pw_zero]
  congr 1
theorem led_neg {H : Hp} {Q : VK} {E : XK} {a : Addr} {ns : List Int} {k : Nat} {e u : Int} (he : e = -(k : Int)) (ha : H a = some (.lst (ns.map V.int))) (l1 : 1 ≤ ns.length) (l2 : ns.length ≤ 9) (hk : k ≤ 60) (h0 : fnL ns 0 = u) (hu : u = 1 ∨ u = -1) (hf : ∀ i, (fnL ns i).natAbs < 2 ^ 100)
    (q : ∀ (p : Addr) (H' : Hp), H p = none → Same H H' → H' p = some (.lst (rowOf ns.length (pw (inv (fnL ns) u) k))) → Q (.ref p) H') : spLed [.ref a, .int e] H Q E := by
  subst he
  have hu2 : u * u = 1 := by
    rcases hu with rfl | rfl <;> rfl
  have hun : u.natAbs = 1 := by
    rcases hu with rfl | rfl <;> rfl
  refine ⟨a, ns, -(k : Int), pw (inv (fnL ns) u) k, 100, 400000, rfl, ha, l1, by omega, by omega, by rcases hu with rfl | rfl <;> omega, ?_, fun n _ => recur (dv_inv (fnL ns) _ (cv_inv (fnL ns) h0 hu2) k) n, by decide, Nat.le_refl _, hf, bound_neg hun hf l2 hk, q⟩
  rw [pw_zero, inv_zero, h0]
  congr 1
  omega
/-! ### row_inverse -/
def spInv (cR : Addr) : Sp := fun vs H Q E => ∃ (x : V) (o : Option (List V)), vs = [x] ∧ Items H x o ∧ (∀ a, x = .ref a → isRow o = true → ∃ xs, H a = some (.lst xs)) ∧ short o ∧ AllPV H o ∧ (isRow o = false → ∀ H', Same H H' → E (.ref cR) none H') ∧
  (∀ ns : List Int, o = some (ns.map V.int) → ¬ (fnL ns 0 = 1 ∨ fnL ns 0 = -1) → ∀ H', Same H H' → E (.ref cR) none H') ∧
  (∀ ns : List Int, o = some (ns.map V.int) → isRow o = true → (fnL ns 0 = 1 ∨ fnL ns 0 = -1) → ns.length ≤ 9 ∧ (∀ i, (fnL ns i).natAbs < 2 ^ 100) ∧ ∀ (p : Addr) (H' : Hp), H p = none → Same H H' → H' p = some (.lst (rowOf ns.length (inv (fnL ns) (fnL ns 0)))) → Q (.ref p) H')
theorem scInv : FnScope ["row"] ["row"] (defScope sInv) := ⟨rfl, rfl, rfl, by decide +kernel, rfl, by decide +kernel, by decide +kernel⟩
theorem ok_inv (F : FnP K "row_inverse" sInv f fd)
    (GC : FnOk P w K mg base (L2.CX P w) 5 fC fdC ["row"] (spChk cR)) (bC : L2.Binds K fdC ["row"] []) (gC : mg "check_row" = some (.ref fC)) (kC : PySem.W.keepIn K (.ref fC) = true)
    (GI : FnOk P w K mg base (L2.CX P w) 1 fI fdI ["row"] (spInvt cR)) (bI : L2.Binds K fdI ["row"] []) (gI : mg "check_invertible" = some (.ref fI)) (kI : PySem.W.keepIn K (.ref fI) = true)
    (GL : FnOk P w K mg base CX0 1 fL fdL ["row", "k"] spLed) (bL : L2.Binds K fdL ["row", "k"] []) (gL : mg "_power_of_led" = some (.ref fL)) (kL : PySem.W.keepIn K (.ref fL) = true) :
    FnOk P w K mg base (L2.CX P w) 6 f fd ["row"] (spInv cR) := by
  refine F.ok scInv (fun vs H Q E h => ?_) (fun cdv A outer s H vs Q E hr h => ?_)
  · obtain ⟨x, o, rfl, _⟩ := h
    rfl
  · obtain ⟨x, o, rfl, hi, hL, hl, hp, q1, q2, q3⟩ := h
    refine ⟨_, pss_cons (ps_expr (pe_call GC hr rfl gC kC bC .nil (passes_call (takes_of rfl rfl rfl rfl) (fun _ _ _ _ h => h)) (pa_cons (pv 0) pa_nil)))
      (pss_cons (ps_expr (pe_call GI (hr.mono (by decide)) rfl gI kI bI .nil (passes_call (takes_of rfl rfl rfl rfl) (fun _ _ _ _ h => h)) (pa_cons (pv 0) pa_nil)))
      (PSs.nox (pss_one (ps_ret (pe_call GL (hr.mono (by decide)) rfl gL kL bL .nil pass0 (pa_cons (pv 0) (pa_cons (pe_un un_neg pe_int) pa_nil))))))), ?_⟩
    refine ⟨_, rfl, x, o, rfl, hi, hl, hp, fun hrow H1 s1 => ?_, fun hrow H1 s1 => q1 hrow _ s1⟩
    obtain ⟨ns, rfl, l1, l2⟩ := isRow_ints hrow
    obtain ⟨a, rfl, hx⟩ := items_ref hi
    obtain ⟨xs, e⟩ := hL a rfl hrow
    have e1 : H a = some (.lst (ns.map V.int)) := by
      rcases hx with z | z
      · exact z
      · rw [e] at z
        cases z
    refine ⟨_, rfl, a, ns, rfl, (Items.lst e1).same s1, l1, fun hu H2 s2 => ?_, fun hu H2 s2 => q2 ns rfl hu _ (s1.trans s2)⟩
    obtain ⟨b1, b2, q⟩ := q3 ns rfl hrow hu
    have s3 := s1.trans s2
    refine ⟨_, rfl, 1, rfl, led_neg (E := E0) (k := 1) (u := fnL ns 0) (by decide) (s3 _ _ e1) l1 b1 (by decide) rfl hu b2 fun p H4 hp4 s4 h4 => ?_⟩
    have e5 : pw (inv (fnL ns) (fnL ns 0)) 1 = inv (fnL ns) (fnL ns 0) := one_cv _
    rw [e5] at h4
    exact q p H4 (s3.free hp4) (s3.trans s4) h4
end
end K00

set_option Elab.async false
set_option linter.all false
set_option maxRecDepth 100000
set_option maxHeartbeats 4000000
set_option pp.maxSteps 3000
set_option exponentiation.threshold 500000
namespace K00
open PySem PySem.Spec PyProof.Rows L2 Dr Xv Ps
theorem tn {σ : L2.St} {H : Hp} {Q : List V → Hp → Prop} (h : Q [] H) : tNil σ H Q := h
theorem tn0 {v : V} {σ : L2.St} {H : Hp} {Q : List V → Hp → Prop} (h : Q [v] H) : tCons (tC v) tNil σ H Q := h
def zer (n : Nat) : List V := List.replicate n (.int 0)
theorem rep1 {x : V} : ∀ n : Nat, (List.replicate n [x]).flatten = List.replicate n x
  | 0 => rfl
  | n + 1 => by
    rw [List.replicate_succ, List.flatten_cons, rep1 n, List.replicate_succ]
    rfl
theorem row_ext {n : Nat} {b b' : S} (h : ∀ i, i < n → b i = b' i) : rowOf n b = rowOf n b' := by
  unfold rowOf
  congr 1
  exact List.map_congr_left fun i hi => h i (List.mem_range.mp hi)
theorem row_zero {n : Nat} {b : S} (h : ∀ i, i < n → b i = 0) : rowOf n b = zer n := by
  unfold rowOf zer
  refine List.eq_replicate_iff.mpr ⟨by simp, fun v hv => ?_⟩
  obtain ⟨z, hz, rfl⟩ := List.mem_map.mp hv
  obtain ⟨i, hi, rfl⟩ := List.mem_map.mp hz
  rw [h i (List.mem_range.mp hi)]
theorem row_one {n : Nat} (h : 1 ≤ n) : rowOf n one = .int 1 :: zer (n - 1) := by
  obtain ⟨m, rfl⟩ : ∃ m, n = m + 1 := ⟨n - 1, by omega⟩
  unfold rowOf
  rw [List.range_succ_eq_map, List.map_cons, List.map_cons]
  congr 1
  show List.map V.int (List.map one (List.map Nat.succ (List.range m))) = zer (m + 1 - 1)
  refine List.eq_replicate_iff.mpr ⟨by simp, fun v hv => ?_⟩
  obtain ⟨z, hz, rfl⟩ := List.mem_map.mp hv
  obtain ⟨i, hi, rfl⟩ := List.mem_map.mp hz
  obtain ⟨j, _, rfl⟩ := List.mem_map.mp hi
  rfl
theorem row_split {z n : Nat} {b c : S} (h0 : ∀ i, i < z → b i = 0) (h1 : ∀ i, i < n → b (z + i) = c i) : rowOf (z + n) b = zer z ++ rowOf n c := by
  unfold rowOf
  rw [List.range_add, List.map_append, List.map_append]
  congr 1
  · exact row_zero h0
  · refine congrArg (List.map V.int) ?_
    rw [List.map_map]
    exact List.map_congr_left fun i hi => h1 i (List.mem_range.mp hi)
theorem fnL_drop (ns : List Int) (z i : Nat) : fnL (ns.drop z) i = fnL ns (z + i) := by
  unfold fnL
  rw [List.getD_eq_getElem?_getD, List.getD_eq_getElem?_getD, List.getElem?_drop]
theorem fnL_take {ns : List Int} {m i : Nat} (h : i < m) : fnL (ns.take m) i = fnL ns i := by
  unfold fnL
  rw [List.getD_eq_getElem?_getD, List.getD_eq_getElem?_getD, List.getElem?_take, if_pos h]
theorem fnL_sh {ns : List Int} {z : Nat} (h : ∀ i, i < z → fnL ns i = 0) : fnL ns = sh z (fnL (ns.drop z)) := by
  funext i
  unfold sh
  by_cases c : i < z
  · rw [if_pos c, h i c]
  · rw [if_neg c, fnL_drop]
    congr 1
    omega
theorem pow_all_zero {ns : List Int} {z k : Nat} (h : ∀ i, i < z → fnL ns i = 0) (hz : ns.length ≤ z * k) : rowOf ns.length (pw (fnL ns) k) = zer ns.length := by
  refine row_zero fun i hi => ?_
  rw [fnL_sh h, pw_sh]
  show (if i < z * k then 0 else _) = 0
  rw [if_pos (by omega)]
theorem pow_led {ns : List Int} {z k : Nat} (h : ∀ i, i < z → fnL ns i = 0) (hz : z * k < ns.length) : rowOf ns.length (pw (fnL ns) k) = zer (z * k) ++ rowOf (ns.length - z * k) (pw (fnL ((ns.drop z).take (ns.length - z * k))) k) := by
  have e : ns.length = z * k + (ns.length - z * k) := by omega
  have e2 : rowOf ns.length (pw (fnL ns) k) = rowOf (z * k + (ns.length - z * k)) (pw (fnL ns) k) := by rw [← e]
  rw [e2]
  refine row_split (fun i hi => ?_) fun i hi => ?_
  · rw [fnL_sh h, pw_sh]
    show (if i < z * k then 0 else _) = 0
    rw [if_pos hi]
  · rw [fnL_sh h, pw_sh]
    show (if z * k + i < z * k then 0 else pw (fnL (ns.drop z)) k (z * k + i - z * k)) = _
    rw [if_neg (by omega)]
    have e3 : z * k + i - z * k = i := by omega
    rw [e3]
    exact pw_congr (N := ns.length - z * k) (fun j hj => (fnL_take hj).symm) k i hi
theorem cut_mid {ns : List Int} {i j : Nat} (h1 : i ≤ ns.length) (h2 : j ≤ ns.length) : cutV (ns.map V.int) (some (i : Int)) (some (j : Int)) = ((ns.drop i).take (j - i)).map V.int := by
  have hi : HT.sIx (ns.map V.int).length 0 (some (i : Int)) = i := by
    rw [List.length_map, HT.sIx_nat]
    omega
  have hj : HT.sIx (ns.map V.int).length (ns.map V.int).length (some (j : Int)) = j := by
    rw [List.length_map, HT.sIx_nat]
    omega
  unfold cutV
  rw [hi, hj, List.map_take, List.map_drop]
section
variable {P : Program} {w : World} {K : PySem.W.Frag} {mg : Str → Option Value} {base : Heap} {f fC fI fL fW fZ : Addr} {fd fdC fdI fdL fdW fdZ : FuncData} {cS cN cR : Addr}
/-! ### row_power -/
def spPow (cN cR : Addr) : Sp := fun vs H Q E => ∃ (x kv : V) (o : Option (List V)), vs = [x, kv] ∧ Items H x o ∧ (∀ a, x = .ref a → isRow o = true → ∃ xs, H a = some (.lst xs)) ∧ short o ∧ AllPV H o ∧ PV H kv ∧ (isRow o = false → ∀ H', Same H H' → E (.ref cR) none H') ∧
  (isRow o = true → within kv (-60) 60 = false → ∀ H', Same H H' → E (.ref cN) none H') ∧
  (∀ (ns : List Int) (e : Int), o = some (ns.map V.int) → kv = .int e → -60 ≤ e → e < 0 → ¬ (fnL ns 0 = 1 ∨ fnL ns 0 = -1) → ∀ H', Same H H' → E (.ref cR) none H') ∧
  (∀ (ns : List Int) (k : Nat), o = some (ns.map V.int) → isRow o = true → kv = .int (k : Int) → k ≤ 60 → (∀ i, (fnL ns i).natAbs < 2 ^ 6000) ∧ ∀ (p : Addr) (H' : Hp), H p = none → Same H H' → H' p = some (.lst (rowOf ns.length (pw (fnL ns) k))) → Q (.ref p) H') ∧
  (∀ (ns : List Int) (k : Nat), o = some (ns.map V.int) → isRow o = true → kv = .int (-(k : Int)) → 1 ≤ k → k ≤ 60 → (fnL ns 0 = 1 ∨ fnL ns 0 = -1) → ns.length ≤ 9 ∧ (∀ i, (fnL ns i).natAbs < 2 ^ 100) ∧
    ∀ (p : Addr) (H' : Hp), H p = none → Same H H' → H' p = some (.lst (rowOf ns.length (pw (inv (fnL ns) (fnL ns 0)) k))) → Q (.ref p) H')
theorem scPow : FnScope ["row", "k", "size", "zeros", "led"] ["row", "k"] (defScope sPow) := ⟨rfl, rfl, rfl, by decide +kernel, rfl, by decide +kernel, by decide +kernel⟩
theorem ok_pow (F : FnP K "row_power" sPow f fd) (T : Txt K mg cS cN cR) (len0 : mg "len" = none) {tG : Tok} (gG : mg "GREATEST_POWER" = some (.int 60 tG))
    (GC : FnOk P w K mg base (L2.CX P w) 5 fC fdC ["row"] (spChk cR)) (bC : L2.Binds K fdC ["row"] []) (gC : mg "check_row" = some (.ref fC)) (kC : PySem.W.keepIn K (.ref fC) = true)
    (GI : FnOk P w K mg base (L2.CX P w) 1 fI fdI ["row"] (spInvt cR)) (bI : L2.Binds K fdI ["row"] []) (gI : mg "check_invertible" = some (.ref fI)) (kI : PySem.W.keepIn K (.ref fI) = true)
    (GW : FnOk P w K mg base CX0 2 fW fdW ["thing", "least", "greatest"] spWithin) (bW : L2.Binds K fdW ["thing", "least", "greatest"] []) (gW : mg "is_within" = some (.ref fW)) (kW : PySem.W.keepIn K (.ref fW) = true)
    (GZ : FnOk P w K mg base CX0 1 fZ fdZ ["row"] spZeros) (bZ : L2.Binds K fdZ ["row"] []) (gZ : mg "_leading_zeros" = some (.ref fZ)) (kZ : PySem.W.keepIn K (.ref fZ) = true)
    (GL : FnOk P w K mg base CX0 1 fL fdL ["row", "k"] spLed) (bL : L2.Binds K fdL ["row", "k"] []) (gL : mg "_power_of_led" = some (.ref fL)) (kL : PySem.W.keepIn K (.ref fL) = true) :
    FnOk P w K mg base (L2.CX P w) 6 f fd ["row", "k"] (spPow cN cR) := by
  refine F.ok scPow (fun vs H Q E h => ?_) (fun cdv A outer s H vs Q E hr h => ?_)
  · obtain ⟨x, kv, o, rfl, _⟩ := h
    rfl
  · obtain ⟨x, kv, o, rfl, hi, hL, hl, hp, hkv, qA, qB, qC, qD, qF⟩ := h
    refine ⟨_, pss_cons (ps_expr (pe_call GC hr rfl gC kC bC .nil (passes_call (takes_of rfl rfl rfl rfl) (fun _ _ _ _ h => h)) (pa_cons (pv 0) pa_nil)))
      (pss_cons (ps_if (pt_not (pt_val (pe_call GW (hr.mono (by decide)) rfl gW kW bW .nil pass0 (pa_cons (pv 1) (pa_cons (pe_un un_neg (pe_glob (v := .int 60) rfl gG ⟨_, rfl⟩)) (pa_cons (pe_glob (v := .int 60) rfl gG ⟨_, rfl⟩) pa_nil)))))) (pss_one (ps_raise rfl (takes_of rfl rfl rfl rfl) (pmk_own PySem.F.excBase_ValueError T.xN T.gN T.kN (raises_own T.bN T.tN) rfl))) pss_nil)
      (C8.pss_cut (ps_if (pt_cmpR op_lt (pv 1) pe_int (nomark _)) (pss_one (ps_expr (pe_call GI (hr.mono (by decide)) rfl gI kI bI .nil (passes_call (takes_of rfl rfl rfl rfl) (fun _ _ _ _ h => h)) (pa_cons (pv 0) pa_nil)))) pss_nil)
      (PSs.nox (pss_cons (ps_set (i := 2) scPow.nd rfl (Or.inl rfl) (pe_callB call_len (by rfl) len0 PySem.boot_len (pa_cons (pv 0) pa_nil)))
      (pss_cons (ps_if (pt_cmpR op_eq (pv 1) pe_int (nomark _)) (pss_one (ps_ret (pe_op op_cat (pe_lst (pa_cons pe_int pa_nil)) (pe_op op_rep (pe_lst (pa_cons pe_int pa_nil)) (pe_op op_sub (pv 2) pe_int))))) pss_nil)
      (pss_cons (ps_set (i := 3) scPow.nd rfl (Or.inl rfl) (pe_call GZ (hr.mono (by decide)) rfl gZ kZ bZ .nil pass0 (pa_cons (pv 0) pa_nil)))
      (pss_cons (ps_if (pt_cmpR op_ge (pe_op op_mul (pv 3) (pv 1)) (pv 2) (nomark _)) (pss_one (ps_ret (pe_op op_rep (pe_lst (pa_cons pe_int pa_nil)) (pv 2)))) pss_nil)
      (pss_cons (ps_set (i := 4) scPow.nd rfl (Or.inl rfl) (pe_slice sl_list (pv 0) (po_some (pv 3)) (po_some (pe_op op_sub (pe_op op_add (pv 3) (pv 2)) (pe_op op_mul (pv 3) (pv 1))))))
      (pss_one (ps_ret (pe_op op_cat (pe_op op_rep (pe_lst (pa_cons pe_int pa_nil)) (pe_op op_mul (pv 3) (pv 1))) (pe_call GL (hr.mono (by decide)) rfl gL kL bL .nil pass0 (pa_cons (pv 4) (pa_cons (pv 1) pa_nil)))))))))))))), ?_⟩
    refine ⟨_, rfl, x, o, rfl, hi, hl, hp, fun hrow H1 s1 => ?_, fun hrow H1 s1 => qA hrow _ s1⟩
    refine ⟨_, rfl, _, rfl, kv, -60, 60, rfl, hkv.same s1, within kv (-60) 60, rfl, ?_⟩
    cases hw : within kv (-60) 60 with
    | false => exact iteT (qB hrow hw _ s1)
    | true =>
      refine iteF ?_
      obtain ⟨e, rfl, e1, e2⟩ := within_int hw
      obtain ⟨ns, rfl, l1, l2⟩ := isRow_ints hrow
      obtain ⟨a, rfl, hx⟩ := items_ref hi
      obtain ⟨xs, hxs⟩ := hL a rfl hrow
      have ha : H a = some (.lst (ns.map V.int)) := by
        rcases hx with z | z
        · exact z
        · rw [hxs] at z
          cases z
      refine ⟨fun σ H' => σ = [some (.ref a), some (.int e), none, none, none] ∧ Same H H' ∧ (e < 0 → (fnL ns 0 = 1 ∨ fnL ns 0 = -1)), ?_, ?_⟩
      · refine ⟨_, rfl, _, _, rfl, rfl, _, rfl, ?_⟩
        by_cases c : e < 0
        · refine iteT' (decide_eq_true c) ⟨_, rfl, a, ns, rfl, (Items.lst ha).same s1, l1, fun hu H2 s2 => ⟨rfl, s1.trans s2, fun _ => hu⟩, fun hu H2 s2 => qC ns e rfl rfl e1 c hu _ (s1.trans s2)⟩
        · exact iteF' (decide_eq_false c) ⟨rfl, s1, fun h => absurd h c⟩
      · rintro σ H2 ⟨rfl, s2, hun⟩
        have ll : (ns.map V.int).length = ns.length := List.length_map _
        refine ⟨_, rfl, _, _, rfl, .inl ⟨_, SqL.of (s2 _ _ ha), rfl⟩, ?_⟩
        refine ⟨_, rfl, rfl, _, rfl, ?_⟩
        by_cases c0 : e = 0
        · subst c0
          refine iteT' (decide_eq_true rfl) ?_
          obtain ⟨_, q⟩ := qD ns 0 rfl hrow rfl (by decide)
          refine ⟨(by show 1 ≤ sizeLine; decide), fun p1 h1 => ⟨(by show 1 ≤ sizeLine; decide), fun p2 h2 => ⟨_, rfl, _, _, rfl, rfl, p2, _, _, rfl, rfl, upd_same, by omega, by omega, ?_, fun p3 h3 => ?_⟩⟩⟩
          · show 1 * _ ≤ sizeLine
            rw [sizeLine_eq]
            omega
          have k1 := same_new (o := .lst [V.int 1]) h1
          have k2 := same_new (o := .lst [V.int 0]) h2
          have k3 := same_new (o := .lst (List.replicate (((ns.map V.int).length : Int) - 1).toNat [V.int 0]).flatten) h3
          refine ⟨p1, p3, [V.int 1], zer (ns.length - 1), rfl, rfl, (k2.trans k3) _ _ upd_same, ?_, ?_, fun p4 h4 => ?_⟩
          · show (upd _ p3 (.lst (List.replicate (((ns.map V.int).length : Int) - 1).toNat [V.int 0]).flatten)) p3 = _
            rw [upd_same, rep1]
            have e5 : (((ns.map V.int).length : Int) - 1).toNat = ns.length - 1 := by omega
            rw [e5]
            rfl
          · show 1 + (List.replicate _ _).length ≤ sizeLine
            rw [List.length_replicate, sizeLine_eq]
            omega
          · have s4 := s2.trans ((k1.trans (k2.trans k3)).trans (same_new (o := .lst ([V.int 1] ++ zer (ns.length - 1))) h4))
            refine q p4 _ ((s2.trans (k1.trans (k2.trans k3))).free h4) s4 ?_
            rw [upd_same]
            show _ = some (HO.lst (rowOf ns.length one))
            rw [row_one l1]
            rfl
        · refine iteF' (decide_eq_false (fun h => c0 (by injection h))) ?_
          refine ⟨_, rfl, a, ns, rfl, s2 _ _ ha, l2, fun z hz h0 hne => ?_⟩
          have hzero : ∀ n : Int, (List.replicate n.toNat [V.int 0]).flatten = zer n.toNat := fun n => rep1 _
          by_cases ce : e < 0
          · -- a negative power
            have hu := hun ce
            have ez : z = 0 := by
              by_cases h : z = 0
              · exact h
              · have := h0 0 (by omega)
                rcases hu with h' | h' <;> rw [h'] at this <;> cases this
            subst ez
            obtain ⟨k, rfl⟩ : ∃ k : Nat, e = -(k : Int) := ⟨e.natAbs, by omega⟩
            obtain ⟨b1, b2, q⟩ := qF ns k rfl hrow rfl (by omega) (by omega) hu
            refine ⟨_, rfl, _, rfl, _, _, rfl, rfl, .inl ⟨by decide, by decide⟩, _, rfl, _, _, rfl, rfl, _, rfl, ?_⟩
            refine iteF' (decide_eq_false (by
              show ¬ ((0 : Int) * (-(k : Int)) ≥ _)
              rw [Int.zero_mul]
              omega)) ?_
            refine ⟨_, rfl, _, rfl, _, rfl, _, rfl, _, rfl, _, _, rfl, rfl, _, rfl, _, rfl, _, _, rfl, rfl, .inl ⟨by decide, by decide⟩, _, _, rfl, rfl, _, rfl, a, _, rfl, SqL.of (s2 _ _ ha), fun p1 h1 => ?_⟩
            have eS : ((0 : Nat) : Int) + ((ns.map V.int).length : Int) - ((0 : Nat) : Int) * (-(k : Int)) = (ns.length : Int) := by
              show (0 : Int) + _ - (0 : Int) * _ = _
              rw [Int.zero_mul]
              omega
            have hled : (upd H2 p1 (.lst (cutV (ns.map V.int) (some ((0 : Nat) : Int)) (some (((0 : Nat) : Int) + ((ns.map V.int).length : Int) - ((0 : Nat) : Int) * (-(k : Int))))))) p1 = some (.lst (ns.map V.int)) := by
              rw [upd_same, eS, cut_mid (Nat.zero_le _) (Nat.le_refl _), Nat.sub_zero]
              show some (HO.lst ((ns.take ns.length).map V.int)) = _
              rw [List.take_length]
            have k1 := same_new (o := .lst (cutV (ns.map V.int) (some ((0 : Nat) : Int)) (some (((0 : Nat) : Int) + ((ns.map V.int).length : Int) - ((0 : Nat) : Int) * (-(k : Int)))))) h1
            refine ⟨(by show 1 ≤ sizeLine; decide), fun p2 h2 => ⟨_, rfl, _, rfl, _, _, rfl, rfl, .inl ⟨by decide, by decide⟩, p2, _, _, rfl, rfl, upd_same, ?_, ?_, ?_, fun p3 h3 => ?_⟩⟩
            · show -(2 ^ 63) ≤ (0 : Int) * _
              rw [Int.zero_mul]
              decide
            · show (0 : Int) * _ < 2 ^ 63
              rw [Int.zero_mul]
              decide
            · show 1 * ((0 : Int) * _).toNat ≤ sizeLine
              rw [Int.zero_mul]
              decide
            have k2 := same_new (o := .lst [V.int 0]) h2
            have k3 := same_new (o := .lst (List.replicate (((0 : Nat) : Int) * (-(k : Int))).toNat [V.int 0]).flatten) h3
            refine ⟨_, rfl, _, rfl, tn <| led_neg (E := E0) (k := k) rfl ((k2.trans k3) _ _ hled) l1 b1 (by omega) rfl hu b2 fun p4 H4 hp4 s4 h4 => ?_⟩
            refine ⟨p3, p4, [], _, rfl, rfl, ?_, h4, ?_, fun p5 h5 => ?_⟩
            · refine s4 _ _ ?_
              rw [upd_same, hzero]
              show some (HO.lst (zer ((0 : Int) * _).toNat)) = _
              rw [Int.zero_mul]
              rfl
            · show 0 + (rowOf _ _).length ≤ sizeLine
              unfold rowOf
              rw [List.length_map, List.length_map, List.length_range, sizeLine_eq]
              omega
            · have s5 := (s2.trans (k1.trans (k2.trans k3))).trans s4
              refine q p5 _ (s5.free h5) (s5.trans (same_new h5)) ?_
              rw [upd_same]
              rfl
          · obtain ⟨k, rfl⟩ : ∃ k : Nat, e = (k : Int) := ⟨e.toNat, by omega⟩
            have k1 : 1 ≤ k := by omega
            obtain ⟨b1, q⟩ := qD ns k rfl hrow rfl (by omega)
            have hzk : (z : Int) * (k : Int) = ((z * k : Nat) : Int) := (Int.natCast_mul _ _).symm
            have hzk2 : z * k ≤ 3001 * 60 := Nat.mul_le_mul (by omega) (by omega)
            refine ⟨_, rfl, _, rfl, _, _, rfl, rfl, .inl ⟨by omega, by omega⟩, _, rfl, _, _, rfl, rfl, _, rfl, ?_⟩
            by_cases c : ns.length ≤ z * k
            · refine iteT' (decide_eq_true (by
                show (z : Int) * (k : Int) ≥ _
                omega)) ?_
              refine ⟨(by show 1 ≤ sizeLine; decide), fun p2 h2 => ⟨_, rfl, p2, _, _, rfl, rfl, upd_same, by omega, by omega, ?_, fun p3 h3 => ?_⟩⟩
              · show 1 * _ ≤ sizeLine
                rw [sizeLine_eq]
                omega
              · have s3 := s2.trans (same_new (o := .lst [V.int 0]) h2)
                refine q p3 _ (s3.free h3) (s3.trans (same_new h3)) ?_
                rw [upd_same, hzero, pow_all_zero h0 c, ll, Int.toNat_natCast]
            · refine iteF' (decide_eq_false (by
                show ¬ ((z : Int) * (k : Int) ≥ _)
                omega)) ?_
              have hzlt : z < ns.length := by
                have : z * 1 ≤ z * k := Nat.mul_le_mul_left z k1
                omega
              have hzk3 : z ≤ z * k := by
                have : z * 1 ≤ z * k := Nat.mul_le_mul_left z k1
                omega
              refine ⟨_, rfl, _, rfl, _, rfl, _, rfl, _, rfl, _, _, rfl, rfl, _, rfl, _, rfl, _, _, rfl, rfl, .inl ⟨by omega, by omega⟩, _, _, rfl, rfl, _, rfl, a, _, rfl, SqL.of (s2 _ _ ha), fun p1 h1 => ?_⟩
              have eS : (z : Int) + ((ns.map V.int).length : Int) - (z : Int) * (k : Int) = ((z + ns.length - z * k : Nat) : Int) := by omega
              generalize hlns : (ns.drop z).take (ns.length - z * k) = lns
              have hled : (upd H2 p1 (.lst (cutV (ns.map V.int) (some (z : Int)) (some ((z : Int) + ((ns.map V.int).length : Int) - (z : Int) * (k : Int)))))) p1 = some (.lst (lns.map V.int)) := by
                rw [upd_same, eS, cut_mid hz (by omega), ← hlns]
                have e7 : z + ns.length - z * k - z = ns.length - z * k := by omega
                rw [e7]
              have hll : lns.length = ns.length - z * k := by
                rw [← hlns, List.length_take, List.length_drop]
                omega
              have hl0 : fnL lns 0 ≠ 0 := by
                rw [← hlns, fnL_take (by omega), fnL_drop]
                exact hne hzlt
              have hlb : ∀ i, (fnL lns i).natAbs < 2 ^ 6000 := fun i => by
                by_cases h : i < ns.length - z * k
                · rw [← hlns, fnL_take h, fnL_drop]
                  exact b1 _
                · rw [fnL_out (by omega)]
                  exact Nat.pow_pos (by decide)
              have kk1 := same_new (o := .lst (cutV (ns.map V.int) (some (z : Int)) (some ((z : Int) + ((ns.map V.int).length : Int) - (z : Int) * (k : Int))))) h1
              refine ⟨(by show 1 ≤ sizeLine; decide), fun p2 h2 => ⟨_, rfl, _, rfl, _, _, rfl, rfl, .inl ⟨by omega, by omega⟩, p2, _, _, rfl, rfl, upd_same, by omega, by omega, ?_, fun p3 h3 => ?_⟩⟩
              · show 1 * ((z : Int) * (k : Int)).toNat ≤ sizeLine
                rw [hzk, Int.toNat_natCast, sizeLine_eq]
                omega
              have k2 := same_new (o := .lst [V.int 0]) h2
              have k3 := same_new (o := .lst (List.replicate ((z : Int) * (k : Int)).toNat [V.int 0]).flatten) h3
              refine ⟨_, rfl, _, rfl, tn <| led_pos (E := E0) (k := k) (B1 := 6000) ((k2.trans k3) _ _ hled) (by omega) (by omega) (by omega) hl0 (Nat.le_refl _) hlb fun p4 H4 hp4 s4 h4 => ?_⟩
              refine ⟨p3, p4, zer (z * k), _, rfl, rfl, ?_, h4, ?_, fun p5 h5 => ?_⟩
              · refine s4 _ _ ?_
                rw [upd_same, hzero, hzk, Int.toNat_natCast]
              · unfold rowOf zer
                rw [List.length_map, List.length_map, List.length_range, List.length_replicate, sizeLine_eq]
                omega
              · have s5 := (s2.trans (kk1.trans (k2.trans k3))).trans s4
                refine q p5 _ (s5.free h5) (s5.trans (same_new h5)) ?_
                rw [upd_same, pow_led h0 (by omega), hlns, hll]
end
end K00

set_option Elab.async false
set_option linter.all false
set_option maxRecDepth 100000
set_option maxHeartbeats 4000000
set_option pp.maxSteps 3000
set_option exponentiation.threshold 500000
namespace K00
open PySem PySem.Spec PyProof.Rows L2 Dr Xv Ps
section
variable {P : Program} {w : World} {K : PySem.W.Frag} {mg : Str → Option Value} {base : Heap} {f fC : Addr} {fd fdC : FuncData} {cS cN cR : Addr}
theorem blkOk_loc {N : List Str} {sc scope : Scope} {own : List (Str × Nat)} (h : blkC N scope scope own = true) (hf : (scope.names.all fun y => !decide (y.2 = NameKind.free)) = true) : BlkOk N sc scope own := by
  have b := blkOk_by h
  refine ⟨b.kind, b.uniq, b.ix, fun y hy e => ?_, b.own⟩
  have z := List.all_eq_true.mp hf y hy
  rw [decide_eq_true e] at z
  cases z
theorem row_get {n i : Nat} {b : S} (h : i < n) : (rowOf n b)[i]? = some (.int (b i)) := by
  unfold rowOf
  rw [List.getElem?_map, List.getElem?_map, List.getElem?_range h]
  rfl
theorem row_len {n : Nat} {b : S} : (rowOf n b).length = n := by
  unfold rowOf
  rw [List.length_map, List.length_map, List.length_range]
theorem row_succ {n : Nat} {b : S} : rowOf (n + 1) b = rowOf n b ++ [.int (b n)] := by
  unfold rowOf
  rw [List.range_succ, List.map_append, List.map_append]
  rfl
theorem row_self (ns : List Int) : rowOf ns.length (fnL ns) = ns.map V.int := by
  unfold rowOf
  congr 1
  refine List.ext_getElem (by simp) fun i h1 h2 => ?_
  simp at h1
  simp [fnL, h1]
/-! ### row_plus -/
def spPlus (cR : Addr) : Sp := fun vs H Q E => ∃ (x y : V) (o o' : Option (List V)), vs = [x, y] ∧ Items H x o ∧ Items H y o' ∧ short o ∧ short o' ∧ AllPV H o ∧ AllPV H o' ∧ (isRow o = false → ∀ H', Same H H' → E (.ref cR) none H') ∧ (isRow o = true → isRow o' = false → ∀ H', Same H H' → E (.ref cR) none H') ∧
  (∀ ns ms : List Int, o = some (ns.map V.int) → o' = some (ms.map V.int) → isRow o = true → isRow o' = true → (∃ a b, x = .ref a ∧ y = .ref b ∧ H a = some (.lst (ns.map V.int)) ∧ H b = some (.lst (ms.map V.int))) ∧
    ∀ (p : Addr) (H' : Hp), H p = none → Same H H' → H' p = some (.lst (rowOf (min ns.length ms.length) (ad (fnL ns) (fnL ms)))) → Q (.ref p) H')
theorem scPlus : FnScope ["one", "other", "x", "y"] ["one", "other"] (defScope sPlus) := ⟨rfl, rfl, rfl, by decide +kernel, rfl, by decide +kernel, by decide +kernel⟩
theorem ok_plus (F : FnP K "row_plus" sPlus f fd) (zip0 : mg "zip" = none)
    (GC : FnOk P w K mg base (L2.CX P w) 5 fC fdC ["row"] (spChk cR)) (bC : L2.Binds K fdC ["row"] []) (gC : mg "check_row" = some (.ref fC)) (kC : PySem.W.keepIn K (.ref fC) = true) :
    FnOk P w K mg base (L2.CX P w) 6 f fd ["one", "other"] (spPlus cR) := by
  refine F.ok scPlus (fun vs H Q E h => ?_) (fun cdv A outer s H vs Q E hr h => ?_)
  · obtain ⟨x, y, o, o', rfl, _⟩ := h
    rfl
  · obtain ⟨x, y, o, o', rfl, hi, hj, hl, hl', hp, hp', qA, qB, q⟩ := h
    refine ⟨_, pss_cons (ps_expr (pe_call GC hr rfl gC kC bC .nil (passes_call (takes_of rfl rfl rfl rfl) (fun _ _ _ _ h => h)) (pa_cons (pv 0) pa_nil)))
      (pss_cons (ps_expr (pe_call GC hr rfl gC kC bC .nil (passes_call (takes_of rfl rfl rfl rfl) (fun _ _ _ _ h => h)) (pa_cons (pv 1) pa_nil)))
      (PSs.nox (pss_one (ps_ret (pe_lc (own := [("x", 2), ("y", 3)]) (g := gTup K 2 (gCons (gName 2) (gCons (gName 3) gNil))) rfl scPlus.nd (pi_zip (by rfl) zip0 (pa_cons (pv 0) (pa_cons (pv 1) pa_nil))) (blkOk_by (own := [("x", 2), ("y", 3)]) (N := ["one", "other", "x", "y"]) (sc := defScope sPlus) (by decide +kernel))
          (fun _ _ _ _ _ => pg_tup rfl (pgs_cons (pg_name (i := 2) scPlus.nd rfl (Or.inl rfl)) (pgs_cons (pg_name (i := 3) scPlus.nd rfl (Or.inl rfl)) pgs_nil))) (fun _ _ _ _ _ => pts_nil) (fun _ _ _ _ _ => pe_op op_add (pv 2) (pv 3))))))), ?_⟩
    refine ⟨_, rfl, x, o, rfl, hi, hl, hp, fun hrow H1 s1 => ?_, fun hrow H1 s1 => qA hrow _ s1⟩
    refine ⟨_, rfl, y, o', rfl, hj.same s1, hl', hp'.same s1, fun hrow' H2 s2 => ?_, fun hrow' H2 s2 => qB hrow hrow' _ (s1.trans s2)⟩
    obtain ⟨ns, rfl, l1, l2⟩ := isRow_ints hrow
    obtain ⟨ms, rfl, l3, l4⟩ := isRow_ints hrow'
    obtain ⟨⟨a, b, rfl, rfl, ha, hb⟩, q9⟩ := q ns ms rfl rfl hrow hrow'
    have s3 := s1.trans s2
    refine ⟨_, rfl, _, rfl, a, b, _, _, rfl, SqL.of (s3 _ _ ha), SqL.of (s3 _ _ hb), fun D hD => lc_it (walk_zip (n := min ns.length ms.length) (by rw [List.length_map, List.length_map])) (fun i H' => H' D = some (.lst (rowOf i (ad (fnL ns) (fnL ms)))) ∧ Same H2 H')
      ⟨by rw [upd_same]; rfl, same_new hD⟩ (fun i H' _ ⟨_, sb⟩ => ⟨SqL.of (sb _ _ (s3 _ _ ha)), SqL.of (sb _ _ (s3 _ _ hb))⟩) ?_ ?_⟩
    · rintro i v H4 H5 hi ⟨h4, sb⟩ ⟨T', y1, y2, rfl, hT, rfl, e1, e2⟩
      have g1 : y1 = .int (fnL ns i) := by
        have z : (ns.map V.int)[i]? = some y1 := e1
        rw [hat (by omega)] at z
        exact (Option.some.inj z).symm
      have g2 : y2 = .int (fnL ms i) := by
        have z : (ms.map V.int)[i]? = some y2 := e2
        rw [hat (by omega)] at z
        exact (Option.some.inj z).symm
      subst g1 g2
      have sT := same_new (o := .tup [.int (fnL ns i), .int (fnL ms i)]) hT
      refine ⟨T', _, rfl, SqT.of upd_same, rfl, _, _, rfl, _, _, rfl, rfl, rfl, yesT ?_⟩
      refine ⟨_, rfl, _, rfl, _, _, rfl, rfl, _, sT _ _ h4, ?_, ?_, ?_⟩
      · rw [row_len, sizeLine_eq]
        omega
      · rw [upd_same, row_succ]
        rfl
      · intro b' o' e'
        rw [upd_ne (ne_of_none e' hD)]
        exact sT _ _ (sb _ _ e')
    · rintro H4 ⟨h4, sb⟩
      exact q9 D H4 (s3.free hD) (s3.trans sb) h4
/-! ### row_times -/
theorem sum_sm (h : S) : ∀ n, ((List.range n).map h).sum = sm h n
  | 0 => rfl
  | n + 1 => by
    rw [List.range_succ, List.map_append, List.sum_append, sum_sm h n]
    show sm h n + (h n + 0) = sm h n + h n
    omega
theorem back_get {ms : List Int} {m i j : Nat} (hm : m ≤ ms.length) (hi : i < m) (hj : j ≤ i) : ((((ms.take m).reverse).drop (m - 1 - i)).map V.int)[j]? = some (.int (fnL ms (i - j))) := by
  have hl : (ms.take m).length = m := by
    rw [List.length_take]
    omega
  rw [List.getElem?_map, List.getElem?_drop, List.getElem?_reverse (by rw [hl]; omega), hl, List.getElem?_take, if_pos (by omega)]
  have e : m - 1 - (m - 1 - i + j) = i - j := by omega
  rw [e]
  unfold fnL
  rw [List.getD_eq_getElem?_getD]
  have h2 : i - j < ms.length := by omega
  simp [h2]
theorem back_len {ms : List Int} {m i : Nat} (hm : m ≤ ms.length) (hi : i < m) : ((((ms.take m).reverse).drop (m - 1 - i)).map V.int).length = i + 1 := by
  rw [List.length_map, List.length_drop, List.length_reverse, List.length_take]
  omega
theorem cut_head {ns : List Int} {m : Nat} (h : m ≤ ns.length) : cutV (ns.map V.int) none (some (m : Int)) = (ns.take m).map V.int := by
  unfold cutV
  rw [HT.sIx_none, HT.sIx_nat, List.length_map, Nat.sub_zero, List.drop_zero, Nat.min_eq_left h, List.map_take]
theorem cut_tail {ns : List Int} {i : Nat} : cutV (ns.map V.int) (some (i : Int)) none = (ns.drop i).map V.int := by
  unfold cutV
  rw [HT.sIx_none, HT.sIx_nat, List.length_map, List.map_drop]
  by_cases h : i ≤ ns.length
  · rw [Nat.min_eq_left h]
    refine List.take_of_length_le ?_
    rw [List.length_drop, List.length_map]
    omega
  · rw [Nat.min_eq_right (by omega), List.drop_eq_nil_of_le (by rw [List.length_map]; exact Nat.le_refl _), List.drop_eq_nil_of_le (by rw [List.length_map]; omega)]
    exact List.take_nil
def spTimes (cR : Addr) : Sp := fun vs H Q E => ∃ (x y : V) (o o' : Option (List V)), vs = [x, y] ∧ Items H x o ∧ Items H y o' ∧ short o ∧ short o' ∧ AllPV H o ∧ AllPV H o' ∧ (isRow o = false → ∀ H', Same H H' → E (.ref cR) none H') ∧ (isRow o = true → isRow o' = false → ∀ H', Same H H' → E (.ref cR) none H') ∧
  (∀ ns ms : List Int, o = some (ns.map V.int) → o' = some (ms.map V.int) → isRow o = true → isRow o' = true → (∃ a, x = .ref a ∧ H a = some (.lst (ns.map V.int))) ∧ (∀ i, (fnL ns i).natAbs < 2 ^ 400000) ∧ (∀ i, (fnL ms i).natAbs < 2 ^ 400000) ∧
    ∀ (p : Addr) (H' : Hp), H p = none → Same H H' → H' p = some (.lst (rowOf (min ns.length ms.length) (cv (fnL ns) (fnL ms)))) → Q (.ref p) H')
theorem scTimes : FnScope ["one", "other", "size", "back", "n", "x", "y"] ["one", "other"] (defScope sTimes) := ⟨rfl, rfl, rfl, by decide +kernel, rfl, by decide +kernel, by decide +kernel⟩
theorem ok_times (F : FnP K "row_times" sTimes f fd) (zip0 : mg "zip" = none) (len0 : mg "len" = none) (min0 : mg "min" = none) (list0 : mg "list" = none) (range0 : mg "range" = none) (sum0 : mg "sum" = none)
    (GC : FnOk P w K mg base (L2.CX P w) 5 fC fdC ["row"] (spChk cR)) (bC : L2.Binds K fdC ["row"] []) (gC : mg "check_row" = some (.ref fC)) (kC : PySem.W.keepIn K (.ref fC) = true) :
    FnOk P w K mg base (L2.CX P w) 6 f fd ["one", "other"] (spTimes cR) := by
  refine F.ok scTimes (fun vs H Q E h => ?_) (fun cdv A outer s H vs Q E hr h => ?_)
  · obtain ⟨x, y, o, o', rfl, _⟩ := h
    rfl
  · obtain ⟨x, y, o, o', rfl, hi, hj, hl, hl', hp, hp', qA, qB, q⟩ := h
    refine ⟨_, pss_cons (ps_expr (pe_call GC hr rfl gC kC bC .nil (passes_call (takes_of rfl rfl rfl rfl) (fun _ _ _ _ h => h)) (pa_cons (pv 0) pa_nil)))
      (pss_cons (ps_expr (pe_call GC hr rfl gC kC bC .nil (passes_call (takes_of rfl rfl rfl rfl) (fun _ _ _ _ h => h)) (pa_cons (pv 1) pa_nil)))
      (PSs.nox (pss_cons (ps_set (i := 2) scTimes.nd rfl (Or.inr rfl) (pe_callB (call_min2 rfl) (by rfl) min0 (by decide +kernel) (pa_cons (pe_callB call_len (by rfl) len0 PySem.boot_len (pa_cons (pv 0) pa_nil)) (pa_cons (pe_callB call_len (by rfl) len0 PySem.boot_len (pa_cons (pv 1) pa_nil)) pa_nil))))
      (C8.pss_cut (ps_set (i := 3) scTimes.nd rfl (Or.inr rfl) (pe_revL (pe_callTy call_list_of (by rfl) list0 (by decide +kernel) (pa_cons (pe_slice (SlR.or sl_list sl_tupA) (pv 1) po_none (po_some (pv 2))) pa_nil))))
      (pss_one (ps_ret (pe_lc (own := [("n", 4)]) (g := gName 4) rfl scTimes.nd (pi_range1 (by rfl) range0 (pa_cons (pv 2) pa_nil)) (blkOk_by (own := [("n", 4)]) (N := ["one", "other", "size", "back", "n", "x", "y"]) (sc := defScope sTimes) (by decide +kernel))
          (fun _ _ _ _ _ => pg_name (i := 4) scTimes.nd rfl (Or.inl rfl)) (fun _ _ _ _ _ => pts_nil)
          (fun _ _ _ _ _ => pe_callB (r := rSum K) (cr_sum rfl) (by rfl) sum0 (by decide +kernel) (pa_cons (pe_lc (wi := iZip K (tCons (tVar 0) (tCons (tSl (rSlL K) (tVar 3) (tPart (tOp (rI0 fun i j => .int (i - j)) (tOp (rI0 fun i j => .int (i - j)) (tVar 2) (tVar 4)) (tC (.int 1)))) tNoPart) tNil))) (own := [("x", 5), ("y", 6)]) (g := gTup K 2 (gCons (gName 5) (gCons (gName 6) gNil))) rfl scTimes.nd (pi_zip (by rfl) zip0 (pa_cons (pv 0) (pa_cons (pe_slice (r := rSlL K) sl_list (pv 3) (po_some (pe_op op_sub (pe_op op_sub (pv 2) (pv 4)) pe_int)) po_none) pa_nil))) (blkOk_loc (own := [("x", 5), ("y", 6)]) (N := ["one", "other", "size", "back", "n", "x", "y"]) (by decide +kernel) (by decide +kernel))
            (fun _ _ _ _ _ => pg_tup rfl (pgs_cons (pg_name (i := 5) scTimes.nd rfl (Or.inl rfl)) (pgs_cons (pg_name (i := 6) scTimes.nd rfl (Or.inl rfl)) pgs_nil))) (fun _ _ _ _ _ => pts_nil) (fun _ _ _ _ _ => pe_op op_mulW (pv 5) (pv 6))) pa_nil))))))))), ?_⟩
    refine ⟨_, rfl, x, o, rfl, hi, hl, hp, fun hrow H1 s1 => ?_, fun hrow H1 s1 => qA hrow _ s1⟩
    refine ⟨_, rfl, y, o', rfl, hj.same s1, hl', hp'.same s1, fun hrow' H2 s2 => ?_, fun hrow' H2 s2 => qB hrow hrow' _ (s1.trans s2)⟩
    obtain ⟨ns, rfl, l1, l2⟩ := isRow_ints hrow
    obtain ⟨ms, rfl, l3, l4⟩ := isRow_ints hrow'
    obtain ⟨⟨a, rfl, ha⟩, bf, bg, q9⟩ := q ns ms rfl rfl hrow hrow'
    obtain ⟨b, rfl, hb⟩ := items_ref hj
    have s3 := s1.trans s2
    have hlb : LenV K (.ref b) H2 (ms.map V.int).length := by
      rcases hb with e | e
      · exact .inl ⟨_, SqL.of (s3 _ _ e), rfl⟩
      · exact .inr ⟨_, SqT.of (s3 _ _ e), rfl⟩
    refine ⟨_, rfl, _, _, rfl, .inl ⟨_, SqL.of (s3 _ _ ha), rfl⟩, _, rfl, _, _, rfl, hlb, _, _, rfl, ?_⟩
    obtain ⟨m, hm⟩ : ∃ m, m = min ns.length ms.length := ⟨_, rfl⟩
    have em : (if ((ms.map V.int).length : Int) < ((ns.map V.int).length : Int) then ((ms.map V.int).length : Int) else ((ns.map V.int).length : Int)) = (m : Int) := by
      rw [List.length_map, List.length_map]
      split <;> omega
    rw [em]
    refine ⟨fun σ H' => ∃ bk, σ = [some (.ref a), some (.ref b), some (.int (m : Int)), some (.ref bk), none, none, none] ∧ Same H H' ∧ H' bk = some (.lst (((ms.take m).reverse).map V.int)), ?_, ?_⟩
    · have fin : ∀ (H4 : Hp) (l bk : Addr), Same H H4 → H4 l = none → (upd H4 l (.lst ((ms.take m).map V.int))) bk = none → Same H (upd (upd H4 l (.lst ((ms.take m).map V.int))) bk (.lst ((ms.take m).map V.int).reverse)) ∧ (upd (upd H4 l (.lst ((ms.take m).map V.int))) bk (.lst ((ms.take m).map V.int).reverse)) bk = some (.lst (((ms.take m).reverse).map V.int)) := fun H4 l bk s4 hl hbk =>
        ⟨s4.trans ((same_new hl).trans (same_new hbk)), by rw [upd_same, List.map_reverse]⟩
      rcases hb with e | e
      · refine ⟨_, rfl, _, rfl, _, rfl, .inl ⟨b, _, rfl, SqL.of (s3 _ _ e), fun p1 h1 => ⟨p1, (ms.take m).map V.int, rfl, .inl (SqL.of (by rw [upd_same, cut_head (by omega)])), fun l hl2 => ⟨l, _, rfl, SqL.of upd_same, fun bk hbk => ?_⟩⟩⟩⟩
        have f := fin _ l bk (s3.trans (same_new h1)) hl2 hbk
        exact ⟨bk, rfl, f.1, f.2⟩
      · refine ⟨_, rfl, _, rfl, _, rfl, .inr ⟨b, _, rfl, SqT.of (s3 _ _ e), fun hwh => ⟨b, (ms.take m).map V.int, rfl, .inr ?_, fun l hl2 => ⟨l, _, rfl, SqL.of upd_same, fun bk hbk => ?_⟩⟩, fun _ p1 h1 => ⟨p1, (ms.take m).map V.int, rfl, .inr (SqT.of (by rw [upd_same, cut_head (by omega)])), fun l hl2 => ⟨l, _, rfl, SqL.of upd_same, fun bk hbk => ?_⟩⟩⟩⟩
        · have e2 : m = ms.length := by
            have z := hwh.2
            rw [HT.sIx_nat, List.length_map] at z
            omega
          rw [e2, List.take_length]
          exact SqT.of (s3 _ _ e)
        · have f := fin _ l bk s3 hl2 hbk
          exact ⟨bk, rfl, f.1, f.2⟩
        · have f := fin _ l bk (s3.trans (same_new h1)) hl2 hbk
          exact ⟨bk, rfl, f.1, f.2⟩
    · rintro σ H3 ⟨bk, rfl, s4, hbk⟩
      refine ⟨_, rfl, _, rfl, by omega, by omega, fun D hD => lc_range (lo := 0) (n := (m : Int).toNat) (fun i H' => H' D = some (.lst (rowOf i (cv (fnL ns) (fnL ms)))) ∧ Same H3 H') ⟨by rw [upd_same]; rfl, same_new hD⟩ ?_ ?_⟩
      · rintro i H4 hi ⟨h4, s5⟩
        have hi2 : i < m := by omega
        have ha4 := s5 _ _ (s4 _ _ ha)
        have hlo : (m : Int) - (0 + (i : Int)) - 1 = ((m - 1 - i : Nat) : Int) := by omega
        refine ⟨rfl, yesT ?_⟩
        refine ⟨_, rfl, _, rfl, _, rfl, _, rfl, _, _, rfl, rfl, _, _, rfl, rfl, _, rfl, bk, _, rfl, SqL.of (s5 _ _ hbk), fun p1 h1 => ?_⟩
        have hcut : (upd H4 p1 (.lst (cutV (((ms.take m).reverse).map V.int) (some ((m : Int) - (0 + (i : Int)) - 1)) none))) p1 = some (.lst ((((ms.take m).reverse).drop (m - 1 - i)).map V.int)) := by
          rw [upd_same, hlo, cut_tail]
        have s6 := same_new (o := .lst (cutV (((ms.take m).reverse).map V.int) (some ((m : Int) - (0 + (i : Int)) - 1)) none)) h1
        refine ⟨a, p1, _, _, rfl, SqL.of (s6 _ _ ha4), SqL.of hcut, fun D2 hD2 => lc_it (walk_zip (n := i + 1) (by rw [back_len (by omega) hi2, List.length_map]; omega)) (fun j H' => H' D2 = some (.lst (((List.range j).map fun j => fnL ns j * fnL ms (i - j)).map V.int)) ∧ Same (upd H4 p1 (.lst (cutV (((ms.take m).reverse).map V.int) (some ((m : Int) - (0 + (i : Int)) - 1)) none))) H')
          ⟨by rw [upd_same]; rfl, same_new hD2⟩ (fun j H' _ ⟨_, sb⟩ => ⟨SqL.of (sb _ _ (s6 _ _ ha4)), SqL.of (sb _ _ hcut)⟩) ?_ ?_⟩
        · rintro j v H5 H6 hj ⟨h5, sb⟩ ⟨T', y1, y2, rfl, hT, rfl, e1, e2⟩
          have g1 : y1 = .int (fnL ns j) := by
            have z : (ns.map V.int)[j]? = some y1 := e1
            rw [hat (by omega)] at z
            exact (Option.some.inj z).symm
          have g2 : y2 = .int (fnL ms (i - j)) := by
            have z : ((((ms.take m).reverse).drop (m - 1 - i)).map V.int)[j]? = some y2 := e2
            rw [back_get (by omega) hi2 (by omega)] at z
            exact (Option.some.inj z).symm
          subst g1 g2
          have sT := same_new (o := .tup [.int (fnL ns j), .int (fnL ms (i - j))]) hT
          refine ⟨T', _, rfl, SqT.of upd_same, rfl, _, _, rfl, _, _, rfl, rfl, rfl, yesT ?_⟩
          refine ⟨_, rfl, _, rfl, _, _, rfl, rfl, wide_mul (bf j) (bg (i - j)) (by decide) (by decide) (by decide), _, sT _ _ h5, ?_, ?_, ?_⟩
          · rw [List.length_map, List.length_map, List.length_range, sizeLine_eq]
            omega
          · rw [upd_same, List.range_succ, List.map_append, List.map_append]
            rfl
          · intro b' o' e'
            rw [upd_ne (ne_of_none e' hD2)]
            exact sT _ _ (sb _ _ e')
        · rintro H5 ⟨h5, sb⟩
          have s7 := s6.trans sb
          refine ⟨D2, _, rfl, SqL.of h5, ?_⟩
          rw [sum_sm]
          refine ⟨_, s7 _ _ h4, ?_, ?_, ?_⟩
          · rw [row_len, sizeLine_eq]
            omega
          · rw [upd_same, row_succ]
            rfl
          · intro b' o' e'
            rw [upd_ne (ne_of_none e' hD)]
            exact s7 _ _ (s5 _ _ e')
      · rintro H4 ⟨h4, s5⟩
        rw [Int.toNat_natCast, hm] at h4
        exact q9 D H4 (s4.free hD) (s4.trans s5) h4
end
end K00

set_option Elab.async false
set_option linter.all false
set_option maxRecDepth 100000
set_option maxHeartbeats 4000000
set_option pp.maxSteps 3000
set_option exponentiation.threshold 500000
namespace K00
open PySem PySem.Spec PyProof.Rows L2 Dr Xv Ps
/-! ### the law's product -/
def accS (f g : S) (i : Nat) : S := fun n => sm (fun k => if k ≤ n then f k * g (n - k) else 0) i
theorem acc_step {f g : S} {i n : Nat} : accS f g (i + 1) n = accS f g i n + (if i ≤ n then f i * g (n - i) else 0) := rfl
theorem acc_end {f g : S} {N n : Nat} (h : n < N) : accS f g N n = cv f g n := by
  unfold accS cv
  have e : N = (n + 1) + (N - (n + 1)) := by omega
  rw [e, sm_split]
  have e2 : sm (fun i => if n + 1 + i ≤ n then f (n + 1 + i) * g (n - (n + 1 + i)) else 0) (N - (n + 1)) = 0 := by
    refine Eq.trans (sm_congr _ fun i _ => ?_) (sm_zero _)
    rw [if_neg (by omega)]
  rw [e2, Int.add_zero]
  exact sm_congr _ fun i hi => by rw [if_pos (by omega)]
theorem row_set {N m : Nat} {b c : S} {z : Int} (hm : m < N) (h1 : c m = z) (h2 : ∀ i, i < N → i ≠ m → c i = b i) : (rowOf N b).set m (.int z) = rowOf N c := by
  refine List.ext_getElem? fun i => ?_
  rw [List.getElem?_set]
  by_cases e : m = i
  · subst e
    rw [if_pos rfl, if_pos (by rw [row_len]; exact hm), row_get hm, h1]
  · rw [if_neg e]
    by_cases hi : i < N
    · rw [row_get hi, row_get hi, h2 i hi (fun h => e h.symm)]
    · rw [List.getElem?_eq_none (by rw [row_len]; omega), List.getElem?_eq_none (by rw [row_len]; omega)]
section
variable {P : Program} {w : World} {K : PySem.W.Frag} {mg : Str → Option Value} {base : Heap} {f fT fP : Addr} {fd fdT fdP : FuncData}
def spLT : Sp := fun vs H Q _ => ∃ (a b : Addr) (ns ms : List Int) (N : Nat), vs = [.ref a, .ref b, .int ((N : Int) - 1)] ∧ H a = some (.lst (ns.map V.int)) ∧ H b = some (.lst (ms.map V.int)) ∧ 1 ≤ N ∧ N ≤ 3001 ∧ N ≤ ns.length ∧ N ≤ ms.length ∧ (∀ i, (fnL ns i).natAbs < 2 ^ 400000) ∧ (∀ i, (fnL ms i).natAbs < 2 ^ 400000) ∧
  ∀ (p : Addr) (H' : Hp), H p = none → Same H H' → H' p = some (.lst (rowOf N (cv (fnL ns) (fnL ms)))) → Q (.ref p) H'
theorem scLT : FnScope ["one", "other", "most", "found", "i", "here", "j", "there", "n"] ["one", "other", "most"] (defScope sLTimes) := ⟨rfl, rfl, rfl, by decide +kernel, rfl, by decide +kernel, by decide +kernel⟩
theorem ok_lt (F : FnP K "_law_times" sLTimes f fd) (range0 : mg "range" = none) (enum0 : mg "enumerate" = none) : FnOk P w K mg base CX0 1 f fd ["one", "other", "most"] spLT := by
  refine F.ok scLT (fun vs H Q E h => ?_) (fun cdv A outer s H vs Q E hr h => ?_)
  · obtain ⟨a, b, ns, ms, N, rfl, _⟩ := h
    rfl
  · obtain ⟨a, b, ns, ms, N, rfl, ha, hb, n1, n2, n3, n4, bf, bg, q⟩ := h
    refine ⟨_, PSs.nox (C8.pss_cut (ps_setLc (i := 3) (own := [("n", 8)]) (g := gName 8) rfl scLT.nd rfl rfl (sw_true rfl rfl rfl (by decide +kernel)) (pi_range1 (by rfl) range0 (pa_cons (pe_op op_add (pv 2) pe_int) pa_nil)) (blkOk_by (own := [("n", 8)]) (N := ["one", "other", "most", "found", "i", "here", "j", "there", "n"]) (sc := defScope sLTimes) (by decide +kernel))
          (fun _ _ _ _ _ => pg_name (i := 8) scLT.nd rfl (Or.inl rfl)) (fun _ _ _ _ _ => pts_nil) (fun _ _ _ _ _ => pe_int))
      (pss_cons (ps_for PassesOwn.never rfl (pi_enumT (by rfl) enum0 (pa_cons (pe_slice sl_list (pv 0) po_none (po_some (pe_op op_add (pv 2) pe_int))) pa_nil)) (pg_tup rfl (pgs_cons (pg_name (i := 4) scLT.nd rfl (Or.inl rfl)) (pgs_cons (pg_name (i := 5) scLT.nd rfl (Or.inl rfl)) pgs_nil)))
        (pss_one (ps_if (pt_cmpR op_ne (pv 5) pe_int (nomark _))
          (pss_one (ps_for PassesOwn.never rfl (pi_enumT (by rfl) enum0 (pa_cons (pe_slice sl_list (pv 1) po_none (po_some (pe_op op_sub (pe_op op_add (pv 2) pe_int) (pv 4)))) pa_nil)) (pg_tup rfl (pgs_cons (pg_name (i := 6) scLT.nd rfl (Or.inl rfl)) (pgs_cons (pg_name (i := 7) scLT.nd rfl (Or.inl rfl)) pgs_nil)))
            (pss_one (ps_asg (pe_op op_add (pe_ix ix_list (pv 3) (pe_op op_add (pv 4) (pv 6)) (fun _ _ => rfl)) (pe_op op_mulW (pv 5) (pv 7))) (pg_sub (pv 3) (pe_op op_add (pv 4) (pv 6)) set_list))))) pss_nil)))
      (pss_one (ps_ret (pv 3))))), ?_⟩
    have eN : (N : Int) - 1 + 1 = (N : Int) := by omega
    refine ⟨fun σ H' => ∃ D, σ = [some (.ref a), some (.ref b), some (.int ((N : Int) - 1)), some (.ref D), none, none, none, none, none] ∧ H D = none ∧ Same H H' ∧ H' D = some (.lst (rowOf N (accS (fnL ns) (fnL ms) 0))), ?_, ?_⟩
    · refine ⟨_, rfl, _, _, rfl, rfl, _, rfl, by omega, by omega, fun D hD => lc_range (lo := 0) (n := ((N : Int) - 1 + 1).toNat) (fun i H' => H' D = some (.lst (rowOf i (accS (fnL ns) (fnL ms) 0))) ∧ Same H H') ⟨by rw [upd_same]; rfl, same_new hD⟩ ?_ ?_⟩
      · rintro i H4 hi ⟨h4, s5⟩
        refine ⟨rfl, yesT ⟨_, h4, ?_, ?_, ?_⟩⟩
        · rw [row_len, sizeLine_eq]
          omega
        · rw [upd_same, row_succ]
          rfl
        · intro b' o' e'
          rw [upd_ne (ne_of_none e' hD)]
          exact s5 _ _ e'
      · rintro H4 ⟨h4, s5⟩
        rw [eN, Int.toNat_natCast] at h4
        exact ⟨D, rfl, hD, s5, h4⟩
    · rintro σ H1 ⟨D, rfl, hD, s1, h1⟩
      refine ⟨_, rfl, _, rfl, _, _, rfl, rfl, _, rfl, a, _, rfl, SqL.of (s1 _ _ ha), fun p1 hp1 => ?_⟩
      have hc1 : (upd H1 p1 (.lst (cutV (ns.map V.int) none (some ((N : Int) - 1 + 1))))) p1 = some (.lst ((ns.take N).map V.int)) := by
        rw [upd_same, eN, cut_head n3]
      have k1 := same_new (o := .lst (cutV (ns.map V.int) none (some ((N : Int) - 1 + 1)))) hp1
      have npD : p1 ≠ D := fun z => by
        rw [z, h1] at hp1
        cases hp1
      have hlen : ((ns.take N).map V.int).length = N := by
        rw [List.length_map, List.length_take]
        omega
      refine ⟨p1, _, rfl, .inl ⟨SqL.of hc1, for_it (walk_enum (xs := (ns.take N).map V.int)) (fun i σ H' => ∃ y4 y5 y6 y7, σ = [some (.ref a), some (.ref b), some (.int ((N : Int) - 1)), some (.ref D), y4, y5, y6, y7, none] ∧ Same H H' ∧ H' p1 = some (.lst ((ns.take N).map V.int)) ∧ H' D = some (.lst (rowOf N (accS (fnL ns) (fnL ms) i))))
        ⟨_, _, _, _, rfl, s1.trans k1, hc1, k1 _ _ h1⟩ (fun i σ H' _ ⟨_, _, _, _, _, _, hp, _⟩ => SqL.of hp) ?_ ?_⟩⟩
      · rintro i v σ H2 H3 hi ⟨y4, y5, y6, y7, rfl, s2, hp2, h2⟩ ⟨T', y1, y2, rfl, hT, rfl, e1, e2⟩
        cases Option.some.inj e1
        rw [hlen] at hi
        have g2 : y2 = .int (fnL ns i) := by
          have z : ((ns.take N).map V.int)[i]? = some y2 := e2
          rw [hat (by rw [List.length_take]; omega), fnL_take hi] at z
          exact (Option.some.inj z).symm
        subst g2
        have sT := same_new (o := .tup [.int (i : Nat), .int (fnL ns i)]) hT
        refine ⟨T', _, rfl, SqT.of upd_same, rfl, _, _, rfl, _, _, rfl, rfl, ?_⟩
        refine ⟨_, rfl, rfl, _, rfl, ?_⟩
        by_cases c : fnL ns i = 0
        · refine iteF' (by rw [c]; rfl) ?_
          refine ⟨_, _, _, _, rfl, s2.trans sT, sT _ _ hp2, ?_⟩
          rw [sT _ _ h2]
          congr 2
          refine row_ext fun n hn => ?_
          rw [acc_step, c, Int.zero_mul]
          split <;> omega
        · refine iteT' (by
            rw [decide_eq_false (fun z => c (by injection z))]
            rfl) ?_
          have eNi : (N : Int) - 1 + 1 - (i : Int) = ((N - i : Nat) : Int) := by omega
          have s3 := s2.trans sT
          refine ⟨_, rfl, _, rfl, _, _, rfl, rfl, _, rfl, _, _, rfl, rfl, _, rfl, b, _, rfl, SqL.of (s3 _ _ hb), fun p2 hp3 => ?_⟩
          have k2 := same_new (o := .lst (cutV (ms.map V.int) none (some ((N : Int) - 1 + 1 - (i : Int))))) hp3
          have hc2 : (upd (upd H2 T' (.tup [.int (i : Nat), .int (fnL ns i)])) p2 (.lst (cutV (ms.map V.int) none (some ((N : Int) - 1 + 1 - (i : Int)))))) p2 = some (.lst ((ms.take (N - i)).map V.int)) := by
            rw [upd_same, eNi, cut_head (by omega)]
          have hlen2 : ((ms.take (N - i)).map V.int).length = N - i := by
            rw [List.length_map, List.length_take]
            omega
          have np2 : p2 ≠ D := fun z => by
            rw [z, sT _ _ h2] at hp3
            cases hp3
          refine ⟨p2, _, rfl, .inl ⟨SqL.of hc2, for_it (walk_enum (xs := (ms.take (N - i)).map V.int)) (fun j σ H' => ∃ y6 y7, σ = [some (.ref a), some (.ref b), some (.int ((N : Int) - 1)), some (.ref D), some (.int (i : Nat)), some (.int (fnL ns i)), y6, y7, none] ∧ Same H H' ∧ H' p1 = some (.lst ((ns.take N).map V.int)) ∧ H' p2 = some (.lst ((ms.take (N - i)).map V.int)) ∧
              H' D = some (.lst (rowOf N (fun n => accS (fnL ns) (fnL ms) i n + (if i ≤ n ∧ n < i + j then fnL ns i * fnL ms (n - i) else 0)))))
            ⟨_, _, rfl, s3.trans k2, k2 _ _ (sT _ _ hp2), hc2, ?_⟩ (fun j σ H' _ ⟨_, _, _, _, _, hp, _⟩ => SqL.of hp) ?_ ?_⟩⟩
          · rw [k2 _ _ (sT _ _ h2)]
            congr 2
            refine row_ext fun n hn => ?_
            rw [if_neg (by omega)]
            omega
          · rintro j v σ H4 H5 hj ⟨y6, y7, rfl, s4, hp4, hp5, h4⟩ ⟨T2, z1, z2, rfl, hT2, rfl, e3, e4⟩
            cases Option.some.inj e3
            rw [hlen2] at hj
            have g3 : z2 = .int (fnL ms j) := by
              have z : ((ms.take (N - i)).map V.int)[j]? = some z2 := e4
              rw [hat (by rw [List.length_take]; omega), fnL_take hj] at z
              exact (Option.some.inj z).symm
            subst g3
            have sT2 := same_new (o := .tup [.int (j : Nat), .int (fnL ms j)]) hT2
            have eij : (i : Int) + (j : Int) = ((i + j : Nat) : Int) := by omega
            refine ⟨T2, _, rfl, SqT.of upd_same, rfl, _, _, rfl, _, _, rfl, rfl, ?_⟩
            have hval : (rowOf N (fun n => accS (fnL ns) (fnL ms) i n + (if i ≤ n ∧ n < i + j then fnL ns i * fnL ms (n - i) else 0)))[i + j]? = some (.int (accS (fnL ns) (fnL ms) i (i + j))) := by
              rw [row_get (by omega), if_neg (by omega), Int.add_zero]
            refine ⟨_, rfl, _, rfl, _, rfl, _, _, rfl, rfl, D, _, _, _, rfl, rfl, SqL.of (sT2 _ _ h4), by
              show atI _ ((i : Int) + (j : Int)) = _
              rw [eij]
              exact atI_nat hval, ?_⟩
            refine ⟨_, rfl, _, rfl, _, _, rfl, rfl, wide_mul (bf i) (bg j) (by decide) (by decide) (by decide), _, _, rfl, rfl, ?_⟩
            refine ⟨_, rfl, _, rfl, _, rfl, _, _, rfl, rfl, D, _, _, i + j, rfl, rfl, sT2 _ _ h4, ?_, ?_⟩
            · show ixN _ ((i : Int) + (j : Int)) = _
              rw [eij, row_len]
              unfold ixN
              rw [if_pos (Int.natCast_nonneg _), if_pos (by omega), Int.toNat_natCast]
            · refine ⟨_, _, rfl, fun b' o' e' => by rw [upd_ne (ne_of_none e' hD)]; exact sT2 _ _ (s4 _ _ e'), ?_, ?_, ?_⟩
              · rw [upd_ne npD]
                exact sT2 _ _ hp4
              · rw [upd_ne np2]
                exact sT2 _ _ hp5
              · rw [upd_same]
                congr 2
                refine row_set (by omega) ?_ fun n hn hne => ?_
                · rw [if_pos (by omega)]
                  have e9 : i + j - i = j := by omega
                  rw [e9]
                · show accS _ _ i n + _ = accS _ _ i n + _
                  congr 1
                  by_cases cc : i ≤ n ∧ n < i + j
                  · rw [if_pos cc, if_pos (by omega)]
                  · rw [if_neg cc, if_neg (by omega)]
          · rintro σ H4 ⟨y6, y7, rfl, s4, hp4, hp5, h4⟩
            refine ⟨_, _, _, _, rfl, s4, hp4, ?_⟩
            rw [h4, hlen2]
            congr 2
            refine row_ext fun n hn => ?_
            rw [acc_step]
            congr 1
            by_cases cc : i ≤ n
            · rw [if_pos cc, if_pos (by omega)]
            · rw [if_neg cc, if_neg (by omega)]
      · rintro σ H2 ⟨y4, y5, y6, y7, rfl, s2, hp2, h2⟩
        rw [hlen] at h2
        have e5 : rowOf N (accS (fnL ns) (fnL ms) N) = rowOf N (cv (fnL ns) (fnL ms)) := row_ext fun n hn => acc_end hn
        rw [e5] at h2
        exact ⟨_, rfl, q D H2 hD s2 h2⟩
end
end K00

set_option Elab.async false
set_option linter.all false
set_option maxRecDepth 100000
set_option maxHeartbeats 4000000
set_option pp.maxSteps 3000
set_option exponentiation.threshold 500000
namespace K00
open PySem PySem.Spec PyProof.Rows L2 Dr Xv Ps
theorem fnL_row {n : Nat} {b : S} {i : Nat} : fnL ((List.range n).map b) i = if i < n then b i else 0 := by
  unfold fnL
  rw [List.getD_eq_getElem?_getD, List.getElem?_map]
  by_cases h : i < n
  · rw [List.getElem?_range h, if_pos h]
    rfl
  · rw [List.getElem?_eq_none (by rw [List.length_range]; omega), if_neg h]
    rfl
section
variable {P : Program} {w : World} {K : PySem.W.Frag} {mg : Str → Option Value} {base : Heap} {f fT fP fL : Addr} {fd fdT fdP fdL : FuncData}
/-! ### _law_raised -/
def spRaised : Sp := fun vs H Q _ => ∃ (a : Addr) (ns : List Int) (k : Nat), vs = [.ref a, .int (k : Int)] ∧ H a = some (.lst (ns.map V.int)) ∧ 1 ≤ ns.length ∧ ns.length ≤ 3001 ∧ k ≤ 60 ∧ (∀ i, (fnL ns i).natAbs < 2 ^ 400000) ∧ (∀ j n, j ≤ k → n < ns.length → (pw (fnL ns) j n).natAbs < 2 ^ 400000) ∧
  ∀ (p : Addr) (H' : Hp), H p = none → Same H H' → H' p = some (.lst (rowOf ns.length (pw (fnL ns) k))) → Q (.ref p) H'
theorem scRaised : FnScope ["row", "k", "found", "lap"] ["row", "k"] (defScope sRaised) := ⟨rfl, rfl, rfl, by decide +kernel, rfl, by decide +kernel, by decide +kernel⟩
theorem ok_raised (F : FnP K "_law_raised" sRaised f fd) (range0 : mg "range" = none) (len0 : mg "len" = none) (GL : FnOk P w K mg base CX0 1 fL fdL ["one", "other", "most"] spLT) (bL : L2.Binds K fdL ["one", "other", "most"] []) (gL : mg "_law_times" = some (.ref fL)) (kL : PySem.W.keepIn K (.ref fL) = true) :
    FnOk P w K mg base CX0 2 f fd ["row", "k"] spRaised := by
  refine F.ok scRaised (fun vs H Q E h => ?_) (fun cdv A outer s H vs Q E hr h => ?_)
  · obtain ⟨a, ns, k, rfl, _⟩ := h
    rfl
  · obtain ⟨a, ns, k, rfl, ha, l1, l2, hk, bf, bp, q⟩ := h
    refine ⟨_, PSs.nox (pss_cons (ps_set (i := 2) scRaised.nd rfl (Or.inl rfl) (pe_op op_cat (pe_lst (pa_cons pe_int pa_nil)) (pe_op op_rep (pe_lst (pa_cons pe_int pa_nil)) (pe_op op_sub (pe_callB call_len (by rfl) len0 PySem.boot_len (pa_cons (pv 0) pa_nil)) pe_int))))
      (pss_cons (ps_for PassesOwn.never rfl (pi_range1 (by rfl) range0 (pa_cons (pv 1) pa_nil)) (pg_name (i := 3) scRaised.nd rfl (Or.inl rfl))
        (pss_one (ps_set (i := 2) scRaised.nd rfl (Or.inl rfl) (pe_call GL hr rfl gL kL bL .nil pass0 (pa_cons (pv 2) (pa_cons (pv 0) (pa_cons (pe_op op_sub (pe_callB call_len (by rfl) len0 PySem.boot_len (pa_cons (pv 0) pa_nil)) pe_int) pa_nil)))))))
      (pss_one (ps_ret (pv 2))))), ?_⟩
    have ll : (ns.map V.int).length = ns.length := List.length_map _
    have e5 : (((ns.map V.int).length : Int) - 1).toNat = ns.length - 1 := by omega
    refine ⟨(by show 1 ≤ sizeLine; decide), fun p1 h1 => ⟨(by show 1 ≤ sizeLine; decide), fun p2 h2 => ?_⟩⟩
    have k1 := same_new (o := .lst [V.int 1]) h1
    have k2 := same_new (o := .lst [V.int 0]) h2
    refine ⟨_, rfl, _, _, rfl, .inl ⟨_, SqL.of ((k1.trans k2) _ _ ha), rfl⟩, _, _, rfl, rfl, p2, _, _, rfl, rfl, upd_same, by omega, by omega, ?_, fun p3 h3 => ?_⟩
    · show 1 * _ ≤ sizeLine
      rw [sizeLine_eq]
      omega
    have k3 := same_new (o := .lst (List.replicate (((ns.map V.int).length : Int) - 1).toNat [V.int 0]).flatten) h3
    refine ⟨p1, p3, [V.int 1], zer (ns.length - 1), rfl, rfl, (k2.trans k3) _ _ upd_same, ?_, ?_, fun p4 h4 => ?_⟩
    · show (upd _ p3 (.lst (List.replicate (((ns.map V.int).length : Int) - 1).toNat [V.int 0]).flatten)) p3 = _
      rw [upd_same, rep1, e5]
      rfl
    · show 1 + (List.replicate _ _).length ≤ sizeLine
      rw [List.length_replicate, sizeLine_eq]
      omega
    have s0 := k1.trans (k2.trans k3)
    have hp4 : H p4 = none := s0.free h4
    have s4 := s0.trans (same_new (o := .lst ([V.int 1] ++ zer (ns.length - 1))) h4)
    refine ⟨_, rfl, (k : Int), rfl, by omega, by omega, for_range (lo := 0) (n := (k : Int).toNat) (fun j σ H' => ∃ p y3, σ = [some (.ref a), some (.int (k : Int)), some (.ref p), y3] ∧ H p = none ∧ Same H H' ∧ H' p = some (.lst (rowOf ns.length (pw (fnL ns) j))))
      ⟨p4, _, rfl, hp4, s4, by
        rw [upd_same]
        show _ = some (HO.lst (rowOf ns.length one))
        rw [row_one l1]
        rfl⟩ ?_ ?_⟩
    · rintro j σ H1 hj ⟨p, y3, rfl, hp, s1, h1⟩
      refine ⟨_, rfl, _, rfl, _, rfl, _, _, rfl, .inl ⟨_, SqL.of (s1 _ _ ha), rfl⟩, _, _, rfl, rfl, tn <| ?_⟩
      have hlen : ((List.range ns.length).map (pw (fnL ns) j)).length = ns.length := by rw [List.length_map, List.length_range]
      refine ⟨p, a, (List.range ns.length).map (pw (fnL ns) j), ns, ns.length, ?_, h1, s1 _ _ ha, l1, l2, by omega, Nat.le_refl _, fun i => ?_, bf, fun r H2 hr2 s2 h2 => ?_⟩
      · show [V.ref p, V.ref a, V.int (((ns.map V.int).length : Int) - 1)] = _
        rw [ll]
      · rw [fnL_row]
        split
        · rename_i hi
          exact bp j i (by omega) hi
        · exact Nat.pow_pos (by decide)
      · refine ⟨r, _, rfl, s1.free hr2, s1.trans s2, ?_⟩
        rw [h2]
        congr 2
        refine row_ext fun n hn => ?_
        show _ = cv (pw (fnL ns) j) (fnL ns) n
        refine cv_congr (N := ns.length) (fun i hi => ?_) (fun i _ => rfl) n hn
        rw [fnL_row, if_pos hi]
    · rintro σ H1 ⟨p, y3, rfl, hp, s1, h1⟩
      rw [Int.toNat_natCast] at h1
      exact ⟨_, rfl, q p H1 hp s1 h1⟩
/-! ### _law_some_row -/
def spSome : Sp := fun vs H Q _ => ∃ (d l c : Addr), vs = [.ref d] ∧ Draw H d l c ∧
  ∀ (p : Addr) (ns : List Int) (H' : Hp), 1 ≤ ns.length → ns.length ≤ 40 → (∀ i, (fnL ns i).natAbs < 2 ^ 90) → H p = none → Draw H' d l c → SameX d l H H' → H' p = some (.lst (ns.map V.int)) → Q (.ref p) H'
theorem scSome : FnScope ["draw", "most", "k"] ["draw"] (defScope sSome) := ⟨rfl, rfl, rfl, by decide +kernel, rfl, by decide +kernel, by decide +kernel⟩
theorem freeX {H H1 : Hp} {d l D : Addr} (s : SameX d l H H1) (n : H1 D = none) (nd : D ≠ d) (nl : D ≠ l) : H D = none := by
  cases e : H D with
  | none => rfl
  | some o =>
    rw [s _ _ e nd nl] at n
    cases n
theorem ok_some (F : FnP K "_law_some_row" sSome f fd) (range0 : mg "range" = none) (GT : FnOk P w K mg base CX0 2 fT fdT ["draw", "size"] spTake) (bT : L2.Binds K fdT ["draw", "size"] []) (gT : mg "_law_take" = some (.ref fT)) (kT : PySem.W.keepIn K (.ref fT) = true)
    (GP : FnOk P w K mg base CX0 3 fP fdP ["draw", "some"] (spPick K)) (bP : L2.Binds K fdP ["draw", "some"] []) (gP : mg "_law_pick" = some (.ref fP)) (kP : PySem.W.keepIn K (.ref fP) = true) :
    FnOk P w K mg base CX0 4 f fd ["draw"] spSome := by
  refine F.ok scSome (fun vs H Q E h => ?_) (fun cdv A outer s H vs Q E hr h => ?_)
  · obtain ⟨d, l, c, rfl, _⟩ := h
    rfl
  · obtain ⟨d, l, c, rfl, hD, q⟩ := h
    refine ⟨_, PSs.nox (pss_cons (ps_set (i := 1) scSome.nd rfl (Or.inr rfl) (pe_call GP hr rfl gP kP bP .nil pass0 (pa_cons (pv 0) (pa_cons (pe_lst (pa_cons pe_int (pa_cons pe_int (pa_cons (pe_op op_pow pe_int pe_int) pa_nil)))) pa_nil))))
      (pss_one (ps_ret (pe_lc (own := [("k", 2)]) (g := gName 2) rfl scSome.nd (pi_range1 (by rfl) range0 (pa_cons (pe_op op_add pe_int (pe_call GT (hr.mono (by decide)) rfl gT kT bT .nil pass0 (pa_cons (pv 0) (pa_cons (pe_call GP hr rfl gP kP bP .nil pass0 (pa_cons (pv 0) (pa_cons (pe_lst (pa_cons pe_int (pa_cons pe_int (pa_cons pe_int pa_nil)))) pa_nil))) pa_nil)))) pa_nil)) (blkOk_by (own := [("k", 2)]) (N := ["draw", "most", "k"]) (sc := defScope sSome) (by decide +kernel))
          (fun _ _ _ _ _ => pg_name (i := 2) scSome.nd rfl (Or.inl rfl)) (fun _ _ _ _ _ => pts_nil)
          (fun _ _ _ _ _ => pe_op op_sub (pe_call GT (hr.mono (by decide)) rfl gT kT bT .nil pass0 (pa_cons (pv 0) (pa_cons (pe_op op_add (pe_op op_mul pe_int (pv 1)) pe_int) pa_nil))) (pv 1)))))), ?_⟩
    refine ⟨_, rfl, _, _, rfl, rfl, ⟨by decide, by decide, by decide⟩, (by show 3 ≤ sizeLine; decide), fun z hz => ?_⟩
    have D1 := hD.same (same_new (o := .lst [.int 3, .int 10, .int (10 ^ (25 : Int).toNat)]) hz)
    have hz2 : ∀ H', SameX d l (upd H z (.lst [.int 3, .int 10, .int (10 ^ (25 : Int).toNat)])) H' → SqL K H' z [.int 3, .int 10, .int (10 ^ (25 : Int).toNat)] := fun H' s' => SqL.of (s' _ _ upd_same (hD.ne hz).1 (hD.ne hz).2.1)
    refine ⟨d, l, c, z, [.int 3, .int 10, .int (10 ^ (25 : Int).toNat)], rfl, D1, hz2, by simp, (by show 3 ≤ 1000; decide), fun mv H2 hmv D2 s2 => ?_⟩
    have S2 : SameX d l H H2 := (sameX_new hz).trans s2
    obtain ⟨M, rfl, M0, M1⟩ : ∃ M : Nat, mv = .int (M : Int) ∧ 0 < M ∧ M ≤ 10 ^ 25 := by
      simp only [List.mem_cons, List.not_mem_nil, or_false] at hmv
      rcases hmv with rfl | rfl | rfl
      · exact ⟨3, rfl, by decide, by decide⟩
      · exact ⟨10, rfl, by decide, by decide⟩
      · exact ⟨10 ^ 25, rfl, by decide, by decide⟩
    have hM : M < 2 ^ 84 := Nat.lt_of_le_of_lt M1 (by decide)
    refine ⟨_, rfl, _, rfl, (by show 3 ≤ sizeLine; decide), fun z2 hz3 => ?_⟩
    have D3 := D2.same (same_new (o := .lst [.int 4, .int 12, .int 40]) hz3)
    refine ⟨d, l, c, z2, [.int 4, .int 12, .int 40], rfl, D3, fun H' s' => SqL.of (s' _ _ upd_same (D2.ne hz3).1 (D2.ne hz3).2.1), by simp, (by show 3 ≤ 1000; decide), fun lv H4 hlv D4 s4 => ?_⟩
    obtain ⟨L, rfl, L0, L1⟩ : ∃ L : Nat, lv = .int (L : Int) ∧ 0 < L ∧ L ≤ 40 := by
      simp only [List.mem_cons, List.not_mem_nil, or_false] at hlv
      rcases hlv with rfl | rfl | rfl
      · exact ⟨4, rfl, by decide, by decide⟩
      · exact ⟨12, rfl, by decide, by decide⟩
      · exact ⟨40, rfl, by decide, by decide⟩
    have S4 : SameX d l H H4 := S2.trans ((sameX_new hz3).trans s4)
    refine tn <| ⟨d, l, c, _, rfl, D4, by omega, log_small (by omega), fun v H5 v0 v1 hD5 s5 => ⟨_, _, rfl, rfl, _, rfl, by omega, by omega, fun D hDn => ?_⟩⟩
    obtain ⟨k, rfl⟩ : ∃ k : Nat, v = (k : Int) := ⟨v.toNat, by omega⟩
    have S5 := S4.trans s5
    obtain ⟨nd, nl, nc⟩ := hD5.ne hDn
    have hDn0 : H D = none := freeX S5 hDn nd nl
    refine lc_range (lo := 0) (n := (1 + (k : Int) - 0).toNat) (fun i H' => ∃ ns : List Int, ns.length = i ∧ (∀ i, (fnL ns i).natAbs < 2 ^ 90) ∧ H' D = some (.lst (ns.map V.int)) ∧ Draw H' d l c ∧ SameX d l H H') ?_ ?_ ?_
    · exact ⟨[], rfl, fun i => by
        rw [fnL_out (Nat.zero_le _)]
        exact Nat.pow_pos (by decide), upd_same, hD5.same (same_new hDn), S5.trans (sameX_new hDn)⟩
    · rintro i H6 hi ⟨ns, rfl, hb, h2, hD6, s6⟩
      have hsz : (2 * (M : Int) + 1).natAbs < 2 ^ 86 := by
        have : (2 : Nat) ^ 86 = 4 * 2 ^ 84 := by decide
        omega
      refine ⟨rfl, yesT ⟨_, rfl, _, rfl, _, _, rfl, rfl, .inl ⟨by decide, by decide⟩, _, _, rfl, rfl, tn <| ⟨d, l, c, _, rfl, hD6, by omega, Nat.lt_of_lt_of_le (PySem.Flt.log2_lt_of (k := 86) (by decide) hsz) (by decide), fun v H7 v0 v1 hD7 s7 => ⟨_, rfl, _, _, rfl, rfl, _, s7 _ _ h2 nd nl, ?_, ns ++ [v - (M : Int)], ?_, ?_, ?_, ?_, ?_⟩⟩⟩⟩
      · rw [List.length_map, sizeLine_eq]
        omega
      · rw [List.length_append]
        rfl
      · intro j
        unfold fnL
        rw [List.getD_eq_getElem?_getD]
        by_cases hj : j < ns.length
        · have z := hb j
          unfold fnL at z
          rw [List.getD_eq_getElem?_getD] at z
          rw [List.getElem?_append_left hj]
          exact z
        · rw [List.getElem?_append_right (by omega)]
          by_cases hj2 : j - ns.length = 0
          · rw [hj2]
            show (v - (M : Int)).natAbs < 2 ^ 90
            have : (2 : Nat) ^ 90 = 64 * 2 ^ 84 := by decide
            omega
          · rw [List.getElem?_eq_none (by simp; omega)]
            exact Nat.pow_pos (by decide)
      · rw [upd_same, List.map_append]
        rfl
      · exact hD7.put nd nl nc
      · exact fun b o e b1 b2 => by
          rw [upd_ne (ne_of_none e hDn0)]
          exact (s6.trans s7) b o e b1 b2
    · rintro H6 ⟨ns, hl, hb, h2, hD6, s6⟩
      exact q D ns H6 (by omega) (by omega) hb hDn0 hD6 s6 h2
end
end K00

set_option Elab.async false
set_option linter.all false
set_option maxRecDepth 100000
set_option maxHeartbeats 4000000
set_option pp.maxSteps 3000
set_option exponentiation.threshold 500000
namespace K00
open PySem PySem.Spec PyProof.Rows L2 Dr Xv LamX Ps
def gR {α : Type} (us ws : List α) : List α := match us with
  | [] => ws.reverse
  | _ => []
theorem kbR {K : PySem.W.Frag} {x qual : Str} {params : Arguments} {body : List Stmt} {scope : Scope} {kws : List (Str × V)} {f : Addr} {fd : FuncData} {ps : List Str} (F : FunD K x qual params body scope [] kws f fd) (hps : ps ≠ [])
    (h : ∀ (kV doc pm : Value) (an : Option Addr) (cdv ct : Value) (ws : List Value), ws.length = ps.length → bindArgs (PySem.W.fnOf x qual params body scope .none kV doc pm an cdv ct) ⟨[], ps.reverse.zip ws⟩ = pure (ps.zip ws.reverse)) : KBinds K fd ps ps.reverse gR gR := by
  obtain ⟨oc, od, dV, kV, doc, pm, an, cdv, ct, osl, rfl, lk, hcd, hD, hK⟩ := F.ex
  refine ⟨fun s us ws hK' hl => ?_, fun {vs us zs ws} r1 r2 => ?_⟩
  · cases us with
    | cons u r =>
      exact absurd (List.length_eq_zero_iff.mp hl.symm) hps
    | nil =>
      rcases hD with ⟨_, rfl⟩ | ⟨e, _⟩
      · refine BindsTo.of_eq (h kV doc pm an cdv ct ws ?_)
        rw [← hl]
        exact (List.length_reverse).symm
      · exact absurd rfl e
  · cases r1 with
    | nil => exact r2.reverse
    | cons _ _ => exact .nil
/-- what the law calls -/
structure Fns (P : Program) (w : World) (K : PySem.W.Frag) (mg : Str → Option Value) (base : Heap) (cS cN cR : Addr) : Type where
  (f_b f_t f_p f_s f_lt f_ra f_ir f_pl f_ti f_in f_po f_c : Addr)
  (d_b d_t d_p d_s d_lt d_ra d_ir d_pl d_ti d_in d_po d_c : FuncData)
  GB : FnOk P w K mg base CX0 1 f_b d_b ["script"] (spBegun K)
  bB : L2.Binds K d_b ["script"] []
  gB : mg "_law_begun" = some (.ref f_b)
  kB : PySem.W.keepIn K (.ref f_b) = true
  GT : FnOk P w K mg base CX0 2 f_t d_t ["draw", "size"] spTake
  bT : L2.Binds K d_t ["draw", "size"] []
  gT : mg "_law_take" = some (.ref f_t)
  kT : PySem.W.keepIn K (.ref f_t) = true
  GP : FnOk P w K mg base CX0 3 f_p d_p ["draw", "some"] (spPick K)
  bP : L2.Binds K d_p ["draw", "some"] []
  gP : mg "_law_pick" = some (.ref f_p)
  kP : PySem.W.keepIn K (.ref f_p) = true
  GS : FnOk P w K mg base CX0 4 f_s d_s ["draw"] spSome
  bS : L2.Binds K d_s ["draw"] []
  gS : mg "_law_some_row" = some (.ref f_s)
  kS : PySem.W.keepIn K (.ref f_s) = true
  GLt : FnOk P w K mg base CX0 1 f_lt d_lt ["one", "other", "most"] spLT
  bLt : L2.Binds K d_lt ["one", "other", "most"] []
  gLt : mg "_law_times" = some (.ref f_lt)
  kLt : PySem.W.keepIn K (.ref f_lt) = true
  GRa : FnOk P w K mg base CX0 2 f_ra d_ra ["row", "k"] spRaised
  bRa : L2.Binds K d_ra ["row", "k"] []
  gRa : mg "_law_raised" = some (.ref f_ra)
  kRa : PySem.W.keepIn K (.ref f_ra) = true
  GIr : FnOk P w K mg base CX0 4 f_ir d_ir ["thing"] spIsRow
  bIr : L2.Binds K d_ir ["thing"] []
  gIr : mg "is_row" = some (.ref f_ir)
  kIr : PySem.W.keepIn K (.ref f_ir) = true
  hIr : KBinds K d_ir ["thing"] ["thing"] gR gR
  GPl : FnOk P w K mg base (L2.CX P w) 6 f_pl d_pl ["one", "other"] (spPlus cR)
  bPl : L2.Binds K d_pl ["one", "other"] []
  gPl : mg "row_plus" = some (.ref f_pl)
  kPl : PySem.W.keepIn K (.ref f_pl) = true
  GTi : FnOk P w K mg base (L2.CX P w) 6 f_ti d_ti ["one", "other"] (spTimes cR)
  bTi : L2.Binds K d_ti ["one", "other"] []
  gTi : mg "row_times" = some (.ref f_ti)
  kTi : PySem.W.keepIn K (.ref f_ti) = true
  hTi : KBinds K d_ti ["one", "other"] ["other", "one"] gR gR
  GIn : FnOk P w K mg base (L2.CX P w) 6 f_in d_in ["row"] (spInv cR)
  bIn : L2.Binds K d_in ["row"] []
  gIn : mg "row_inverse" = some (.ref f_in)
  kIn : PySem.W.keepIn K (.ref f_in) = true
  hIn : KBinds K d_in ["row"] ["row"] gR gR
  GPo : FnOk P w K mg base (L2.CX P w) 6 f_po d_po ["row", "k"] (spPow cN cR)
  bPo : L2.Binds K d_po ["row", "k"] []
  gPo : mg "row_power" = some (.ref f_po)
  kPo : PySem.W.keepIn K (.ref f_po) = true
  hPo : KBinds K d_po ["row", "k"] ["k", "row"] gR gR
  FC : FnP K "_law_caught" sCaught f_c d_c
  gC : mg "_law_caught" = some (.ref f_c)
  isi0 : mg "isinstance" = none
  len0 : mg "len" = none
  range0 : mg "range" = none
  min0 : mg "min" = none
  tuple0 : mg "tuple" = none
def NL : List Str := List.map Str.ofString ["script", "draw", "lap", "other", "least", "k", "checks", "unit", "back", "bad", "odd", "one", "n"]
theorem scLaw : FnScope NL ["script"] (defScope sLaw) := ⟨rfl, rfl, rfl, by decide +kernel, rfl, by decide +kernel, by decide +kernel⟩
def qL : Str := (envOfC "law" (defScope sLaw) 0 0 .none).qual ++ "<lambda>"
def noArgs : Arguments := { posonlyargs := [], args := [], vararg := none, kwonlyargs := [], kw_defaults := [], kwarg := none, defaults := [] }
section
variable {P : Program} {w : World} {K : PySem.W.Frag} {mg : Str → Option Value} {base : Heap} {cS cN cR : Addr} {f c Pt : Addr} {A : Around} {outer : List Env} {s : Shared} {H : Hp} {E : XK}
abbrev XL (P : Program) (w : World) (K : PySem.W.Frag) (mg : Str → Option Value) (base : Heap) (f c : Addr) (A : Around) (outer : List Env) (s : Shared) (H : Hp) (E : XK) : Cx := (cxOf CX0 P w K mg base NL "law" (defScope sLaw) f (.ref c) A outer s H E).nox
theorem scCaught : FnScope ["work", "caught", "error"] ["work"] (defScope sCaught) := ⟨rfl, rfl, rfl, by decide +kernel, rfl, by decide +kernel, by decide +kernel⟩
/-- _law_caught(lambda: body) -/
theorem pe_law {body : Expr} {scope : Scope} {t : XK → TE} {k : Nat} {p lpos pos : Pos} (G : Fns P w K mg base cS cN cR) (T : Txt K mg cS cN cR) (TB : TabB base mg c Pt) (hr : Room (k + 2) (XL P w K mg base f c A outer s H E).A) (L : lamSB (defScope sLaw) scope = true)
    (hg : Gl (XL P w K mg base f c A outer s H E) "_law_caught")
    (hbody : ∀ (A' : Around) (outer' : List Env) (s' : Shared) (H' : Hp) (E' : XK) (f' c' : Addr), Room k (A'.deeper (lamEnv (XL P w K mg base f c A outer s H E) scope s'.heap.objs.size f' c')) → PE (lamCx (XL P w K mg base f c A outer s H E) A' outer' s' H' E' scope f' c') body (t E')) :
    PE (XL P w K mg base f c A outer s H E) (.Call (.Name "_law_caught" p) [.Lambda noArgs body scope lpos] [] pos) (tLam [(Pt, qL)] (TCaught K cS) t) := by
  obtain ⟨oc, od, dV, kV, doc, pm, an, cdv, ct, osl, e, lk, hcd, hD, hK⟩ := G.FC.ex
  have bC : L2.Binds K G.d_c ["work"] [] := G.FC.bindsN fun _ _ _ _ _ _ us hl => match us, hl with | [_], _ => rfl
  rw [e] at lk bC
  exact pe_lamcall (X := XL P w K mg base f c A outer s H E) (T := [(Pt, qL)]) (a := "work") hg G.gC G.FC.kp lk hcd bC scCaught rfl (Or.inl rfl)
    (caught_gives scCaught rfl rfl rfl rfl T.gS) TB rfl (List.mem_singleton.mpr rfl) (fun p hp _ => by rw [List.mem_singleton.mp hp]; rfl) hr (lamS_by L) rfl (fun _ _ _ _ _ => rfl) hbody
end
def forBody : Stmt → List Stmt
  | .For _ _ b _ _ => b
  | _ => []
abbrev lapB : List Stmt := forBody ((defBody sLaw).getD 1 (.Pass ⟨0, 0, 0, 0⟩))
/-- all but the draw and the tables stays -/
def Keep (d l : Addr) (H H' : Hp) : Prop := ∀ b o, H b = some o → b ≠ d → b ≠ l → (∀ ps, o ≠ .tbl ps) → H' b = some o
/-- a list of the law's own -/
structure Own (H : Hp) (d l p : Addr) (xs : List V) : Prop where
  at_ : H p = some (.lst xs)
  nd : p ≠ d
  nl : p ≠ l
/-- the draw and the tables -/
structure Wd (Pt : Addr) (H : Hp) (d l c : Addr) : Prop where
  dr : Draw H d l c
  tb : Tabs [(Pt, qL)] H
section
variable {H H' : Hp} {d l c p Pt : Addr} {xs : List V}
theorem Own.same (h : Own H d l p xs) (s : Same H H') : Own H' d l p xs := ⟨s _ _ h.at_, h.nd, h.nl⟩
theorem Own.sx (h : Own H d l p xs) (s : SameX d l H H') : Own H' d l p xs := ⟨s _ _ h.at_ h.nd h.nl, h.nd, h.nl⟩
theorem Own.ext (h : Own H d l p xs) (s : ExtN H H') : Own H' d l p xs := ⟨s _ _ h.at_ (fun ps z => by cases z), h.nd, h.nl⟩
theorem Own.new (D : Draw H d l c) (n : H p = none) : Own (upd H p (.lst xs)) d l p xs := ⟨upd_same, (D.ne n).1, (D.ne n).2.1⟩
theorem Wd.same (W : Wd Pt H d l c) (s : Same H H') : Wd Pt H' d l c := ⟨W.dr.same s, W.tb.ext s⟩
theorem Wd.sx (W : Wd Pt H d l c) (s : SameX d l H H') (D : Draw H' d l c) : Wd Pt H' d l c := by
  refine ⟨D, fun p hp => ?_⟩
  obtain ⟨ls, cs, r, t, D0⟩ := W.dr
  obtain ⟨ps, h1, h2, h3⟩ := W.tb p hp
  refine ⟨ps, s _ _ h1 (ne_of h1 D0.dd (fun z => by cases z)) (ne_of h1 D0.dl (fun z => by cases z)), h2, fun pos cv hc => ?_⟩
  obtain ⟨k, e1, e2⟩ := h3 pos cv hc
  refine ⟨k, e1, s _ _ e2 (ne_of e2 D0.dd (fun z => ?_)) (ne_of e2 D0.dl (fun z => ?_))⟩
  · unfold CodeO at z
    cases z
  · unfold CodeO at z
    cases z
theorem Draw.ext (D : Draw H d l c) (s : ExtN H H') : Draw H' d l c := by
  obtain ⟨ls, cs, r, t, D0⟩ := D
  exact ⟨ls, cs, r, t, s _ _ D0.dd (fun ps z => by cases z), s _ _ D0.dl (fun ps z => by cases z), s _ _ D0.dc (fun ps z => by cases z), D0.lc⟩
end
section
variable {H : Hp}
theorem Wd.upd {Pt d l c D' : Addr} {xs ys : List V} (W : Wd Pt H d l c) (h : H D' = some (.lst xs)) (n1 : D' ≠ d) (n2 : D' ≠ l) (n3 : D' ≠ c) : Wd Pt (upd H D' (.lst ys)) d l c := by
  refine ⟨W.dr.put n1 n2 n3, fun p hp => ?_⟩
  obtain ⟨ps, h1, h2, h3⟩ := W.tb p hp
  refine ⟨ps, by rw [upd_ne (ne_of h1 h (fun z => by cases z))]; exact h1, h2, fun pos cv hc => ?_⟩
  obtain ⟨k, e1, e2⟩ := h3 pos cv hc
  have nk : k ≠ D' := ne_of e2 h (fun z => by
    unfold CodeO at z
    cases z)
  exact ⟨k, e1, by rw [upd_ne nk]; exact e2⟩
theorem Own.upd {d l p D' : Addr} {xs : List V} {o : HO} (O : Own H d l p xs) (h : p ≠ D') : Own (upd H D' o) d l p xs := ⟨by rw [upd_ne h]; exact O.at_, O.nd, O.nl⟩
end
theorem eq_no (ls : List Int) : (!PyData.eqv (.list (intsD ls)) (.list (intsD ls))) = false := by
  have e := SeqAt.eqv_refl (.list (intsD ls)) (show PyData.canLay0 (.list (intsD ls)) = true from ints_lay ls)
  rw [e]
  rfl
/-- any object of the law's own -/
structure OwnO (H : Hp) (d l p : Addr) (o : HO) : Prop where
  at_ : H p = some o
  nd : p ≠ d
  nl : p ≠ l
  nt : ∀ ps, o ≠ .tbl ps
section
variable {H H' : Hp} {d l c p Pt : Addr} {o : HO}
theorem OwnO.same (h : OwnO H d l p o) (s : Same H H') : OwnO H' d l p o := ⟨s _ _ h.at_, h.nd, h.nl, h.nt⟩
theorem OwnO.sx (h : OwnO H d l p o) (s : SameX d l H H') : OwnO H' d l p o := ⟨s _ _ h.at_ h.nd h.nl, h.nd, h.nl, h.nt⟩
theorem OwnO.ext (h : OwnO H d l p o) (s : ExtN H H') : OwnO H' d l p o := ⟨s _ _ h.at_ h.nt, h.nd, h.nl, h.nt⟩
theorem OwnO.new (D : Draw H d l c) (n : H p = none) (nt : ∀ ps, o ≠ .tbl ps) : OwnO (upd H p o) d l p o := ⟨upd_same, (D.ne n).1, (D.ne n).2.1, nt⟩
theorem OwnO.upd {D' : Addr} {o' : HO} (O : OwnO H d l p o) (h : p ≠ D') : OwnO (upd H D' o') d l p o := ⟨by rw [upd_ne h]; exact O.at_, O.nd, O.nl, O.nt⟩
end
end K00

set_option Elab.async false
set_option linter.all false
set_option maxRecDepth 100000
set_option maxHeartbeats 4000000
set_option pp.maxSteps 3000
set_option exponentiation.threshold 500000
namespace K00
open PySem PySem.Spec PyProof.Rows L2 Dr Xv LamX Ps
theorem all_num (ns : List Int) : (ns.map V.int).all isNum = true := by
  rw [List.all_map]
  exact List.all_eq_true.mpr fun _ _ => rfl
theorem row_ints {ns : List Int} (h1 : 1 ≤ ns.length) (h2 : ns.length ≤ 3001) : isRow (some (ns.map V.int)) = true := by
  show ((ns.map V.int).all isNum && (decide (1 ≤ ((ns.map V.int).length : Int)) && decide (((ns.map V.int).length : Int) ≤ 3001))) = true
  rw [all_num, List.length_map, decide_eq_true (by omega : 1 ≤ (ns.length : Int)), decide_eq_true (by omega : (ns.length : Int) ≤ 3001)]
  rfl
theorem pv_ints {H : Hp} (ns : List Int) : AllPV H (some (ns.map V.int)) := by
  intro xs e v hv
  cases e
  obtain ⟨z, _, rfl⟩ := List.mem_map.mp hv
  exact .int z
theorem short_ints {ns : List Int} (h2 : ns.length ≤ 3001) : short (some (ns.map V.int)) := by
  intro xs e
  cases e
  rw [List.length_map, sizeLine_eq]
  omega
def Bd (ns : List Int) : Prop := ∀ i, (fnL ns i).natAbs < 2 ^ 90
theorem Bd.to {ns : List Int} (h : Bd ns) {k : Nat} (hk : 90 ≤ k) : ∀ i, (fnL ns i).natAbs < 2 ^ k := fun i => Nat.lt_of_lt_of_le (h i) (Nat.pow_le_pow_right (by decide) hk)
theorem Bd.mem {ns : List Int} (h : Bd ns) {z : Int} (hz : z ∈ ns) : z.natAbs < 2 ^ 90 := by
  obtain ⟨i, hi⟩ := List.mem_iff_getElem?.mp hz
  have e := h i
  unfold fnL at e
  rw [List.getD_eq_getElem?_getD, hi] at e
  exact e
theorem bd_of {ns : List Int} (h : ∀ z ∈ ns, z.natAbs < 2 ^ 90) : Bd ns := fun i => by
  by_cases hi : i < ns.length
  · unfold fnL
    rw [List.getD_eq_getElem?_getD, List.getElem?_eq_getElem hi]
    exact h _ (List.getElem_mem hi)
  · rw [fnL_out (by omega)]
    exact Nat.pow_pos (by decide)
theorem ints_inj {a b : List Int} (h : some (a.map V.int) = some (b.map V.int)) : a = b := by
  have h2 := congrArg (fun o => (o.getD []).filterMap (fun v => match v with | V.int z => some z | _ => none)) h
  simp only [Option.getD_some, List.filterMap_map] at h2
  have e : ∀ l : List Int, l.filterMap ((fun v => match v with | V.int z => some z | _ => none) ∘ V.int) = l := fun l => by
    induction l with
    | nil => rfl
    | cons z r ih => rw [List.filterMap_cons]; exact congrArg (z :: ·) ih
  rw [e, e] at h2
  exact h2
section
variable {H : Hp} {p q : Addr} {ns ms : List Int} {cN cR : Addr} {Q : VK} {E : XK}
theorem use_isrow (hp : H p = some (.lst (ns.map V.int))) (l1 : 1 ≤ ns.length) (l2 : ns.length ≤ 3001) (k : ∀ H', Same H H' → Q (.bl true) H') : spIsRow [.ref p] H Q E :=
  ⟨_, _, rfl, .lst hp, short_ints l2, pv_ints _, by rw [row_ints l1 l2]; exact k⟩
theorem use_plus (hp : H p = some (.lst (ns.map V.int))) (hq : H q = some (.lst (ms.map V.int))) (l1 : 1 ≤ ns.length) (l2 : ns.length ≤ 3001) (l3 : 1 ≤ ms.length) (l4 : ms.length ≤ 3001)
    (k : ∀ (r : Addr) (H' : Hp), H r = none → Same H H' → H' r = some (.lst (rowOf (min ns.length ms.length) (ad (fnL ns) (fnL ms)))) → Q (.ref r) H') : spPlus cR [.ref p, .ref q] H Q E := by
  refine ⟨_, _, _, _, rfl, .lst hp, .lst hq, short_ints l2, short_ints l4, pv_ints _, pv_ints _, fun z => ?_, fun _ z => ?_, fun a b ea eb _ _ => ?_⟩
  · rw [row_ints l1 l2] at z
    cases z
  · rw [row_ints l3 l4] at z
    cases z
  · have := ints_inj ea
    subst this
    have := ints_inj eb
    subst this
    exact ⟨⟨p, q, rfl, rfl, hp, hq⟩, k⟩
theorem use_times (hp : H p = some (.lst (ns.map V.int))) (hq : Items H (.ref q) (some (ms.map V.int))) (l1 : 1 ≤ ns.length) (l2 : ns.length ≤ 3001) (l3 : 1 ≤ ms.length) (l4 : ms.length ≤ 3001) (bn : Bd ns) (bm : Bd ms)
    (k : ∀ (r : Addr) (H' : Hp), H r = none → Same H H' → H' r = some (.lst (rowOf (min ns.length ms.length) (cv (fnL ns) (fnL ms)))) → Q (.ref r) H') : spTimes cR [.ref p, .ref q] H Q E := by
  refine ⟨_, _, _, _, rfl, .lst hp, hq, short_ints l2, short_ints l4, pv_ints _, pv_ints _, fun z => ?_, fun _ z => ?_, fun a b ea eb _ _ => ?_⟩
  · rw [row_ints l1 l2] at z
    cases z
  · rw [row_ints l3 l4] at z
    cases z
  · have := ints_inj ea
    subst this
    have := ints_inj eb
    subst this
    exact ⟨⟨p, rfl, hp⟩, bn.to (by decide), bm.to (by decide), k⟩
theorem use_lt {N : Nat} {mi : Int} (em : mi = (N : Int) - 1) (hp : H p = some (.lst (ns.map V.int))) (hq : H q = some (.lst (ms.map V.int))) (n1 : 1 ≤ N) (n2 : N ≤ 3001) (n3 : N ≤ ns.length) (n4 : N ≤ ms.length) (bn : ∀ i, (fnL ns i).natAbs < 2 ^ 400000) (bm : ∀ i, (fnL ms i).natAbs < 2 ^ 400000)
    (k : ∀ (r : Addr) (H' : Hp), H r = none → Same H H' → H' r = some (.lst (rowOf N (cv (fnL ns) (fnL ms)))) → Q (.ref r) H') : spLT [.ref p, .ref q, .int mi] H Q E := by
  subst em
  exact ⟨p, q, ns, ms, N, rfl, hp, hq, n1, n2, n3, n4, bn, bm, k⟩
theorem within_yes {i lo hi : Int} (h1 : lo ≤ i) (h2 : i ≤ hi) : within (.int i) lo hi = true := by
  show (decide (lo ≤ i) && decide (i ≤ hi)) = true
  rw [decide_eq_true h1, decide_eq_true h2]
  rfl
theorem use_pow {k : Nat} (hp : H p = some (.lst (ns.map V.int))) (l1 : 1 ≤ ns.length) (l2 : ns.length ≤ 3001) (bn : Bd ns) (hk : k ≤ 60)
    (kk : ∀ (r : Addr) (H' : Hp), H r = none → Same H H' → H' r = some (.lst (rowOf ns.length (pw (fnL ns) k))) → Q (.ref r) H') : spPow cN cR [.ref p, .int (k : Int)] H Q E := by
  refine ⟨_, _, _, rfl, .lst hp, fun a e _ => ⟨_, by cases e; exact hp⟩, short_ints l2, pv_ints _, .int _, fun z => ?_, fun _ z => ?_, fun a e _ ek _ he => ?_, fun a k' ea _ ek _ => ?_, fun a k' ea _ ek h1 => ?_⟩
  · rw [row_ints l1 l2] at z
    cases z
  · rw [within_yes (by omega) (by omega)] at z
    cases z
  · injection ek with ek
    omega
  · have := ints_inj ea
    subst this
    injection ek with ek
    have : k = k' := by omega
    subst this
    exact ⟨bn.to (by decide), kk⟩
  · injection ek with ek
    omega
theorem use_pow_neg {k : Nat} {e : Int} (ee : e = -(k : Int)) (hp : H p = some (.lst (ns.map V.int))) (l1 : 1 ≤ ns.length) (l2 : ns.length ≤ 9) (bn : Bd ns) (hk : k ≤ 60) (hu : fnL ns 0 = 1 ∨ fnL ns 0 = -1)
    (kk : ∀ (r : Addr) (H' : Hp), H r = none → Same H H' → H' r = some (.lst (rowOf ns.length (pw (inv (fnL ns) (fnL ns 0)) k))) → Q (.ref r) H') : spPow cN cR [.ref p, .int e] H Q E := by
  subst ee
  refine ⟨_, _, _, rfl, .lst hp, fun a e _ => ⟨_, by cases e; exact hp⟩, short_ints (by omega), pv_ints _, .int _, fun z => ?_, fun _ z => ?_, fun a e ea ek _ he hn => ?_, fun a k' ea _ ek _ => ?_, fun a k' ea _ ek h1 _ _ => ?_⟩
  · rw [row_ints l1 (by omega)] at z
    cases z
  · rw [within_yes (by omega) (by omega)] at z
    cases z
  · have := ints_inj ea
    subst this
    exact absurd hu hn
  · have := ints_inj ea
    subst this
    injection ek with ek
    have e1 : k = 0 := by omega
    have e2 : k' = 0 := by omega
    subst e1 e2
    exact ⟨bn.to (by decide), kk⟩
  · have := ints_inj ea
    subst this
    injection ek with ek
    have : k = k' := by omega
    subst this
    exact ⟨l2, bn.to (by decide), kk⟩
theorem use_pow_bad {e : Int} (hp : H p = some (.lst (ns.map V.int))) (l1 : 1 ≤ ns.length) (l2 : ns.length ≤ 3001) (he : e < 0) (he2 : -60 ≤ e) (hu : ¬ (fnL ns 0 = 1 ∨ fnL ns 0 = -1)) (kk : ∀ H', Same H H' → E (.ref cR) none H') : spPow cN cR [.ref p, .int e] H Q E := by
  refine ⟨_, _, _, rfl, .lst hp, fun a e _ => ⟨_, by cases e; exact hp⟩, short_ints l2, pv_ints _, .int _, fun z => ?_, fun _ z => ?_, fun a e ea ek _ he hn => kk, fun a k' ea _ ek _ => ?_, fun a k' ea _ ek h1 _ h3 => ?_⟩
  · rw [row_ints l1 l2] at z
    cases z
  · rw [within_yes (by omega) (by omega)] at z
    cases z
  · injection ek with ek
    omega
  · have := ints_inj ea
    subst this
    exact absurd h3 hu
theorem use_inv (hp : H p = some (.lst (ns.map V.int))) (l1 : 1 ≤ ns.length) (l2 : ns.length ≤ 9) (bn : Bd ns) (hu : fnL ns 0 = 1 ∨ fnL ns 0 = -1)
    (kk : ∀ (r : Addr) (H' : Hp), H r = none → Same H H' → H' r = some (.lst (rowOf ns.length (inv (fnL ns) (fnL ns 0)))) → Q (.ref r) H') : spInv cR [.ref p] H Q E := by
  refine ⟨_, _, rfl, .lst hp, fun a e _ => ⟨_, by cases e; exact hp⟩, short_ints (by omega), pv_ints _, fun z => ?_, fun a ea hn => ?_, fun a ea _ _ => ?_⟩
  · rw [row_ints l1 (by omega)] at z
    cases z
  · have := ints_inj ea
    subst this
    exact absurd hu hn
  · have := ints_inj ea
    subst this
    exact ⟨l2, bn.to (by decide), kk⟩
theorem use_inv_bad (hp : H p = some (.lst (ns.map V.int))) (l1 : 1 ≤ ns.length) (l2 : ns.length ≤ 3001) (hu : ¬ (fnL ns 0 = 1 ∨ fnL ns 0 = -1)) (kk : ∀ H', Same H H' → E (.ref cR) none H') : spInv cR [.ref p] H Q E := by
  refine ⟨_, _, rfl, .lst hp, fun a e _ => ⟨_, by cases e; exact hp⟩, short_ints l2, pv_ints _, fun z => ?_, fun a ea hn => kk, fun a ea _ h => ?_⟩
  · rw [row_ints l1 l2] at z
    cases z
  · have := ints_inj ea
    subst this
    exact absurd h hu
theorem use_raised {k : Nat} (hp : H p = some (.lst (ns.map V.int))) (l1 : 1 ≤ ns.length) (l2 : ns.length ≤ 3001) (hk : k ≤ 60) (bn : ∀ i, (fnL ns i).natAbs < 2 ^ 400000) (bp : ∀ j n, j ≤ k → n < ns.length → (pw (fnL ns) j n).natAbs < 2 ^ 400000)
    (kk : ∀ (r : Addr) (H' : Hp), H r = none → Same H H' → H' r = some (.lst (rowOf ns.length (pw (fnL ns) k))) → Q (.ref r) H') : spRaised [.ref p, .int (k : Int)] H Q E := ⟨p, ns, k, rfl, hp, l1, l2, hk, bn, bp, kk⟩
end
end K00

set_option Elab.async false
set_option linter.all false
set_option maxRecDepth 100000
set_option maxHeartbeats 4000000
set_option pp.maxSteps 3000
set_option exponentiation.threshold 500000
namespace K00
open PySem PySem.Spec PyProof.Rows L2 Dr Xv LamX Ps
/-- the law's slots: the draw is known -/
def Slots (d : Addr) (σ : L2.St) : Prop := ∃ x0 x2 x3 x4 x5 x6 x7 x8 x9 x10 x11 x12, σ = [x0, some (.ref d), x2, x3, x4, x5, x6, x7, x8, x9, x10, x11, x12]
structure Two (Pt : Addr) (H : Hp) (d l cc p q : Addr) (ns ms : List Int) : Prop where
  W : Wd Pt H d l cc
  O1 : Own H d l p (ns.map V.int)
  O2 : Own H d l q (ms.map V.int)
  l1 : 1 ≤ ns.length
  l2 : ns.length ≤ 40
  l3 : 1 ≤ ms.length
  l4 : ms.length ≤ 40
  bn : Bd ns
  bm : Bd ms
section
variable {H H' : Hp} {Pt d l cc p q : Addr} {ns ms : List Int}
theorem Two.same (T : Two Pt H d l cc p q ns ms) (s : Same H H') : Two Pt H' d l cc p q ns ms := ⟨T.W.same s, T.O1.same s, T.O2.same s, T.l1, T.l2, T.l3, T.l4, T.bn, T.bm⟩
theorem Two.sx (T : Two Pt H d l cc p q ns ms) (s : SameX d l H H') (D : Draw H' d l cc) : Two Pt H' d l cc p q ns ms := ⟨T.W.sx s D, T.O1.sx s, T.O2.sx s, T.l1, T.l2, T.l3, T.l4, T.bn, T.bm⟩
theorem Two.ext (T : Two Pt H d l cc p q ns ms) (s : ExtN H H') (Tb : Tabs [(Pt, qL)] H') : Two Pt H' d l cc p q ns ms := ⟨⟨Draw.ext T.W.dr s, Tb⟩, T.O1.ext s, T.O2.ext s, T.l1, T.l2, T.l3, T.l4, T.bn, T.bm⟩
end
theorem cut19 (ns : List Int) : ∃ ws : List Int, cutV (ns.map V.int) (some 1) (some 9) = ws.map V.int ∧ ws.length ≤ 8 ∧ ∀ z ∈ ws, z ∈ ns := by
  refine ⟨(ns.drop (HT.sIx ns.length 0 (some 1))).take (HT.sIx ns.length ns.length (some 9) - HT.sIx ns.length 0 (some 1)), ?_, ?_, fun z hz => List.mem_of_mem_drop (List.mem_of_mem_take hz)⟩
  · unfold cutV
    rw [List.length_map, List.map_take, List.map_drop]
  · have e1 : HT.sIx ns.length 0 (some 1) = min 1 ns.length := HT.sIx_nat _ 0 1
    have e9 : HT.sIx ns.length ns.length (some 9) = min 9 ns.length := HT.sIx_nat _ _ 9
    rw [List.length_take, List.length_drop, e1, e9]
    omega
def intsOf (n : Nat) (b : S) : List Int := (List.range n).map b
section
variable {P : Program} {w : World} {K : PySem.W.Frag} {mg : Str → Option Value} {base : Heap} {cS cN cR : Addr} {f c Pt : Addr} {A : Around} {outer : List Env} {s : Shared} {H : Hp} {E : XK}
theorem lap_ok (G : Fns P w K mg base cS cN cR) (T : Txt K mg cS cN cR) (TB : TabB base mg c Pt) (hr : Room 9 (XL P w K mg base f c A outer s H E).A) :
    ∃ t, PSs (XL P w K mg base f c A outer s H E) lapB t ∧ ∀ (D : Ends) (σ : L2.St) (H0 : Hp) (d l cc : Addr), Slots d σ → Wd Pt H0 d l cc → (∀ σ' H', Slots d σ' → Wd Pt H' d l cc → D.nx σ' H') → t D σ H0 := by
  have hr8 : Room 8 (XL P w K mg base f c A outer s H E).A := hr.mono (by decide)
  have hr6 : Room 6 (XL P w K mg base f c A outer s H E).A := hr.mono (by decide)
  have hr4 : Room 4 (XL P w K mg base f c A outer s H E).A := hr.mono (by decide)
  have hr3 : Room 3 (XL P w K mg base f c A outer s H E).A := hr.mono (by decide)
  have hr2 : Room 2 (XL P w K mg base f c A outer s H E).A := hr.mono (by decide)
  have hr1 : Room 1 (XL P w K mg base f c A outer s H E).A := hr.mono (by decide)
  have hx : ∀ {X : Cx}, Passes (L2.CX X.prog X.w) X (fun _ _ _ => False) := fun {X} => passes_call L2.takes0 (fun _ _ _ _ z => z)
  refine ⟨_, C8.pss_cut (ps_asg (pe_tup (pa_cons (pe_call G.GS hr4 rfl G.gS G.kS G.bS .nil pass0 (pa_cons (pv 1) pa_nil)) (pa_cons (pe_call G.GS hr4 rfl G.gS G.kS G.bS .nil pass0 (pa_cons (pv 1) pa_nil)) pa_nil)))
        (pg_tup rfl (pgs_cons (pg_name (i := 11) scLaw.nd rfl (Or.inr rfl)) (pgs_cons (pg_name (i := 3) scLaw.nd rfl (Or.inr rfl)) pgs_nil))))
    (pss_cons (ps_set (i := 4) scLaw.nd rfl (Or.inl rfl) (pe_callB (call_min2 rfl) (by rfl) G.min0 (by decide +kernel) (pa_cons (pe_callB call_len (by rfl) G.len0 PySem.boot_len (pa_cons (pv 11) pa_nil)) (pa_cons (pe_callB call_len (by rfl) G.len0 PySem.boot_len (pa_cons (pv 3) pa_nil)) pa_nil))))
    (C8.pss_cut (ps_if (PW.pt (pw_or (pt_cmpR op_isnot_bl (pe_call G.GIr hr4 rfl G.gIr G.kIr G.bIr .nil pass0 (pa_cons (pv 11) pa_nil)) pe_bl (nomark _))
        (pw_or1 (pt_cmpR (op_neD hr.units) (pe_call G.GPl hr6 rfl G.gPl G.kPl G.bPl .nil hx (pa_cons (pv 11) (pa_cons (pv 3) pa_nil)))
          (pe_lc (own := [("n", 12)]) (g := gName 12) rfl scLaw.nd (pi_range1 (by rfl) G.range0 (pa_cons (pv 4) pa_nil)) (blkOk_by (own := [("n", 12)]) (N := NL) (sc := defScope sLaw) (by decide +kernel))
            (fun _ _ _ _ _ => pg_name (i := 12) scLaw.nd rfl (Or.inl rfl)) (fun _ _ _ _ _ => pts_nil)
            (fun _ _ _ _ _ => pe_op op_add (pe_ix (r := rIxL K) ix_list (pv 11) (pv 12) (fun _ _ => rfl)) (pe_ix (r := rIxL K) ix_list (pv 3) (pv 12) (fun _ _ => rfl)))) (nomark _)))))
      (pss_one (ps_ret pe_bl)) pss_nil)
    (C8.pss_cut (ps_if (PW.pt (pw_or (pt_cmpR (op_neD hr.units) (pe_call G.GTi hr6 rfl G.gTi G.kTi G.bTi .nil hx (pa_cons (pv 11) (pa_cons (pe_callTy call_tuple_of (by rfl) G.tuple0 (by decide +kernel) (pa_cons (pv 3) pa_nil)) pa_nil)))
          (pe_call G.GLt hr1 rfl G.gLt G.kLt G.bLt .nil pass0 (pa_cons (pv 11) (pa_cons (pv 3) (pa_cons (pe_op op_sub (pv 4) pe_int) pa_nil)))) (nomark _))
        (pw_or1 (pt_cmpR (op_neD hr.units) (pe_callK0 G.GTi hr6 rfl G.gTi G.kTi G.hTi hx (pk_cons (pv 3) (pk_cons (pv 11) pk_nil))) (pe_call G.GTi hr6 rfl G.gTi G.kTi G.bTi .nil hx (pa_cons (pv 3) (pa_cons (pv 11) pa_nil))) (nomark _)))))
      (pss_one (ps_ret pe_bl)) pss_nil)
    (pss_cons (ps_set (i := 5) scLaw.nd rfl (Or.inl rfl) (pe_call G.GT hr2 rfl G.gT G.kT G.bT .nil pass0 (pa_cons (pv 1) (pa_cons pe_int pa_nil))))
    (C8.pss_cut (ps_if (pt_cmpR (op_neD hr.units) (pe_call G.GPo hr6 rfl G.gPo G.kPo G.bPo .nil hx (pa_cons (pv 11) (pa_cons (pv 5) pa_nil))) (pe_call G.GRa hr2 rfl G.gRa G.kRa G.bRa .nil pass0 (pa_cons (pv 11) (pa_cons (pv 5) pa_nil))) (nomark _))
      (pss_one (ps_ret pe_bl)) pss_nil)
    (C8.pss_cut (ps_if (pt_cmpR op_notIn_seq (pe_ix ix_list (pv 11) pe_int (fun _ _ => rfl)) (pe_lst (pa_cons pe_int (pa_cons (pe_un un_neg pe_int) pa_nil))) (by rfl))
      (pss_cons (ps_set (i := 6) scLaw.nd rfl (Or.inl rfl) (pe_lst (pa_cons (pe_callB call_isC (by rfl) G.isi0 boot_isinstance (pa_cons (pe_law (t := fun E' => tCall (spInv cR) [] E' (tCons (tVar 11) tNil)) G T TB hr8 (by decide +kernel) rfl
          (fun A' outer' s' H' E' f' c' hr' => pe_call G.GIn hr' rfl G.gIn G.kIn G.bIn .nil (passes_call (takes_of rfl rfl rfl rfl) (fun _ _ _ _ h => h)) (pa_cons (pv 11) pa_nil))) (pa_cons (pe_glob (v := .ref cR) rfl T.gR rfl) pa_nil))) pa_nil)))
      (pss_cons (ps_expr (pe_bm PySem.F.plainAttrs_list PySem.F.slot_list_append PySem.F.type_list_append mt_append (pv 6) (pa_cons (pe_callB call_isC (by rfl) G.isi0 boot_isinstance (pa_cons (pe_law (t := fun E' => tCall (spPow cN cR) [] E' (tCons (tVar 11) (tCons (tUn (rU fun i => .int (-i)) (tC (.int 1))) tNil))) G T TB hr8 (by decide +kernel) rfl
          (fun A' outer' s' H' E' f' c' hr' => pe_call G.GPo hr' rfl G.gPo G.kPo G.bPo .nil (passes_call (takes_of rfl rfl rfl rfl) (fun _ _ _ _ h => h)) (pa_cons (pv 11) (pa_cons (pe_un un_neg pe_int) pa_nil)))) (pa_cons (pe_glob (v := .ref cR) rfl T.gR rfl) pa_nil))) pa_nil)))
      (pss_one (ps_if (pt_cmpR op_in_seq pe_bl (pv 6) (by rfl)) (pss_one (ps_ret pe_bl)) pss_nil)))) pss_nil)
    (pss_cons (ps_set (i := 7) scLaw.nd rfl (Or.inl rfl) (pe_op op_cat (pe_lst (pa_cons (pe_call G.GP hr3 rfl G.gP G.kP G.bP .nil pass0 (pa_cons (pv 1) (pa_cons (pe_lst (pa_cons pe_int (pa_cons (pe_un un_neg pe_int) pa_nil))) pa_nil))) pa_nil)) (pe_slice sl_list (pv 11) (po_some pe_int) (po_some pe_int))))
    (pss_cons (ps_set (i := 8) scLaw.nd rfl (Or.inl rfl) (pe_callK0 G.GIn hr6 rfl G.gIn G.kIn G.hIn hx (pk_cons (pv 7) pk_nil)))
    (C8.pss_cut (ps_if (PW.pt (pw_or (pt_cmpR op_ne (pe_callB call_len (by rfl) G.len0 PySem.boot_len (pa_cons (pv 8) pa_nil)) (pe_callB call_len (by rfl) G.len0 PySem.boot_len (pa_cons (pv 7) pa_nil)) (nomark _))
        (pw_or1 (pt_cmpR (op_neD hr.units) (pe_call G.GLt hr1 rfl G.gLt G.kLt G.bLt .nil pass0 (pa_cons (pv 7) (pa_cons (pv 8) (pa_cons (pe_op op_sub (pe_callB call_len (by rfl) G.len0 PySem.boot_len (pa_cons (pv 7) pa_nil)) pe_int) pa_nil))))
          (pe_op op_cat (pe_lst (pa_cons pe_int pa_nil)) (pe_op op_rep (pe_lst (pa_cons pe_int pa_nil)) (pe_op op_sub (pe_callB call_len (by rfl) G.len0 PySem.boot_len (pa_cons (pv 7) pa_nil)) pe_int))) (nomark _)))))
      (pss_one (ps_ret pe_bl)) pss_nil)
    (pss_one (ps_if (PW.pt (pw_or (pt_cmpR (op_neD hr.units) (pe_call G.GPo hr6 rfl G.gPo G.kPo G.bPo .nil hx (pa_cons (pv 7) (pa_cons (pe_un un_neg (pv 5)) pa_nil))) (pe_call G.GRa hr2 rfl G.gRa G.kRa G.bRa .nil pass0 (pa_cons (pv 8) (pa_cons (pv 5) pa_nil))) (nomark _))
        (pw_or (pt_cmpR (op_neD hr.units) (pe_callK0 G.GPo hr6 rfl G.gPo G.kPo G.hPo hx (pk_cons pe_int (pk_cons (pv 7) pk_nil))) (pv 7) (nomark _))
        (pw_or1 (pt_cmpR (op_neD hr.units) (pe_call G.GPo hr6 rfl G.gPo G.kPo G.bPo .nil hx (pa_cons (pv 7) (pa_cons pe_int pa_nil))) (pe_call G.GRa hr2 rfl G.gRa G.kRa G.bRa .nil pass0 (pa_cons (pv 7) (pa_cons pe_int pa_nil))) (nomark _))))))
      (pss_one (ps_ret pe_bl)) pss_nil))))))))))), ?_⟩
  rintro D σ H0 d l cc ⟨x0, x2, x3, x4, x5, x6, x7, x8, x9, x10, x11, x12, rfl⟩ W0 fin
  refine ⟨fun σ' H' => ∃ p q ns ms, σ' = [x0, some (.ref d), x2, some (.ref q), x4, x5, x6, x7, x8, x9, x10, some (.ref p), x12] ∧ Two Pt H' d l cc p q ns ms, ?_, ?_⟩
  · refine ⟨_, rfl, tn <| ⟨d, l, cc, rfl, W0.dr, fun p ns H1 l1 l2 bn hp D1 s1 h1 => ?_⟩⟩
    have W1 := W0.sx s1 D1
    have O1 : Own H1 d l p (ns.map V.int) := ⟨h1, (W0.dr.ne hp).1, (W0.dr.ne hp).2.1⟩
    refine ⟨_, rfl, tn <| ⟨d, l, cc, rfl, D1, fun q ms H2 l3 l4 bm hq D2 s2 h2 => ?_⟩⟩
    have W2 := W1.sx s2 D2
    have O2 : Own H2 d l q (ms.map V.int) := ⟨h2, (D1.ne hq).1, (D1.ne hq).2.1⟩
    refine ⟨(by show 2 ≤ sizeLine; decide), fun tp htp => ⟨tp, _, rfl, SqT.of upd_same, rfl, _, _, rfl, _, _, rfl, rfl, ?_⟩⟩
    have s3 := same_new (o := .tup [.ref p, .ref q]) htp
    exact ⟨p, q, ns, ms, rfl, (Two.mk W2 (O1.sx s2) O2 l1 l2 l3 l4 bn bm).same s3⟩
  · rintro σ1 H1 ⟨p, q, ns, ms, rfl, Z1⟩
    have la : (ns.map V.int).length = ns.length := List.length_map _
    have lb : (ms.map V.int).length = ms.length := List.length_map _
    have z1 := Z1.l1
    have z2 := Z1.l2
    have z3 := Z1.l3
    have z4 := Z1.l4
    obtain ⟨m, hm⟩ : ∃ m, m = min ns.length ms.length := ⟨_, rfl⟩
    have em : (if ((ms.map V.int).length : Int) < ((ns.map V.int).length : Int) then ((ms.map V.int).length : Int) else ((ns.map V.int).length : Int)) = (m : Int) := by
      rw [la, lb]
      split <;> omega
    refine ⟨_, rfl, _, _, rfl, .inl ⟨_, SqL.of Z1.O1.at_, rfl⟩, _, rfl, _, _, rfl, .inl ⟨_, SqL.of Z1.O2.at_, rfl⟩, _, _, rfl, ?_⟩
    rw [em]
    refine ⟨fun σ' H' => σ' = [x0, some (.ref d), x2, some (.ref q), some (.int (m : Int)), x5, x6, x7, x8, x9, x10, some (.ref p), x12] ∧ Two Pt H' d l cc p q ns ms, ?_, ?_⟩
    · refine ⟨_, rfl, tn <| use_isrow Z1.O1.at_ Z1.l1 (by omega) fun H2 s2 => ?_⟩
      have Z2 := Z1.same s2
      refine ⟨_, _, rfl, rfl, _, rfl, iteF ?_⟩
      refine ⟨_, rfl, _, rfl, tn <| use_plus Z2.O1.at_ Z2.O2.at_ z1 (by omega) z3 (by omega) fun r H3 _ s3 hr => ?_⟩
      have Z3 := Z2.same s3
      rw [← hm] at hr
      refine ⟨_, rfl, _, rfl, by omega, by omega, fun D1 hD => lc_range (lo := 0) (n := (m : Int).toNat) (fun i H' => H' D1 = some (.lst (rowOf i (ad (fnL ns) (fnL ms)))) ∧ Same H3 H') ⟨by rw [upd_same]; rfl, same_new hD⟩ ?_ ?_⟩
      · rintro i H4 hi ⟨h4, s4⟩
        have e0 : (0 : Int) + (i : Int) = (i : Int) := by omega
        refine ⟨rfl, yesT ⟨_, rfl, _, rfl, p, _, _, _, rfl, rfl, SqL.of (s4 _ _ Z3.O1.at_), by
          rw [e0]
          exact atI_nat (hat (by omega)), _, rfl, _, rfl, q, _, _, _, rfl, rfl, SqL.of (s4 _ _ Z3.O2.at_), by
          rw [e0]
          exact atI_nat (hat (by omega)), _, _, rfl, rfl, _, h4, ?_, ?_, ?_⟩⟩
        · rw [row_len, sizeLine_eq]
          omega
        · rw [upd_same, row_succ]
          rfl
        · intro b' o' e'
          rw [upd_ne (ne_of_none e' hD)]
          exact s4 _ _ e'
      · rintro H4 ⟨h4, s4⟩
        rw [Int.toNat_natCast] at h4
        refine ⟨.list (intsD (intsOf m (ad (fnL ns) (fnL ms)))), .list (intsD (intsOf m (ad (fnL ns) (fnL ms)))), .lst (SqL.of (s4 _ _ hr)) (ints_dp _), .lst (SqL.of h4) (ints_dp _), ints_shaped _, ints_shaped _, _, rfl, iteF' (eq_no _) ?_⟩
        exact ⟨rfl, Z3.same s4⟩
    · rintro σ2 H2 ⟨rfl, Z2⟩
      clear Z1
      refine ⟨fun σ' H' => σ' = [x0, some (.ref d), x2, some (.ref q), some (.int (m : Int)), x5, x6, x7, x8, x9, x10, some (.ref p), x12] ∧ Two Pt H' d l cc p q ns ms, ?_, ?_⟩
      · refine ⟨_, rfl, _, rfl, q, _, rfl, .inl ⟨SqL.of Z2.O2.at_, fun t1 ht1 => ?_⟩⟩
        have s3 := same_new (o := .tup (ms.map V.int)) ht1
        have Z3 := Z2.same s3
        refine tn <| use_times Z3.O1.at_ (.tup upd_same) z1 (by omega) z3 (by omega) Z3.bn Z3.bm fun r H4 _ s4 hr => ?_
        have Z4 := Z3.same s4
        rw [← hm] at hr
        refine ⟨_, rfl, _, rfl, _, rfl, _, _, rfl, rfl, tn <| use_lt (N := m) rfl Z4.O1.at_ Z4.O2.at_ (by omega) (by omega) (by omega) (by omega) (Z4.bn.to (by decide)) (Z4.bm.to (by decide)) fun r2 H5 _ s5 hr2 => ?_⟩
        have Z5 := Z4.same s5
        refine ⟨.list (intsD (intsOf m (cv (fnL ns) (fnL ms)))), .list (intsD (intsOf m (cv (fnL ns) (fnL ms)))), .lst (SqL.of (s5 _ _ hr)) (ints_dp _), .lst (SqL.of hr2) (ints_dp _), ints_shaped _, ints_shaped _, _, rfl, iteF' (eq_no _) ?_⟩
        refine ⟨_, rfl, _, rfl, tn <| use_times Z5.O1.at_ (.lst Z5.O2.at_) z1 (by omega) z3 (by omega) Z5.bn Z5.bm fun r3 H6 _ s6 hr3 => ?_⟩
        have Z6 := Z5.same s6
        rw [← hm] at hr3
        refine ⟨_, rfl, _, rfl, tn <| use_times Z6.O2.at_ (.lst Z6.O1.at_) z3 (by omega) z1 (by omega) Z6.bm Z6.bn fun r4 H7 _ s7 hr4 => ?_⟩
        rw [Nat.min_comm, ← hm, cv_comm] at hr4
        refine ⟨.list (intsD (intsOf m (cv (fnL ns) (fnL ms)))), .list (intsD (intsOf m (cv (fnL ns) (fnL ms)))), .lst (SqL.of (s7 _ _ hr3)) (ints_dp _), .lst (SqL.of hr4) (ints_dp _), ints_shaped _, ints_shaped _, _, rfl, iteF' (eq_no _) ?_⟩
        exact ⟨rfl, Z6.same s7⟩
      · rintro σ3 H3 ⟨rfl, Z3⟩
        clear Z2
        refine ⟨_, rfl, tn0 <| ⟨d, l, cc, 6, rfl, Z3.W.dr, by decide, by decide, fun kv H4 k0 k1 D4 s4 => ?_⟩⟩
        have Z4 := Z3.sx s4 D4
        obtain ⟨k, rfl⟩ : ∃ k : Nat, kv = (k : Int) := ⟨kv.toNat, by omega⟩
        refine ⟨fun σ' H' => σ' = [x0, some (.ref d), x2, some (.ref q), some (.int (m : Int)), some (.int (k : Int)), x6, x7, x8, x9, x10, some (.ref p), x12] ∧ Two Pt H' d l cc p q ns ms, ?_, ?_⟩
        · refine ⟨_, rfl, _, rfl, tn <| use_pow Z4.O1.at_ z1 (by omega) Z4.bn (by omega) fun r H5 _ s5 hr => ?_⟩
          have Z5 := Z4.same s5
          refine ⟨_, rfl, _, rfl, tn <| use_raised Z5.O1.at_ z1 (by omega) (by omega) (Z5.bn.to (by decide)) ?_ fun r2 H6 _ s6 hr2 => ?_⟩
          · exact fun j n hj hn => bound_pos (B1 := 90) (by decide) Z5.bn z1 (by omega) (by omega) n hn
          · refine ⟨.list (intsD (intsOf ns.length (pw (fnL ns) k))), .list (intsD (intsOf ns.length (pw (fnL ns) k))), .lst (SqL.of (s6 _ _ hr)) (ints_dp _), .lst (SqL.of hr2) (ints_dp _), ints_shaped _, ints_shaped _, _, rfl, iteF' (eq_no _) ?_⟩
            exact ⟨rfl, Z5.same s6⟩
        · rintro σ4 H5 ⟨rfl, Z5⟩
          clear Z3 Z4
          refine ⟨fun σ' H' => (∃ y6, σ' = [x0, some (.ref d), x2, some (.ref q), some (.int (m : Int)), some (.int (k : Int)), y6, x7, x8, x9, x10, some (.ref p), x12]) ∧ Two Pt H' d l cc p q ns ms, ?_, ?_⟩
          · refine ⟨_, rfl, p, _, _, _, rfl, rfl, SqL.of Z5.O1.at_, atI_nat (hat z1), 1, rfl, (by show 2 ≤ sizeLine; decide), fun tp htp => ?_⟩
            have s6 := same_new (o := .lst [.int 1, .int (-1)]) htp
            have Z6 := Z5.same s6
            refine ⟨tp, _, rfl, .inl (SqL.of upd_same), rfl, rfl, _, rfl, ?_⟩
            generalize upd H5 tp (.lst [.int 1, .int (-1)]) = H6 at Z6 ⊢
            by_cases hu : fnL ns 0 = 1 ∨ fnL ns 0 = -1
            · refine iteF' (by rw [if_pos rfl, inV_pm, decide_eq_true hu]; rfl) ?_
              exact ⟨⟨_, rfl⟩, Z6⟩
            · rw [if_pos rfl, inV_pm, decide_eq_false hu]
              refine iteT ?_
              refine ⟨Z6.W.tb, fun H8 eN T8 => ?_⟩
              have Z7 := Z6.ext eN T8
              refine ⟨_, rfl, tn <| use_inv_bad Z7.O1.at_ z1 (by omega) hu fun H9 s9 => ⟨T.mR, fun a ha => ?_⟩⟩
              refine ⟨a, cR, none, _, _, _, rfl, .inl ⟨rfl, upd_same⟩, T.eR, fun u r => r, T.iR, ?_⟩
              have s10 : Same H8 (upd H9 a (ErX (.ref cR) none a)) := s9.trans (same_new ha)
              refine ⟨(by show 1 ≤ sizeLine; decide), fun ck hck => ?_⟩
              have Z8 := Z7.same s10
              have nc := (Z8.W.dr.ne hck).2.2
              have np := ne_of_none Z8.O1.at_ hck
              have nq := ne_of_none Z8.O2.at_ hck
              have C : Own _ d l ck [.bl true] := Own.new Z8.W.dr hck
              have Z9 := Z8.same (same_new (o := .lst [.bl true]) hck)
              clear Z6 Z7 Z8 s10 s9 s6
              generalize upd (upd H9 a (ErX (.ref cR) none a)) ck (.lst [.bl true]) = H11 at C Z9 ⊢
              clear ha hck T8 eN
              refine ⟨_, rfl, .inl ⟨rfl, _, SqL.of C.at_⟩, Z9.W.tb, fun H12 eN T12 => ?_⟩
              have Z10 := Z9.ext eN T12
              have C2 := C.ext eN
              refine ⟨_, rfl, 1, rfl, tn <| use_pow_bad Z10.O1.at_ z1 (by omega) (by decide) (by decide) hu fun H13 s13 => ⟨T.mR, fun a ha => ?_⟩⟩
              refine ⟨a, cR, none, _, _, _, rfl, .inl ⟨rfl, upd_same⟩, T.eR, fun u r => r, T.iR, ?_⟩
              have s14 := s13.trans (same_new (o := ErX (.ref cR) none a) ha)
              have Z11 := Z10.same s14
              have C3 := C2.same s14
              refine ⟨ck, _, _, rfl, rfl, C3.at_, (by decide), ?_⟩
              have Z12 : Two Pt (upd _ ck (.lst ([.bl true] ++ [.bl true]))) d l cc p q ns ms := ⟨Z11.W.upd C3.at_ C3.nd C3.nl nc, Z11.O1.upd np, Z11.O2.upd nq, Z11.l1, Z11.l2, Z11.l3, Z11.l4, Z11.bn, Z11.bm⟩
              refine ⟨_, rfl, ck, _, rfl, .inl (SqL.of upd_same), rfl, rfl, _, rfl, iteF' rfl ?_⟩
              exact ⟨⟨_, rfl⟩, Z12⟩
          · rintro σ5 H6 ⟨⟨y6, rfl⟩, Z6⟩
            clear Z5
            refine ⟨_, rfl, 1, rfl, (by show 2 ≤ sizeLine; decide), fun z hz => ?_⟩
            have Oz : Own _ d l z [.int 1, .int (-1)] := Own.new Z6.W.dr hz
            have Z7 := Z6.same (same_new (o := .lst [.int 1, .int (-1)]) hz)
            refine ⟨d, l, cc, z, _, rfl, Z7.W.dr, fun H' s' => SqL.of (Oz.sx s').at_, by simp, (by show 2 ≤ 1000; decide), fun uv H8 huv D8 s8 => ?_⟩
            have Z8 := Z7.sx s8 D8
            obtain ⟨u, rfl, hu⟩ : ∃ u : Int, uv = .int u ∧ (u = 1 ∨ u = -1) := by
              simp only [List.mem_cons, List.not_mem_nil, or_false] at huv
              rcases huv with rfl | rfl
              · exact ⟨_, rfl, .inl rfl⟩
              · exact ⟨_, rfl, .inr rfl⟩
            clear Z6 Z7 Oz s8 huv D8 hz
            refine ⟨(by show 1 ≤ sizeLine; decide), fun tp htp => ?_⟩
            have Z9 := Z8.same (same_new (o := .lst [.int u]) htp)
            have Ot : Own _ d l tp [.int u] := Own.new Z8.W.dr htp
            generalize upd H8 tp (.lst [.int u]) = H9 at Z9 Ot ⊢
            refine ⟨_, rfl, 1, rfl, 9, rfl, p, _, rfl, SqL.of Z9.O1.at_, fun sp hsp => ?_⟩
            obtain ⟨ws, ew, lw, mw⟩ := cut19 ns
            rw [ew]
            have lus : (u :: ws).length = ws.length + 1 := rfl
            obtain ⟨us, eus⟩ : ∃ us : List Int, us = u :: ws := ⟨_, rfl⟩
            refine ⟨tp, sp, _, _, rfl, rfl, same_new hsp _ _ Ot.at_, upd_same, (by rw [List.length_map]; show 1 + ws.length ≤ sizeLine; rw [sizeLine_eq]; omega), fun r7 hr7 => ?_⟩
            have Z10 := Z9.same (same_new (o := .lst (ws.map V.int)) hsp)
            have e7 : [V.int u] ++ ws.map V.int = us.map V.int := by
              rw [eus]
              rfl
            rw [e7]
            have O7 : Own _ d l r7 (us.map V.int) := Own.new Z10.W.dr hr7
            have W7 := (Z10.same (same_new (o := .lst (us.map V.int)) hr7)).W
            have bu : Bd us := bd_of fun z hz => by
              rw [eus] at hz
              rcases List.mem_cons.mp hz with rfl | hz
              · rcases hu with rfl | rfl
                · decide
                · decide
              · exact Z9.bn.mem (mw z hz)
            have l1 : 1 ≤ us.length := by
              rw [eus, lus]
              omega
            have l2 : us.length ≤ 9 := by
              rw [eus, lus]
              omega
            have f0 : fnL us 0 = u := by
              rw [eus]
              rfl
            generalize upd (upd H9 sp (.lst (ws.map V.int))) r7 (.lst (us.map V.int)) = H10 at O7 W7 ⊢
            clear Z8 Z9 Z10 Ot hr7 hsp htp e7 lus lw mw ew eus
            refine ⟨_, rfl, tn <| use_inv O7.at_ l1 l2 bu (by rw [f0]; exact hu) fun r8 H11 h8 s11 hr8 => ?_⟩
            have O8 : Own H11 d l r8 _ := ⟨hr8, (W7.dr.ne h8).1, (W7.dr.ne h8).2.1⟩
            have W11 := W7.same s11
            have O7' := O7.same s11
            rw [f0] at O8
            clear hr8 W7 O7 h8 s11
            refine ⟨fun σ' H' => σ' = [x0, some (.ref d), x2, some (.ref q), some (.int (m : Int)), some (.int (k : Int)), y6, some (.ref r7), some (.ref r8), x9, x10, some (.ref p), x12] ∧ Wd Pt H' d l cc ∧ Own H' d l r7 (us.map V.int) ∧ Own H' d l r8 (rowOf us.length (inv (fnL us) u)), ?_, ?_⟩
            · have lu : (us.map V.int).length = us.length := List.length_map _
              have e5 : (((us.map V.int).length : Int) - 1).toNat = us.length - 1 := by omega
              have bb : ∀ i, (fnL ((List.range us.length).map (inv (fnL us) u)) i).natAbs < 2 ^ 400000 := fun i => by
                rw [fnL_row]
                split
                · rename_i hi
                  exact Nat.lt_of_le_of_lt (inv_small (by rcases hu with rfl | rfl <;> rfl) (bu.to (by decide)) i (by omega)) (Nat.pow_lt_pow_right (by decide) (by decide))
                · exact Nat.pow_pos (by decide)
              have lb8 : ((List.range us.length).map (inv (fnL us) u)).length = us.length := by rw [List.length_map, List.length_range]
              refine ⟨_, rfl, _, _, rfl, .inl ⟨_, SqL.of O8.at_, rfl⟩, _, rfl, _, _, rfl, .inl ⟨_, SqL.of O7'.at_, rfl⟩, rfl, _, rfl, iteF' (by rw [row_len, lu]; simp) ?_⟩
              refine ⟨_, rfl, _, rfl, _, rfl, _, _, rfl, .inl ⟨_, SqL.of O7'.at_, rfl⟩, _, _, rfl, rfl, tn <| use_lt (N := us.length) (ms := (List.range us.length).map (inv (fnL us) u)) (by rw [lu]) O7'.at_ O8.at_ l1 (by omega) (Nat.le_refl _) (by rw [lb8]; exact Nat.le_refl _) (bu.to (by decide)) bb fun r H12 _ s12 hr => ?_⟩
              have W12 := W11.same s12
              have O7a := O7'.same s12
              have O8a := O8.same s12
              have hr' : H12 r = some (.lst (rowOf us.length one)) := by
                rw [hr]
                congr 2
                refine row_ext fun n hn => ?_
                have e1 : cv (fnL us) (fnL ((List.range us.length).map (inv (fnL us) u))) n = cv (fnL us) (inv (fnL us) u) n := cv_congr (N := us.length) (fun _ _ => rfl) (fun i hi => by rw [fnL_row, if_pos hi]) n hn
                rw [e1, cv_inv (fnL us) f0 (by rcases hu with rfl | rfl <;> rfl)]
              refine ⟨(by show 1 ≤ sizeLine; decide), fun p1 h1 => ⟨(by show 1 ≤ sizeLine; decide), fun p2 h2 => ?_⟩⟩
              have k1' := same_new (o := .lst [V.int 1]) h1
              have k2' := same_new (o := .lst [V.int 0]) h2
              refine ⟨_, rfl, _, _, rfl, .inl ⟨_, SqL.of ((k1'.trans k2') _ _ O7a.at_), rfl⟩, _, _, rfl, rfl, p2, _, _, rfl, rfl, upd_same, by omega, by omega, ?_, fun p3 h3 => ?_⟩
              · show 1 * _ ≤ sizeLine
                rw [sizeLine_eq]
                omega
              have k3' := same_new (o := .lst (List.replicate (((us.map V.int).length : Int) - 1).toNat [V.int 0]).flatten) h3
              refine ⟨p1, p3, [V.int 1], zer (us.length - 1), rfl, rfl, (k2'.trans k3') _ _ upd_same, ?_, ?_, fun p4 h4 => ?_⟩
              · show (upd _ p3 (.lst (List.replicate (((us.map V.int).length : Int) - 1).toNat [V.int 0]).flatten)) p3 = _
                rw [upd_same, rep1, e5]
                rfl
              · show 1 + (List.replicate _ _).length ≤ sizeLine
                rw [List.length_replicate, sizeLine_eq]
                omega
              have s4' := (k1'.trans (k2'.trans k3')).trans (same_new (o := .lst ([V.int 1] ++ zer (us.length - 1))) h4)
              refine ⟨.list (intsD (intsOf us.length one)), .list (intsD (intsOf us.length one)), .lst (SqL.of (s4' _ _ hr')) (ints_dp _), .lst (SqL.of (by
                rw [upd_same]
                show _ = some (HO.lst (rowOf us.length one))
                rw [row_one l1]
                rfl)) (ints_dp _), ints_shaped _, ints_shaped _, _, rfl, iteF' (eq_no _) ?_⟩
              exact ⟨rfl, W12.same s4', O7a.same s4', O8a.same s4'⟩
            · rintro σ6 H12 ⟨rfl, W12, O9, O10⟩
              have lu : (us.map V.int).length = us.length := List.length_map _
              have lb8 : ((List.range us.length).map (inv (fnL us) u)).length = us.length := by rw [List.length_map, List.length_range]
              have bi : ∀ i, i < us.length → (inv (fnL us) u i).natAbs < 2 ^ 400000 := fun i hi => Nat.lt_of_le_of_lt (inv_small (by rcases hu with rfl | rfl <;> rfl) (bu.to (by decide)) i (by omega)) (Nat.pow_lt_pow_right (by decide) (by decide))
              have bb : ∀ i, (fnL ((List.range us.length).map (inv (fnL us) u)) i).natAbs < 2 ^ 400000 := fun i => by
                rw [fnL_row]
                split
                · rename_i hi
                  exact bi i hi
                · exact Nat.pow_pos (by decide)
              have hpw : ∀ j n, n < us.length → pw (fnL ((List.range us.length).map (inv (fnL us) u))) j n = pw (inv (fnL us) u) j n := fun j n hn => pw_congr (N := us.length) (fun i hi => by rw [fnL_row, if_pos hi]) j n hn
              -- row_power(unit, -k)
              refine ⟨_, rfl, _, rfl, (k : Int), rfl, tn <| use_pow_neg rfl O9.at_ l1 l2 bu (by omega) (by rw [f0]; exact hu) fun r H13 _ s13 hr => ?_⟩
              rw [f0] at hr
              have W13 := W12.same s13
              have O9a := O9.same s13
              have O10a := O10.same s13
              refine ⟨_, rfl, _, rfl, tn <| use_raised (ns := (List.range us.length).map (inv (fnL us) u)) O10a.at_ (by rw [lb8]; exact l1) (by rw [lb8]; omega) (by omega) bb (fun j n hj hn => by
                rw [lb8] at hn
                rw [hpw j n hn]
                exact bound_neg (by rcases hu with rfl | rfl <;> rfl) (bu.to (by decide)) l2 (by omega) n hn) fun r2 H14 _ s14 hr2 => ?_⟩
              rw [lb8, row_ext (fun n hn => hpw k n hn)] at hr2
              have W14 := W13.same s14
              have O9b := O9a.same s14
              refine ⟨.list (intsD (intsOf us.length (pw (inv (fnL us) u) k))), .list (intsD (intsOf us.length (pw (inv (fnL us) u) k))), .lst (SqL.of (s14 _ _ hr)) (ints_dp _), .lst (SqL.of hr2) (ints_dp _), ints_shaped _, ints_shaped _, _, rfl, iteF' (eq_no _) ?_⟩
              -- row_power(k=1, row=unit)
              refine ⟨_, rfl, tn <| use_pow (k := 1) O9b.at_ l1 (by omega) bu (by decide) fun r3 H15 _ s15 hr3 => ?_⟩
              have W15 := W14.same s15
              have O9c := O9b.same s15
              have e1 : rowOf us.length (pw (fnL us) 1) = us.map V.int := by
                rw [← row_self us]
                refine row_ext fun n _ => ?_
                show cv one (fnL us) n = _
                rw [cv_comm, cv_one]
              rw [e1] at hr3
              refine ⟨_, rfl, .list (intsD us), .list (intsD us), .lst (SqL.of hr3) (ints_dp _), .lst (SqL.of O9c.at_) (ints_dp _), ints_shaped _, ints_shaped _, _, rfl, iteF' (eq_no _) ?_⟩
              -- row_power(unit, 0)
              refine ⟨_, rfl, tn0 <| use_pow (k := 0) O9c.at_ l1 (by omega) bu (by decide) fun r4 H16 _ s16 hr4 => ?_⟩
              have W16 := W15.same s16
              have O9d := O9c.same s16
              refine ⟨_, rfl, tn0 <| use_raised (k := 0) O9d.at_ l1 (by omega) (by decide) (bu.to (by decide)) (fun j n hj hn => bound_pos (B1 := 90) (by decide) bu l1 (by omega) (by omega) n hn) fun r5 H17 _ s17 hr5 => ?_⟩
              refine ⟨.list (intsD (intsOf us.length (pw (fnL us) 0))), .list (intsD (intsOf us.length (pw (fnL us) 0))), .lst (SqL.of (s17 _ _ hr4)) (ints_dp _), .lst (SqL.of hr5) (ints_dp _), ints_shaped _, ints_shaped _, _, rfl, iteF' (eq_no _) ?_⟩
              exact fin _ _ ⟨_, _, _, _, _, _, _, _, _, _, _, _, rfl⟩ (W16.same s17)
end
end K00

set_option Elab.async false
set_option linter.all false
set_option maxRecDepth 100000
set_option maxHeartbeats 4000000
set_option pp.maxSteps 3000
set_option exponentiation.threshold 500000
namespace K00
open PySem PySem.Spec PyProof.Rows L2 Dr Xv LamX Ps
abbrev tailB : List Stmt := (defBody sLaw).drop 2
section
variable {H H' : Hp} {d l cc p Pt : Addr} {cN cR : Addr} {Q : VK} {E : XK}
/-- a value that is no row -/
inductive BadV (H : Hp) (d l : Addr) : V → Prop
  | non : BadV H d l .non
  | int (i : Int) : BadV H d l (.int i)
  | str (x : Str) : BadV H d l (.str x)
  | lst {a : Addr} {xs : List V} : OwnO H d l a (.lst xs) → isRow (some xs) = false → xs.length < sizeLine → (∀ v ∈ xs, ∀ H, PV H v) → BadV H d l (.ref a)
  | tup {a : Addr} : OwnO H d l a (.tup []) → BadV H d l (.ref a)
  | dct {a : Addr} {kvs : List (Key × V)} : OwnO H d l a (.dK kvs) → BadV H d l (.ref a)
theorem BadV.mono {v : V} (B : BadV H d l v) (f : ∀ a o, v = .ref a → OwnO H d l a o → OwnO H' d l a o) : BadV H' d l v := by
  cases B with
  | non => exact .non
  | int i => exact .int i
  | str x => exact .str x
  | lst O h1 h2 h3 => exact .lst (f _ _ rfl O) h1 h2 h3
  | tup O => exact .tup (f _ _ rfl O)
  | dct O => exact .dct (f _ _ rfl O)
theorem BadV.out {v : V} (B : BadV H d l v) : ∃ o, Items H v o ∧ short o ∧ AllPV H o ∧ isRow o = false := by
  cases B with
  | non => exact ⟨none, .non, fun _ e => (nomatch e), fun _ e => (nomatch e), rfl⟩
  | int i => exact ⟨none, .int i, fun _ e => (nomatch e), fun _ e => (nomatch e), rfl⟩
  | str x => exact ⟨none, .str x, fun _ e => (nomatch e), fun _ e => (nomatch e), rfl⟩
  | lst O h1 h2 h3 => exact ⟨some _, .lst O.at_, fun _ e => (by cases e; exact h2), fun _ e v hv => (by cases e; exact h3 v hv H), h1⟩
  | tup O => exact ⟨some [], .tup O.at_, fun _ e => (by cases e; decide), fun _ e v hv => (by cases e; cases hv), rfl⟩
  | dct O => exact ⟨none, .dK O.at_, fun _ e => (nomatch e), fun _ e => (nomatch e), rfl⟩
def OddV (v : V) : Prop := (∀ H, PV H v) ∧ within v (-60) 60 = false
theorem OddV.no {v : V} {k : Int} (h : OddV v) (e : v = .int k) (h1 : -60 ≤ k) (h2 : k ≤ 60) : False := by
  have z := h.2
  rw [e, within_yes h1 h2] at z
  cases z
theorem isrow_bad {v : V} (B : BadV H d l v) (k : ∀ H', Same H H' → Q (.bl false) H') : spIsRow [v] H Q E := by
  obtain ⟨o, h1, h2, h3, h4⟩ := B.out
  exact ⟨v, o, rfl, h1, h2, h3, by rw [h4]; exact k⟩
theorem plus_bad {v : V} (B : BadV H d l v) (q : ∀ H', Same H H' → E (.ref cR) none H') : spPlus cR [v, v] H Q E := by
  obtain ⟨o, h1, h2, h3, h4⟩ := B.out
  have no : ¬ isRow o = true := fun z => by
    rw [h4] at z
    cases z
  exact ⟨v, v, o, o, rfl, h1, h1, h2, h2, h3, h3, fun _ => q, fun z => absurd z no, fun _ _ _ _ z => absurd z no⟩
theorem times_bad {v : V} {ns : List Int} (hp : H p = some (.lst (ns.map V.int))) (l1 : 1 ≤ ns.length) (l2 : ns.length ≤ 3001) (B : BadV H d l v) (q : ∀ H', Same H H' → E (.ref cR) none H') : spTimes cR [.ref p, v] H Q E := by
  obtain ⟨o, h1, h2, h3, h4⟩ := B.out
  have no : ¬ isRow o = true := fun z => by
    rw [h4] at z
    cases z
  exact ⟨_, v, _, o, rfl, .lst hp, h1, short_ints l2, h2, pv_ints _, h3, fun z => (by rw [row_ints l1 l2] at z; cases z), fun _ _ => q, fun _ _ _ _ _ z => absurd z no⟩
theorem inv_bad {v : V} (B : BadV H d l v) (q : ∀ H', Same H H' → E (.ref cR) none H') : spInv cR [v] H Q E := by
  obtain ⟨o, h1, h2, h3, h4⟩ := B.out
  have no : ¬ isRow o = true := fun z => by
    rw [h4] at z
    cases z
  exact ⟨v, o, rfl, h1, fun _ _ z => absurd z no, h2, h3, fun _ => q, fun _ _ _ => q, fun _ _ z => absurd z no⟩
theorem pow_bad {v m : V} (B : BadV H d l v) (O : OddV m) (q : ∀ H', Same H H' → E (.ref cR) none H') : spPow cN cR [v, m] H Q E := by
  obtain ⟨o, h1, h2, h3, h4⟩ := B.out
  have no : ¬ isRow o = true := fun z => by
    rw [h4] at z
    cases z
  exact ⟨v, m, o, rfl, h1, fun _ _ z => absurd z no, h2, h3, O.1 H, fun _ => q, fun z => absurd z no, fun _ _ _ _ _ _ _ => q, fun _ _ _ z => absurd z no, fun _ _ _ z => absurd z no⟩
theorem pow_odd {m : V} {ns : List Int} (hp : H p = some (.lst (ns.map V.int))) (l1 : 1 ≤ ns.length) (l2 : ns.length ≤ 3001) (O : OddV m) (q : ∀ H', Same H H' → E (.ref cN) none H') : spPow cN cR [.ref p, m] H Q E :=
  ⟨_, m, _, rfl, .lst hp, fun a e _ => ⟨_, by cases e; exact hp⟩, short_ints l2, pv_ints _, O.1 H, fun z => (by rw [row_ints l1 l2] at z; cases z), fun _ _ => q, fun _ e _ em h1 h2 => (O.no em h1 (by omega)).elim, fun _ k _ _ em h1 => (O.no em (by omega) (by omega)).elim, fun _ k _ _ em h1 h2 => (O.no em (by omega) (by omega)).elim⟩
/-- the checks so far -/
structure ChkS (Pt : Addr) (H : Hp) (d l cc ck : Addr) (n : Nat) (bad : V) : Prop where
  W : Wd Pt H d l cc
  O : Own H d l ck (List.replicate n (.bl true))
  nc : ck ≠ cc
  B : BadV H d l bad
  nb : ∀ a, bad = .ref a → a ≠ ck
variable {ck : Addr} {n : Nat} {bad : V}
theorem ChkS.same (C : ChkS Pt H d l cc ck n bad) (s : Same H H') : ChkS Pt H' d l cc ck n bad := ⟨C.W.same s, C.O.same s, C.nc, C.B.mono fun _ _ _ O => O.same s, C.nb⟩
theorem ChkS.sx (C : ChkS Pt H d l cc ck n bad) (s : SameX d l H H') (D : Draw H' d l cc) : ChkS Pt H' d l cc ck n bad := ⟨C.W.sx s D, C.O.sx s, C.nc, C.B.mono fun _ _ _ O => O.sx s, C.nb⟩
theorem ChkS.ext (C : ChkS Pt H d l cc ck n bad) (s : ExtN H H') (T : Tabs [(Pt, qL)] H') : ChkS Pt H' d l cc ck n bad := ⟨⟨Draw.ext C.W.dr s, T⟩, C.O.ext s, C.nc, C.B.mono fun _ _ _ O => O.ext s, C.nb⟩
theorem ChkS.add (C : ChkS Pt H d l cc ck n bad) : ChkS Pt (upd H ck (.lst (List.replicate n (.bl true) ++ [.bl true]))) d l cc ck (n + 1) bad := by
  refine ⟨C.W.upd C.O.at_ C.O.nd C.O.nl C.nc, ⟨?_, C.O.nd, C.O.nl⟩, C.nc, C.B.mono fun a xs e O => O.upd (C.nb a e), C.nb⟩
  rw [upd_same, List.replicate_succ']
end
end K00

set_option Elab.async false
set_option linter.all false
set_option maxRecDepth 100000
set_option maxHeartbeats 4000000
set_option pp.maxSteps 3000
set_option exponentiation.threshold 500000
namespace K00
open PySem PySem.Spec PyProof.Rows L2 Dr Xv LamX Ps
section
variable {P : Program} {w : World} {K : PySem.W.Frag} {mg : Str → Option Value} {base : Heap} {cS cN cR : Addr} {f c Pt : Addr} {A : Around} {outer : List Env} {s : Shared} {H : Hp} {E : XK}
theorem tail_ok (G : Fns P w K mg base cS cN cR) (T : Txt K mg cS cN cR) (TB : TabB base mg c Pt) (hr : Room 9 (XL P w K mg base f c A outer s H E).A) :
    ∃ t, PSs (XL P w K mg base f c A outer s H E) tailB t ∧ ∀ (D : Ends) (σ : L2.St) (H0 : Hp) (d l cc : Addr), Slots d σ → Wd Pt H0 d l cc → (∀ H', D.rt (.bl true) H') → t D σ H0 := by
  have hr8 : Room 8 (XL P w K mg base f c A outer s H E).A := hr.mono (by decide)
  have hr4 : Room 4 (XL P w K mg base f c A outer s H E).A := hr.mono (by decide)
  have hr3 : Room 3 (XL P w K mg base f c A outer s H E).A := hr.mono (by decide)
  refine ⟨_, pss_cons (ps_set (i := 9) scLaw.nd rfl (Or.inr rfl) (pe_call G.GP hr3 rfl G.gP G.kP G.bP .nil pass0 (pa_cons (pv 1) (pa_cons (pe_lst (pa_cons pe_non (pa_cons pe_int (pa_cons (pe_lst pa_nil) (pa_cons (pe_tup pa_nil) (pa_cons (pe_lst (pa_cons pe_int (pa_cons pe_bl pa_nil))) (pa_cons (pe_lst (pa_cons pe_int (pa_cons pe_str pa_nil)))
        (pa_cons (pe_disp (pps_cons pe_int pe_int pps_nil) rfl rfl (by decide) (by decide)) (pa_cons (pe_lst (pa_cons pe_non pa_nil)) (pa_cons pe_str (pa_cons (pe_op op_rep (pe_lst (pa_cons pe_int pa_nil)) pe_int) pa_nil))))))))))) pa_nil))))
    (pss_cons (ps_set (i := 10) scLaw.nd rfl (Or.inr rfl) (pe_call G.GP hr3 rfl G.gP G.kP G.bP .nil pass0 (pa_cons (pv 1) (pa_cons (pe_lst (pa_cons pe_non (pa_cons pe_int (pa_cons (pe_un un_neg pe_int) (pa_cons pe_bl (pa_cons pe_str pa_nil)))))) pa_nil))))
    (pss_cons (ps_set (i := 6) scLaw.nd rfl (Or.inl rfl) (pe_lst (pa_cons (pe_cmpR op_is_bl (pe_callK0 G.GIr hr4 rfl G.gIr G.kIr G.hIr pass0 (pk_cons (pv 9) pk_nil)) pe_bl (nomark _)) pa_nil)))
    (pss_cons (ps_expr (pe_bm PySem.F.plainAttrs_list PySem.F.slot_list_append PySem.F.type_list_append mt_append (pv 6) (pa_cons (pe_callB call_isC (by rfl) G.isi0 boot_isinstance (pa_cons (pe_law (t := fun E' => tCall (spPlus cR) [] E' (tCons (tVar 9) (tCons (tVar 9) tNil))) G T TB hr8 (by decide +kernel) rfl
          (fun A' outer' s' H' E' f' c' hr' => pe_call G.GPl hr' rfl G.gPl G.kPl G.bPl .nil (passes_call (takes_of rfl rfl rfl rfl) (fun _ _ _ _ h => h)) (pa_cons (pv 9) (pa_cons (pv 9) pa_nil)))) (pa_cons (pe_glob (v := .ref cR) rfl T.gR rfl) pa_nil))) pa_nil)))
    (pss_cons (ps_expr (pe_bm PySem.F.plainAttrs_list PySem.F.slot_list_append PySem.F.type_list_append mt_append (pv 6) (pa_cons (pe_callB call_isC (by rfl) G.isi0 boot_isinstance (pa_cons (pe_law (t := fun E' => tCall (spTimes cR) [] E' (tCons (tLst (tCons (tC (.int 1)) tNil)) (tCons (tVar 9) tNil))) G T TB hr8 (by decide +kernel) rfl
          (fun A' outer' s' H' E' f' c' hr' => pe_call G.GTi hr' rfl G.gTi G.kTi G.bTi .nil (passes_call (takes_of rfl rfl rfl rfl) (fun _ _ _ _ h => h)) (pa_cons (pe_lst (pa_cons pe_int pa_nil)) (pa_cons (pv 9) pa_nil)))) (pa_cons (pe_glob (v := .ref cR) rfl T.gR rfl) pa_nil))) pa_nil)))
    (pss_cons (ps_expr (pe_bm PySem.F.plainAttrs_list PySem.F.slot_list_append PySem.F.type_list_append mt_append (pv 6) (pa_cons (pe_callB call_isC (by rfl) G.isi0 boot_isinstance (pa_cons (pe_law (t := fun E' => tCall (spInv cR) [] E' (tCons (tVar 9) tNil)) G T TB hr8 (by decide +kernel) rfl
          (fun A' outer' s' H' E' f' c' hr' => pe_call G.GIn hr' rfl G.gIn G.kIn G.bIn .nil (passes_call (takes_of rfl rfl rfl rfl) (fun _ _ _ _ h => h)) (pa_cons (pv 9) pa_nil))) (pa_cons (pe_glob (v := .ref cR) rfl T.gR rfl) pa_nil))) pa_nil)))
    (pss_cons (ps_expr (pe_bm PySem.F.plainAttrs_list PySem.F.slot_list_append PySem.F.type_list_append mt_append (pv 6) (pa_cons (pe_callB call_isC (by rfl) G.isi0 boot_isinstance (pa_cons (pe_law (t := fun E' => tCall (spPow cN cR) [] E' (tCons (tVar 9) (tCons (tVar 10) tNil))) G T TB hr8 (by decide +kernel) rfl
          (fun A' outer' s' H' E' f' c' hr' => pe_call G.GPo hr' rfl G.gPo G.kPo G.bPo .nil (passes_call (takes_of rfl rfl rfl rfl) (fun _ _ _ _ h => h)) (pa_cons (pv 9) (pa_cons (pv 10) pa_nil)))) (pa_cons (pe_glob (v := .ref cR) rfl T.gR rfl) pa_nil))) pa_nil)))
    (pss_cons (ps_expr (pe_bm PySem.F.plainAttrs_list PySem.F.slot_list_append PySem.F.type_list_append mt_append (pv 6) (pa_cons (pe_callB call_isC (by rfl) G.isi0 boot_isinstance (pa_cons (pe_law (t := fun E' => tCall (spPow cN cR) [] E' (tCons (tLst (tCons (tC (.int 2)) tNil)) (tCons (tVar 10) tNil))) G T TB hr8 (by decide +kernel) rfl
          (fun A' outer' s' H' E' f' c' hr' => pe_call G.GPo hr' rfl G.gPo G.kPo G.bPo .nil (passes_call (takes_of rfl rfl rfl rfl) (fun _ _ _ _ h => h)) (pa_cons (pe_lst (pa_cons pe_int pa_nil)) (pa_cons (pv 10) pa_nil)))) (pa_cons (pe_glob (v := .ref cN) rfl T.gN rfl) pa_nil))) pa_nil)))
    (pss_one (ps_ret (pe_cmpR op_notIn_seq pe_bl (pv 6) (by rfl))))))))))), ?_⟩
  rintro D σ H0 d l cc ⟨x0, x2, x3, x4, x5, x6, x7, x8, x9, x10, x11, x12, rfl⟩ W0 q
  -- bad
  refine ⟨_, rfl, (by show 0 ≤ sizeLine; decide), fun a1 h1 => ⟨(by show 0 ≤ sizeLine; decide), fun a2 h2 => ⟨(by show 2 ≤ sizeLine; decide), fun a3 h3 => ⟨(by show 2 ≤ sizeLine; decide), fun a4 h4 => ?_⟩⟩⟩⟩
  have O1 : OwnO _ d l a1 (.lst []) := OwnO.new W0.dr h1 (fun _ e => nomatch e)
  have W1 := W0.same (same_new (o := .lst []) h1)
  have O2 : OwnO _ d l a2 (.tup []) := OwnO.new W1.dr h2 (fun _ e => nomatch e)
  have W2 := W1.same (same_new (o := .tup []) h2)
  have O3 : OwnO _ d l a3 (.lst [.int 1, .bl true]) := OwnO.new W2.dr h3 (fun _ e => nomatch e)
  have W3 := W2.same (same_new (o := .lst [.int 1, .bl true]) h3)
  have O4 : OwnO _ d l a4 (.lst [.int 1, .str "1"]) := OwnO.new W3.dr h4 (fun _ e => nomatch e)
  have W4 := W3.same (same_new (o := .lst [.int 1, .str "1"]) h4)
  have O3a := O3.same (same_new (o := .lst [.int 1, .str "1"]) h4)
  have O2a := (O2.same (same_new (o := .lst [.int 1, .bl true]) h3)).same (same_new (o := .lst [.int 1, .str "1"]) h4)
  have O1a := ((O1.same (same_new (o := .tup []) h2)).same (same_new (o := .lst [.int 1, .bl true]) h3)).same (same_new (o := .lst [.int 1, .str "1"]) h4)
  clear O1 O2 O3 W1 W2 W3
  generalize upd _ a4 (.lst [.int 1, .str "1"]) = H4 at O1a O2a O3a O4 W4 ⊢
  clear h1 h2 h3 h4
  refine fun a5 h5 => ⟨upd_same, [(.inl 1, .int 1)], rfl, (by decide), ?_⟩
  have s5 : Same H4 (upd (upd H4 a5 (.dK [])) a5 (.dK (mergeK [] [(.inl 1, .int 1)]))) := fun b o e => by
    rw [upd_ne (ne_of_none e h5), upd_ne (ne_of_none e h5)]
    exact e
  have n5 := W4.dr.ne h5
  have O5 : OwnO (upd (upd H4 a5 (.dK [])) a5 (.dK (mergeK [] [(.inl 1, .int 1)]))) d l a5 (.dK (mergeK [] [(.inl 1, .int 1)])) := ⟨upd_same, n5.1, n5.2.1, fun _ e => nomatch e⟩
  have W5 := W4.same s5
  have O1b := O1a.same s5
  have O2b := O2a.same s5
  have O3b := O3a.same s5
  have O4b := O4.same s5
  generalize upd (upd H4 a5 (.dK [])) a5 (.dK (mergeK [] [(.inl 1, .int 1)])) = H5 at O1b O2b O3b O4b O5 W5 ⊢
  clear O1a O2a O3a O4 s5 n5 h5 W4
  refine ⟨(by show 1 ≤ sizeLine; decide), fun a6 h6 => ⟨(by show 1 ≤ sizeLine; decide), fun a7 h7 => ⟨a7, _, _, rfl, rfl, upd_same, by decide, by decide, (by show 1 * 3002 ≤ sizeLine; decide), fun a8 h8 => ⟨(by show 10 ≤ sizeLine; decide), fun z hz => ?_⟩⟩⟩⟩
  have O6 : OwnO _ d l a6 (.lst [.non]) := OwnO.new W5.dr h6 (fun _ e => nomatch e)
  have W6 := W5.same (same_new (o := .lst [.non]) h6)
  have W7 := W6.same (same_new (o := .lst [.int 0]) h7)
  have O8 : OwnO _ d l a8 (.lst (List.replicate (3002 : Int).toNat [V.int 0]).flatten) := OwnO.new W7.dr h8 (fun _ e => nomatch e)
  have W8 := W7.same (same_new (o := (.lst (List.replicate (3002 : Int).toNat [V.int 0]).flatten)) h8)
  have Oz : Own _ d l z [.non, .int 5, .ref a1, .ref a2, .ref a3, .ref a4, .ref a5, .ref a6, .str "1", .ref a8] := Own.new W8.dr hz
  have W9 := W8.same (same_new (o := .lst [.non, .int 5, .ref a1, .ref a2, .ref a3, .ref a4, .ref a5, .ref a6, .str "1", .ref a8]) hz)
  have sz := same_new (o := .lst [.non, .int 5, .ref a1, .ref a2, .ref a3, .ref a4, .ref a5, .ref a6, .str "1", .ref a8]) hz
  have s78 := ((same_new (o := .lst [.int 0]) h7).trans (same_new (o := (.lst (List.replicate (3002 : Int).toNat [V.int 0]).flatten)) h8)).trans sz
  have s68 := (same_new (o := .lst [.non]) h6).trans s78
  have p1 := O1b.same s68
  have p2 := O2b.same s68
  have p3 := O3b.same s68
  have p4 := O4b.same s68
  have p5 := O5.same s68
  have p6 := O6.same s78
  have p8 := O8.same sz
  refine ⟨d, l, cc, z, [.non, .int 5, .ref a1, .ref a2, .ref a3, .ref a4, .ref a5, .ref a6, .str "1", .ref a8], rfl, W9.dr, fun H' s' => SqL.of (Oz.sx s').at_, by simp, (by show 10 ≤ 1000; decide), fun bad H10 hbad D10 s10 => ?_⟩
  have W10 := W9.sx s10 D10
  have B10 : BadV H10 d l bad := by
    simp only [List.mem_cons, List.not_mem_nil, or_false] at hbad
    rcases hbad with rfl | rfl | rfl | rfl | rfl | rfl | rfl | rfl | rfl | rfl
    · exact .non
    · exact .int _
    · exact .lst (p1.sx s10) rfl (by decide) (fun v hv => nomatch hv)
    · exact .tup (p2.sx s10)
    · exact .lst (p3.sx s10) rfl (by decide) (fun v hv H => by
        simp only [List.mem_cons, List.not_mem_nil, or_false] at hv
        rcases hv with rfl | rfl
        · exact .int _
        · exact .bl _)
    · exact .lst (p4.sx s10) rfl (by decide) (fun v hv H => by
        simp only [List.mem_cons, List.not_mem_nil, or_false] at hv
        rcases hv with rfl | rfl
        · exact .int _
        · exact .str _)
    · exact .dct (p5.sx s10)
    · exact .lst (p6.sx s10) rfl (by decide) (fun v hv H => by
        rw [List.mem_singleton.mp hv]
        exact .non)
    · exact .str _
    · have z8 := p8.sx s10
      rw [rep1] at z8
      refine .lst z8 ?_ (by rw [List.length_replicate, sizeLine_eq]; decide) (fun v hv H => by
        rw [(List.mem_replicate.mp hv).2]
        exact .int _)
      show ((List.replicate 3002 (V.int 0)).all isNum && (decide (1 ≤ ((List.replicate 3002 (V.int 0)).length : Int)) && decide (((List.replicate 3002 (V.int 0)).length : Int) ≤ 3001))) = false
      rw [List.length_replicate, decide_eq_false (by decide : ¬ ((3002 : Nat) : Int) ≤ 3001), Bool.and_false, Bool.and_false]
  clear W5 W6 W7 W8 W9 O1b O2b O3b O4b O5 O6 O8 Oz sz s78 s68 p1 p2 p3 p4 p5 p6 p8 s10 hbad D10 hz h6 h7 h8
  -- odd
  refine ⟨_, rfl, 61, rfl, (by show 5 ≤ sizeLine; decide), fun z hz => ?_⟩
  have Oz : Own _ d l z [.non, .int 61, .int (-61), .bl true, .str "1"] := Own.new W10.dr hz
  have W11 := W10.same (same_new (o := .lst [.non, .int 61, .int (-61), .bl true, .str "1"]) hz)
  have B11 := B10.mono (H' := upd H10 z (.lst [.non, .int 61, .int (-61), .bl true, .str "1"])) fun _ _ _ O => O.same (same_new hz)
  refine ⟨d, l, cc, z, [.non, .int 61, .int (-61), .bl true, .str "1"], rfl, W11.dr, fun H' s' => SqL.of (Oz.sx s').at_, by simp, (by show 5 ≤ 1000; decide), fun odd H12 hodd D12 s12 => ?_⟩
  have W12 := W11.sx s12 D12
  have B12 := B11.mono fun _ _ _ O => O.sx s12
  have hO : OddV odd := by
    simp only [List.mem_cons, List.not_mem_nil, or_false] at hodd
    rcases hodd with rfl | rfl | rfl | rfl | rfl
    · exact ⟨fun _ => .non, rfl⟩
    · exact ⟨fun _ => .int _, rfl⟩
    · exact ⟨fun _ => .int _, rfl⟩
    · exact ⟨fun _ => .bl _, rfl⟩
    · exact ⟨fun _ => .str _, rfl⟩
  clear W10 W11 B10 B11 Oz s12 hodd D12 hz
  -- checks
  refine ⟨_, rfl, tn <| isrow_bad B12 fun H13 s13 => ⟨_, _, rfl, rfl, ?_⟩⟩
  refine ⟨(by show 1 ≤ sizeLine; decide), fun ck hck => ?_⟩
  have W13 := W12.same s13
  have B13 := B12.mono fun _ _ _ O => O.same s13
  have C : ChkS Pt (upd H13 ck (.lst [.bl (decide (false = false))])) d l cc ck 1 bad := ⟨W13.same (same_new hck), Own.new (xs := [.bl true]) W13.dr hck, (W13.dr.ne hck).2.2, B13.mono fun _ _ _ O => O.same (same_new hck), fun b e => by
    subst e
    have hb : ∃ o, H13 b = some o := by
      cases B13 with
      | lst O => exact ⟨_, O.at_⟩
      | tup O => exact ⟨_, O.at_⟩
      | dct O => exact ⟨_, O.at_⟩
    obtain ⟨o, hb⟩ := hb
    exact ne_of_none hb hck⟩
  clear W12 B12 W13 B13 s13
  generalize upd H13 ck (.lst [.bl (decide (false = false))]) = H11 at C ⊢
  clear hck
  -- row_plus(bad, bad)
  refine ⟨_, rfl, .inl ⟨rfl, _, SqL.of C.O.at_⟩, C.W.tb, fun H12 eN T12 => ?_⟩
  have C2 := C.ext eN T12
  refine ⟨_, rfl, _, rfl, tn <| plus_bad C2.B fun H13 s13 => ⟨T.mR, fun a ha => ?_⟩⟩
  refine ⟨a, cR, none, _, _, _, rfl, .inl ⟨rfl, upd_same⟩, T.eR, fun u r => r, T.iR, ?_⟩
  have C3 := C2.same (s13.trans (same_new (o := ErX (.ref cR) none a) ha))
  refine ⟨ck, _, _, rfl, rfl, C3.O.at_, (by rw [List.length_replicate]; decide), ?_⟩
  have C4 := C3.add
  clear C C2 C3 ha s13 eN T12
  -- row_times([1], bad)
  refine ⟨_, rfl, .inl ⟨rfl, _, SqL.of C4.O.at_⟩, C4.W.tb, fun H12 eN T12 => ?_⟩
  have C5 := C4.ext eN T12
  refine ⟨(by show 1 ≤ sizeLine; decide), fun e1 he1 => ⟨_, rfl, tn <| times_bad (ns := [1]) upd_same (by decide) (by decide) (C5.same (same_new (o := .lst [.int 1]) he1)).B fun H13 s13 => ⟨T.mR, fun a ha => ?_⟩⟩⟩
  refine ⟨a, cR, none, _, _, _, rfl, .inl ⟨rfl, upd_same⟩, T.eR, fun u r => r, T.iR, ?_⟩
  have C6 := C5.same (((same_new (o := .lst [.int 1]) he1).trans s13).trans (same_new (o := ErX (.ref cR) none a) ha))
  refine ⟨ck, _, _, rfl, rfl, C6.O.at_, (by rw [List.length_replicate]; decide), ?_⟩
  have C7 := C6.add
  clear C4 C5 C6 ha s13 he1 eN T12
  -- row_inverse(bad)
  refine ⟨_, rfl, .inl ⟨rfl, _, SqL.of C7.O.at_⟩, C7.W.tb, fun H12 eN T12 => ?_⟩
  have C8 := C7.ext eN T12
  refine ⟨_, rfl, tn <| inv_bad C8.B fun H13 s13 => ⟨T.mR, fun a ha => ?_⟩⟩
  refine ⟨a, cR, none, _, _, _, rfl, .inl ⟨rfl, upd_same⟩, T.eR, fun u r => r, T.iR, ?_⟩
  have C9 := C8.same (s13.trans (same_new (o := ErX (.ref cR) none a) ha))
  refine ⟨ck, _, _, rfl, rfl, C9.O.at_, (by rw [List.length_replicate]; decide), ?_⟩
  have C10 := C9.add
  clear C7 C8 C9 ha s13 eN T12
  -- row_power(bad, odd)
  refine ⟨_, rfl, .inl ⟨rfl, _, SqL.of C10.O.at_⟩, C10.W.tb, fun H12 eN T12 => ?_⟩
  have C11 := C10.ext eN T12
  refine ⟨_, rfl, _, rfl, tn <| pow_bad C11.B hO fun H13 s13 => ⟨T.mR, fun a ha => ?_⟩⟩
  refine ⟨a, cR, none, _, _, _, rfl, .inl ⟨rfl, upd_same⟩, T.eR, fun u r => r, T.iR, ?_⟩
  have C12 := C11.same (s13.trans (same_new (o := ErX (.ref cR) none a) ha))
  refine ⟨ck, _, _, rfl, rfl, C12.O.at_, (by rw [List.length_replicate]; decide), ?_⟩
  have C13 := C12.add
  clear C10 C11 C12 ha s13 eN T12
  -- row_power([2], odd)
  refine ⟨_, rfl, .inl ⟨rfl, _, SqL.of C13.O.at_⟩, C13.W.tb, fun H12 eN T12 => ?_⟩
  have C14 := C13.ext eN T12
  refine ⟨(by show 1 ≤ sizeLine; decide), fun e1 he1 => ⟨_, rfl, tn <| pow_odd (ns := [2]) upd_same (by decide) (by decide) hO fun H13 s13 => ⟨T.mN, fun a ha => ?_⟩⟩⟩
  refine ⟨a, cN, none, _, _, _, rfl, .inl ⟨rfl, upd_same⟩, T.eN, fun u r => r, T.iN, ?_⟩
  have C15 := C14.same (((same_new (o := .lst [.int 2]) he1).trans s13).trans (same_new (o := ErX (.ref cN) none a) ha))
  refine ⟨ck, _, _, rfl, rfl, C15.O.at_, (by rw [List.length_replicate]; decide), ?_⟩
  have C16 := C15.add
  refine ⟨_, rfl, ck, _, rfl, .inl (SqL.of C16.O.at_), rfl, rfl, ?_⟩
  exact q _
end
end K00

set_option Elab.async false
set_option linter.all false
set_option maxRecDepth 100000
set_option maxHeartbeats 4000000
set_option pp.maxSteps 3000
namespace K00
open PySem PySem.Spec PyProof.Rows L2 Dr Xv LamX Ps
section
variable {P : Program} {w : World} {K : PySem.W.Frag} {mg : Str → Option Value} {base : Heap} {cS cN cR : Addr} {f c Pt : Addr} {fd : FuncData}
def spLaw (K : PySem.W.Frag) (Pt : Addr) : Sp := fun vs H Q _ => ∃ (a : Addr) (ns : List Int), vs = [.ref a] ∧ SqL K H a (ns.map V.int) ∧ ns.length ≤ 1000 ∧ H Pt = some (.tbl #[]) ∧ ∀ H', Q (.bl true) H'
theorem ok_law (F : FnP K "law" sLaw f fd) (hc : fd.code = .ref c) (G : Fns P w K mg base cS cN cR) (T : Txt K mg cS cN cR) (TB : TabB base mg c Pt) : FnOk P w K mg base CX0 10 f fd ["script"] (spLaw K Pt) := by
  obtain ⟨oc, od, dV, kV, doc, pm, an, cdv, ct, osl, rfl, lk, hcd, _, _⟩ := F.ex
  have e : cdv = .ref c := hc
  subst e
  refine fn_of lk hcd scLaw (fun vs H Q E h => ?_) fun A outer s H vs Q E hr h => ?_
  · obtain ⟨a, ns, rfl, _⟩ := h
    rfl
  · obtain ⟨a, ns, rfl, hS, hlen, hT, q⟩ := h
    have hr' : Room 9 (XL P w K mg base f c A outer s H E).A := hr
    obtain ⟨tL, hL, rL⟩ := lap_ok (f := f) (c := c) (A := A) (outer := outer) (s := s) (H := H) (E := E) G T TB hr'
    obtain ⟨tT, hTl, rT⟩ := tail_ok (f := f) (c := c) (A := A) (outer := outer) (s := s) (H := H) (E := E) G T TB hr'
    refine ⟨_, PSs.nox (pss_cons (ps_set (i := 1) scLaw.nd rfl (Or.inl rfl) (pe_call G.GB (hr.mono (by decide)) rfl G.gB G.kB G.bB .nil pass0 (pa_cons (pv 0) pa_nil)))
      (pss_cons (ps_for PassesOwn.never rfl (pi_range1 (by rfl) G.range0 (pa_cons (pe_op op_add pe_int (pe_callB (call_min2 rfl) (by rfl) G.min0 (by decide +kernel) (pa_cons (pe_callB call_len (by rfl) G.len0 PySem.boot_len (pa_cons (pv 0) pa_nil)) (pa_cons pe_int pa_nil)))) pa_nil)) (pg_name (i := 2) scLaw.nd rfl (Or.inl rfl)) hL)
      hTl)), ?_⟩
    refine ⟨_, rfl, a, ns, rfl, hS, hlen, fun d l cc H1 hd hl hcc s1 D1 => ?_⟩
    have W1 : Wd Pt H1 d l cc := ⟨D1, fun p hp => by
      rw [List.mem_singleton.mp hp]
      exact TabS.nil (s1 _ _ hT)⟩
    have hb : ∀ n : Nat, 0 ≤ (if (4 : Int) < (n : Int) then (4 : Int) else (n : Int)) ∧ (if (4 : Int) < (n : Int) then (4 : Int) else (n : Int)) ≤ 4 := fun n => by
      by_cases h4 : (4 : Int) < (n : Int)
      · rw [if_pos h4]
        exact ⟨by decide, by decide⟩
      · rw [if_neg h4]
        omega
    obtain ⟨hb1, hb2⟩ := hb (ns.map V.int).length
    refine ⟨_, rfl, _, _, rfl, .inl ⟨_, s1.seq hS, rfl⟩, _, _, rfl, _, _, rfl, rfl, _, rfl, ?_, ?_, ?_⟩
    · show -(2 ^ 62) ≤ 3 + _
      omega
    · show 3 + _ < 2 ^ 62
      omega
    refine for_range (lo := 0) (n := _) (fun i σ H' => Slots d σ ∧ Wd Pt H' d l cc) ⟨⟨_, _, _, _, _, _, _, _, _, _, _, _, rfl⟩, W1⟩ ?_ ?_
    · rintro i σ H2 hi ⟨⟨x0, x2, x3, x4, x5, x6, x7, x8, x9, x10, x11, x12, rfl⟩, W2⟩
      exact rL _ _ _ d l cc ⟨_, _, _, _, _, _, _, _, _, _, _, _, rfl⟩ W2 fun σ' H' hs W' => ⟨hs, W'⟩
    · rintro σ H2 ⟨hs, W2⟩
      exact rT _ _ _ d l cc hs W2 fun H' => q H'
end
end K00

set_option Elab.async false
set_option linter.all false
set_option maxRecDepth 100000
set_option maxHeartbeats 0
namespace K00
open PySem PySem.Spec PyProof.Rows L2 Dr Xv LamX Ps
/-! ### the head: facts by names, the run -/
def dd (x : Str) (st : Stmt) : He.DefD := ⟨(x, none), x, x, defArgs st, defBody st, defScope st, [], []⟩
def fn : List He.DefD := [dd "law" sLaw, dd "_law_begun" sBegun, dd "_law_blend" sBlend, dd "_law_take" sTake, dd "_law_pick" sPick, dd "_law_caught" sCaught, dd "_law_some_row" sSome, dd "_law_raised" sRaised, dd "_law_times" sLTimes, dd "is_number" sNum, dd "is_within" sWithin, dd "are_numbers" sNums, dd "is_number_list" sNumL, dd "is_row" sIsRow, dd "check_row" sChk, dd "check_invertible" sInvt, dd "row_plus" sPlus, dd "row_times" sTimes, dd "row_inverse" sInv, dd "row_power" sPow, dd "_leading_zeros" sZeros, dd "_power_of_led" sLed]
def fa : List He.Fa := [.glo "law", .glo "_law_begun", .glo "_law_blend", .glo "_law_take", .glo "_law_pick", .glo "_law_caught", .glo "_law_some_row", .glo "_law_raised", .glo "_law_times", .glo "is_number", .glo "is_within", .glo "are_numbers", .glo "is_number_list", .glo "is_row", .glo "check_row", .glo "check_invertible", .glo "row_plus", .glo "row_times", .glo "row_inverse", .glo "row_power", .glo "_leading_zeros", .glo "_power_of_led", .glo "SeriesError", .glo "BadNumber", .glo "BadRow", .int "LONGEST_ROW" 3001, .int "GREATEST_POWER" 60, .free "abs", .free "int", .free "bool", .free "all", .free "len", .free "list", .free "tuple", .free "isinstance", .free "min", .free "range", .free "enumerate", .free "zip", .free "sum"]
abbrev R : PySem.W.OpenRow := PySem.W.OpenLaw.row PySem.Challenge.rw_etasure_k00_rows_added_multiplied_raised
abbrev ga (K : PySem.W.Frag) (x : Str) : Addr := He.ga K x
def up (K : PySem.W.Frag) (x : Str) : List Value := .ref (ga K x) :: .ref (ga K "SeriesError") :: veT
def upS (K : PySem.W.Frag) : List Value := .ref (ga K "SeriesError") :: veT
def ext (K : PySem.W.Frag) : Bool := clsB K (ga K "SeriesError") (upS K) && (clsB K (ga K "BadNumber") (up K "BadNumber") && (clsB K (ga K "BadRow") (up K "BadRow") &&
  (PySem.W.excIn K (ga K "BadNumber") veT "ValueError.__new__" && (PySem.W.excIn K (ga K "BadRow") veT "ValueError.__new__" &&
  (He.eqO (PySem.W.specialIn K (.builtin "object.__class__") "__get__") (some (some (.builtin "getset_descriptor.__get__"))) && eqB (PySem.W.takesIn K (.builtin "object.__class__")) (some true))))))
def ob (s : PySem.W.SharedT) : AlE := obsE fa fn ext 4 (HandSHeadRun.getT s)
theorem ob_eq (s : PySem.W.SharedT) : ob s = (hookE fa fn ext 4).obs s.abs := by
  have e : HandSHeadRun.getT s = s.abs.heap.get? := funext (HandSHeadRun.getT_eq s)
  show obsE fa fn ext 4 (HandSHeadRun.getT s) = obsE fa fn ext 4 s.abs.heap.get?
  rw [e]
def loose : List PySem.Str := (List.map Str.ofString ["SeriesError", "BadNumber", "BadRow", "is_number", "is_within", "are_numbers", "is_number_list", "LONGEST_ROW", "GREATEST_POWER", "is_row", "check_row", "check_invertible", "row_plus", "row_times", "row_inverse", "row_power", "_leading_zeros", "_power_of_led", "_law_begun", "_law_blend", "_law_take", "_law_pick", "_law_caught", "_law_times", "_law_some_row", "_law_raised"])
theorem txt_of {K : PySem.W.Frag} {h : Heap} {mg : Str → Option Value} (X : K.In h) (G : h.Ns mainGlobals mg) (c : He.SaysD fa fn K) (e : ext K = true) : Txt K mg (ga K "SeriesError") (ga K "BadNumber") (ga K "BadRow") := by
  unfold ext at e
  simp only [Bool.and_eq_true] at e
  obtain ⟨e1, e2, e3, e5, e6, e7, e8⟩ := e
  have cS := clsB_ok e1
  have cN := clsB_ok e2
  have cR := clsB_ok e3
  have ne : ∀ x, up K x ≠ [] := fun x z => by cases z
  have neS : upS K ≠ [] := fun z => by cases z
  have hasT : ∀ (x : Str) (v : Value), veT.contains v = true → (up K x).contains v = true := fun x v hv => by
    unfold up
    rw [List.contains_cons, List.contains_cons, hv, Bool.or_true, Bool.or_true]
  have hasS : ∀ v : Value, veT.contains v = true → (upS K).contains v = true := fun v hv => by
    unfold upS
    rw [List.contains_cons, hv, Bool.or_true]
  have e7' := He.eqO_ok e7
  have e8' : PySem.W.takesIn K (.builtin "object.__class__") = some true := of_decide_eq_true e8
  have xS := cS.excC neS (hasS _ rfl) (hasS _ rfl) e7' e8'
  have xN := cN.excC (ne _) (hasT _ _ rfl) (hasT _ _ rfl) e7' e8'
  have xR := cR.excC (ne _) (hasT _ _ rfl) (hasT _ _ rfl) e7' e8'
  have subS : ∀ x, (up K x).contains (.ref (ga K "SeriesError")) = true := fun x => by
    unfold up
    rw [List.contains_cons, List.contains_cons]
    simp
  have ex : ∀ x, ClsOk K (ga K x) (up K x) → PySem.W.exmOne K (.ref (ga K x)) (.ref (ga K "SeriesError")) = some true := fun x cx => PySem.W.exm_ref xS.hs xS.hd cS.ty (by rw [cx.sub (ne x), subS x])
  have kit : ∀ x, ClsOk K (ga K x) (up K x) → PySem.W.kitOne K (.ref (ga K x)) (.ref (ga K x)) = some true := fun x cx => cx.kit (ne x) cx (by rw [decide_eq_true rfl]; rfl)
  exact { gS := He.glo_ok X G (c.fact 22 (f := .glo "SeriesError") rfl), gN := He.glo_ok X G (c.fact 23 (f := .glo "BadNumber") rfl), gR := He.glo_ok X G (c.fact 24 (f := .glo "BadRow") rfl)
          xN := e5, xR := e6, kN := cN.kp, kR := cR.kp, bN := xN.hs, bR := xR.hs, tN := cN.ty, tR := cR.ty, mN := ex _ cN, mR := ex _ cR, eN := xN, eR := xR, iN := kit _ cN, iR := kit _ cR }
theorem run (w : World) : HandSHeadRun.RunEq R (PySem.W.view R.prog [30]) (hookE fa fn ext 4) ob 20000 loose w := by
  intro os
  kernel_rfl
end K00

set_option Elab.async false
set_option linter.all false
set_option maxRecDepth 100000
set_option maxHeartbeats 0
namespace K00
open PySem PySem.Spec PyProof.Rows L2 Dr Xv LamX Ps
theorem facts {P : Program} {w : World} {K : PySem.W.Frag} {h : Heap} {mg : Str → Option Value} {f : Addr} (X : K.In h) (G : h.Ns mainGlobals mg) (hfa : mg ("law" : Str) = some (.ref f)) (c : He.SaysD fa fn K) (ex : ext K = true) :
    ∃ fd, (∀ (s : Shared) (v : Value), BindsTo s fd ⟨[v], []⟩ [("script", v)]) ∧ ∀ base : Heap, K.In base → base.Ns mainGlobals mg → TabB base mg (He.cT K lawD).1 (He.cT K lawD).2 → FnOk P w K mg base CX0 10 f fd ["script"] (spLaw K (He.cT K lawD).2) := by
  obtain ⟨fd, F⟩ := c.def_ 0 (d := dd "law" sLaw) rfl
  obtain ⟨fdB, FB⟩ := c.def_ 1 (d := dd "_law_begun" sBegun) rfl
  obtain ⟨fdL, FL⟩ := c.def_ 2 (d := dd "_law_blend" sBlend) rfl
  obtain ⟨fdT, FT⟩ := c.def_ 3 (d := dd "_law_take" sTake) rfl
  obtain ⟨fdP, FP⟩ := c.def_ 4 (d := dd "_law_pick" sPick) rfl
  obtain ⟨fdC, FC⟩ := c.def_ 5 (d := dd "_law_caught" sCaught) rfl
  obtain ⟨fdS, FS⟩ := c.def_ 6 (d := dd "_law_some_row" sSome) rfl
  obtain ⟨fdW, FW⟩ := c.def_ 7 (d := dd "_law_raised" sRaised) rfl
  obtain ⟨fdX, FX⟩ := c.def_ 8 (d := dd "_law_times" sLTimes) rfl
  obtain ⟨fd9, F9⟩ := c.def_ 9 (d := dd "is_number" sNum) rfl
  obtain ⟨fd10, F10⟩ := c.def_ 10 (d := dd "is_within" sWithin) rfl
  obtain ⟨fd11, F11⟩ := c.def_ 11 (d := dd "are_numbers" sNums) rfl
  obtain ⟨fd12, F12⟩ := c.def_ 12 (d := dd "is_number_list" sNumL) rfl
  obtain ⟨fd13, F13⟩ := c.def_ 13 (d := dd "is_row" sIsRow) rfl
  obtain ⟨fd14, F14⟩ := c.def_ 14 (d := dd "check_row" sChk) rfl
  obtain ⟨fd15, F15⟩ := c.def_ 15 (d := dd "check_invertible" sInvt) rfl
  obtain ⟨fd16, F16⟩ := c.def_ 16 (d := dd "row_plus" sPlus) rfl
  obtain ⟨fd17, F17⟩ := c.def_ 17 (d := dd "row_times" sTimes) rfl
  obtain ⟨fd18, F18⟩ := c.def_ 18 (d := dd "row_inverse" sInv) rfl
  obtain ⟨fd19, F19⟩ := c.def_ 19 (d := dd "row_power" sPow) rfl
  obtain ⟨fd20, F20⟩ := c.def_ 20 (d := dd "_leading_zeros" sZeros) rfl
  obtain ⟨fd21, F21⟩ := c.def_ 21 (d := dd "_power_of_led" sLed) rfl
  have e := hfa.symm.trans (He.glo_ok X G (c.fact 0 (f := .glo "law") rfl))
  cases e
  have gB := He.glo_ok X G (c.fact 1 (f := .glo "_law_begun") rfl)
  have gL := He.glo_ok X G (c.fact 2 (f := .glo "_law_blend") rfl)
  have gT := He.glo_ok X G (c.fact 3 (f := .glo "_law_take") rfl)
  have gP := He.glo_ok X G (c.fact 4 (f := .glo "_law_pick") rfl)
  have gC := He.glo_ok X G (c.fact 5 (f := .glo "_law_caught") rfl)
  have gS := He.glo_ok X G (c.fact 6 (f := .glo "_law_some_row") rfl)
  have gW := He.glo_ok X G (c.fact 7 (f := .glo "_law_raised") rfl)
  have gX := He.glo_ok X G (c.fact 8 (f := .glo "_law_times") rfl)
  have g9 := He.glo_ok X G (c.fact 9 (f := .glo "is_number") rfl)
  have g10 := He.glo_ok X G (c.fact 10 (f := .glo "is_within") rfl)
  have g11 := He.glo_ok X G (c.fact 11 (f := .glo "are_numbers") rfl)
  have g12 := He.glo_ok X G (c.fact 12 (f := .glo "is_number_list") rfl)
  have g13 := He.glo_ok X G (c.fact 13 (f := .glo "is_row") rfl)
  have g14 := He.glo_ok X G (c.fact 14 (f := .glo "check_row") rfl)
  have g15 := He.glo_ok X G (c.fact 15 (f := .glo "check_invertible") rfl)
  have g16 := He.glo_ok X G (c.fact 16 (f := .glo "row_plus") rfl)
  have g17 := He.glo_ok X G (c.fact 17 (f := .glo "row_times") rfl)
  have g18 := He.glo_ok X G (c.fact 18 (f := .glo "row_inverse") rfl)
  have g19 := He.glo_ok X G (c.fact 19 (f := .glo "row_power") rfl)
  have g20 := He.glo_ok X G (c.fact 20 (f := .glo "_leading_zeros") rfl)
  have g21 := He.glo_ok X G (c.fact 21 (f := .glo "_power_of_led") rfl)
  obtain ⟨tL, gLR⟩ := He.int_ok X G (c.fact 25 (f := .int "LONGEST_ROW" 3001) rfl)
  obtain ⟨tG, gGP⟩ := He.int_ok X G (c.fact 26 (f := .int "GREATEST_POWER" 60) rfl)
  have abs0 := He.free_ok X G (c.fact 27 (f := .free "abs") rfl)
  have int0 := He.free_ok X G (c.fact 28 (f := .free "int") rfl)
  have bool0 := He.free_ok X G (c.fact 29 (f := .free "bool") rfl)
  have all0 := He.free_ok X G (c.fact 30 (f := .free "all") rfl)
  have len0 := He.free_ok X G (c.fact 31 (f := .free "len") rfl)
  have list0 := He.free_ok X G (c.fact 32 (f := .free "list") rfl)
  have tuple0 := He.free_ok X G (c.fact 33 (f := .free "tuple") rfl)
  have isi0 := He.free_ok X G (c.fact 34 (f := .free "isinstance") rfl)
  have min0 := He.free_ok X G (c.fact 35 (f := .free "min") rfl)
  have range0 := He.free_ok X G (c.fact 36 (f := .free "range") rfl)
  have enum0 := He.free_ok X G (c.fact 37 (f := .free "enumerate") rfl)
  have zip0 := He.free_ok X G (c.fact 38 (f := .free "zip") rfl)
  have sum0 := He.free_ok X G (c.fact 39 (f := .free "sum") rfl)
  have T := txt_of X G c ex
  have b := FunD.bindsA (ps := ["script"]) F fun _ _ _ _ _ _ us hl => match us, hl with | [_], _ => rfl
  have bB : L2.Binds K fdB ["script"] [] := FB.bindsN fun _ _ _ _ _ _ us hl => match us, hl with | [_], _ => rfl
  have bT : L2.Binds K fdT ["draw", "size"] [] := FT.bindsN fun _ _ _ _ _ _ us hl => match us, hl with | [_, _], _ => rfl
  have bP : L2.Binds K fdP ["draw", "some"] [] := FP.bindsN fun _ _ _ _ _ _ us hl => match us, hl with | [_, _], _ => rfl
  have bS : L2.Binds K fdS ["draw"] [] := FS.bindsN fun _ _ _ _ _ _ us hl => match us, hl with | [_], _ => rfl
  have bW : L2.Binds K fdW ["row", "k"] [] := FW.bindsN fun _ _ _ _ _ _ us hl => match us, hl with | [_, _], _ => rfl
  have bX : L2.Binds K fdX ["one", "other", "most"] [] := FX.bindsN fun _ _ _ _ _ _ us hl => match us, hl with | [_, _, _], _ => rfl
  have b9 : L2.Binds K fd9 ["thing"] [] := F9.bindsN fun _ _ _ _ _ _ us hl => match us, hl with | [_], _ => rfl
  have b10 : L2.Binds K fd10 ["thing", "least", "greatest"] [] := F10.bindsN fun _ _ _ _ _ _ us hl => match us, hl with | [_, _, _], _ => rfl
  have b11 : L2.Binds K fd11 ["things"] [] := F11.bindsN fun _ _ _ _ _ _ us hl => match us, hl with | [_], _ => rfl
  have b12 : L2.Binds K fd12 ["thing"] [] := F12.bindsN fun _ _ _ _ _ _ us hl => match us, hl with | [_], _ => rfl
  have b13 : L2.Binds K fd13 ["thing"] [] := F13.bindsN fun _ _ _ _ _ _ us hl => match us, hl with | [_], _ => rfl
  have b14 : L2.Binds K fd14 ["row"] [] := F14.bindsN fun _ _ _ _ _ _ us hl => match us, hl with | [_], _ => rfl
  have b15 : L2.Binds K fd15 ["row"] [] := F15.bindsN fun _ _ _ _ _ _ us hl => match us, hl with | [_], _ => rfl
  have b16 : L2.Binds K fd16 ["one", "other"] [] := F16.bindsN fun _ _ _ _ _ _ us hl => match us, hl with | [_, _], _ => rfl
  have b17 : L2.Binds K fd17 ["one", "other"] [] := F17.bindsN fun _ _ _ _ _ _ us hl => match us, hl with | [_, _], _ => rfl
  have b18 : L2.Binds K fd18 ["row"] [] := F18.bindsN fun _ _ _ _ _ _ us hl => match us, hl with | [_], _ => rfl
  have b19 : L2.Binds K fd19 ["row", "k"] [] := F19.bindsN fun _ _ _ _ _ _ us hl => match us, hl with | [_, _], _ => rfl
  have b20 : L2.Binds K fd20 ["row"] [] := F20.bindsN fun _ _ _ _ _ _ us hl => match us, hl with | [_], _ => rfl
  have b21 : L2.Binds K fd21 ["row", "k"] [] := F21.bindsN fun _ _ _ _ _ _ us hl => match us, hl with | [_, _], _ => rfl
  have h13 : KBinds K fd13 ["thing"] ["thing"] gR gR := kbR F13 (by decide) fun _ _ _ _ _ _ ws hl => match ws, hl with | [_], _ => rfl
  have h17 : KBinds K fd17 ["one", "other"] ["other", "one"] gR gR := kbR F17 (by decide) fun _ _ _ _ _ _ ws hl => match ws, hl with | [_, _], _ => rfl
  have h18 : KBinds K fd18 ["row"] ["row"] gR gR := kbR F18 (by decide) fun _ _ _ _ _ _ ws hl => match ws, hl with | [_], _ => rfl
  have h19 : KBinds K fd19 ["row", "k"] ["k", "row"] gR gR := kbR F19 (by decide) fun _ _ _ _ _ _ ws hl => match ws, hl with | [_, _], _ => rfl
  refine ⟨fd, fun s v => b s [v] rfl, fun base _ _ TB => ?_⟩
  have GT : FnOk P w K mg base CX0 2 _ fdT ["draw", "size"] spTake := ok_take FT int0 FL gL
  have GP : FnOk P w K mg base CX0 3 _ fdP ["draw", "some"] (spPick K) := ok_pick FP len0 GT bT gT FT.kp
  have G9 : FnOk P w K mg base CX0 1 _ fd9 ["thing"] spNum := ok_num F9 isi0 int0 bool0
  have G10 := ok_within F10 G9 b9 g9 F9.kp
  have G11 := ok_nums F11 all0 G9 b9 g9 F9.kp
  have G12 := ok_numL F12 isi0 list0 tuple0 G11 b11 g11 F11.kp
  have G13 := ok_isRow F13 len0 gLR G12 b12 g12 F12.kp
  have G14 := ok_chk F14 T G13 b13 g13 F13.kp
  have G15 := ok_invt F15 T (P := P) (w := w) (base := base)
  have G20 : FnOk P w K mg base CX0 1 _ fd20 ["row"] spZeros := ok_zeros F20 len0
  have G21 : FnOk P w K mg base CX0 1 _ fd21 ["row", "k"] spLed := ok_led F21 range0 abs0 len0 enum0
  have G16 := ok_plus F16 zip0 G14 b14 g14 F14.kp
  have G17 := ok_times F17 zip0 len0 min0 list0 range0 sum0 G14 b14 g14 F14.kp
  have G18 := ok_inv F18 G14 b14 g14 F14.kp G15 b15 g15 F15.kp G21 b21 g21 F21.kp
  have G19 := ok_pow F19 T len0 gGP G14 b14 g14 F14.kp G15 b15 g15 F15.kp G10 b10 g10 F10.kp G20 b20 g20 F20.kp G21 b21 g21 F21.kp
  have GX : FnOk P w K mg base CX0 1 _ fdX ["one", "other", "most"] spLT := ok_lt FX range0 enum0
  have GW := ok_raised FW range0 len0 GX bX gX FX.kp
  have GS := ok_some FS range0 GT bT gT FT.kp GP bP gP FP.kp
  have hc : fd.code = .ref (He.cT K lawD).1 := by
    obtain ⟨oc, od, dV, kV, doc, pm, an, cdv, ct, osl, rfl, lk, hcd, _, _⟩ := F.ex
    obtain ⟨c0, rfl⟩ := He.codeIn_ref hcd
    have z := He.codeOf_eq (p := lawD) (c := c0) lk rfl
    show Value.ref c0 = Value.ref (He.codeOf K lawD)
    rw [z]
  exact ok_law F hc { f_b := _, f_t := _, f_p := _, f_s := _, f_lt := _, f_ra := _, f_ir := _, f_pl := _, f_ti := _, f_in := _, f_po := _, f_c := _, d_b := _, d_t := _, d_p := _, d_s := _, d_lt := _, d_ra := _, d_ir := _, d_pl := _, d_ti := _, d_in := _, d_po := _, d_c := _
                      GB := ok_begun FB abs0, bB := bB, gB := gB, kB := FB.kp, GT := GT, bT := bT, gT := gT, kT := FT.kp, GP := GP, bP := bP, gP := gP, kP := FP.kp, GS := GS, bS := bS, gS := gS, kS := FS.kp
                      GLt := GX, bLt := bX, gLt := gX, kLt := FX.kp, GRa := GW, bRa := bW, gRa := gW, kRa := FW.kp, GIr := G13, bIr := b13, gIr := g13, kIr := F13.kp, hIr := h13
                      GPl := G16, bPl := b16, gPl := g16, kPl := F16.kp, GTi := G17, bTi := b17, gTi := g17, kTi := F17.kp, hTi := h17, GIn := G18, bIn := b18, gIn := g18, kIn := F18.kp, hIn := h18, GPo := G19, bPo := b19, gPo := g19, kPo := F19.kp, hPo := h19
                      FC := FC, gC := gC, isi0 := isi0, len0 := len0, range0 := range0, min0 := min0, tuple0 := tuple0 } T TB
end K00
open PySem PySem.W PySem.Calls PyProof.Rows
theorem PySem.Challenge.cw_etasure_k00_rows_added_multiplied_raised_holds : PySem.Challenge.rw_etasure_k00_rows_added_multiplied_raised.Holds := by
  w_on; o_law
  refine HandSHeadRun.head_any (r := OpenLaw.row PySem.Challenge.rw_etasure_k00_rows_added_multiplied_raised) (q := view (OpenLaw.row PySem.Challenge.rw_etasure_k00_rows_added_multiplied_raised).prog [30]) (H := Xv.hookE K00.fa K00.fn K00.ext 4) (ob := K00.ob) (M := 20000) (loose := K00.loose) (d := HandSHeadRun.topDef (OpenLaw.row PySem.Challenge.rw_etasure_k00_rows_added_multiplied_raised).prog 30) (kwd := []) K00.ob_eq
    (by kernel_rfl) (fun s => by kernel_rfl) K00.run (by kernel_rfl) (by kernel_rfl) (by kernel_rfl) (by rfl) (by first | assumption | decide +kernel) (by decide +kernel) ⟨rfl, rfl, rfl, rfl, rfl, by decide +kernel⟩ ?hw ?hc
  case hw => w_witness2
  case hc =>
    refine LamX.walk_ofTsE (l := PySem.Challenge.rw_etasure_k00_rows_added_multiplied_raised) (n := 63) (k := 10) (x := "script") (CX := fun _ => L2.CX0) rfl (by decide) (by kernel_rfl) ⟨rfl, by decide, by decide⟩ ?F (fun _ _ _ _ _ h => h)
    intro w mg fa h Y G hmg0
    obtain ⟨K, KX, c⟩ := Y
    have hmg : mg ("law" : PySem.Str) = some (.ref fa) := by
      have e : (HandSHeadRun.topDef (OpenLaw.row PySem.Challenge.rw_etasure_k00_rows_added_multiplied_raised).prog 30).name = ("law" : PySem.Str) := by kernel_rfl
      rw [← e]
      exact hmg0
    obtain ⟨fd, hb, hF⟩ := K00.facts (P := (PySem.Challenge.rw_etasure_k00_rows_added_multiplied_raised).prog) (w := w) KX G hmg c.d c.more
    refine ⟨K, KX, fd, [He.cT K Xv.lawD], K00.spLaw K (He.cT K Xv.lawD).2, fun p hp => ?_, fun p hp => ?_, fun p hp => ?_, hb, fun H a ns hl _ hT hS => ⟨a, ns, rfl, hS, by omega, hT _ (List.mem_singleton.mpr rfl), fun _ => rfl⟩, fun base hK hN hTB => hF base hK hN (hTB _ (List.mem_singleton.mpr rfl))⟩
    · rw [List.mem_singleton.mp hp]
      exact c.empty
    · rw [List.mem_singleton.mp hp]
      exact c.out
    · rw [List.mem_singleton.mp hp]
      exact PySem.W.codeHd_of_K KX c.hd
