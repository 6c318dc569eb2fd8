import PyProof.Rows.All
import Wide.All
import OpenK.AllK
import Wide.FinOn
import KE.KExcIs
import HandS.ForMost
import HandS.ForExc
import HandS.Wide
import HandS.Defaults
import HandS.IsInst
import HandS.ExcIs
import HandS.ExcOwn
import HandS.ExcValue
import HandS.ExcInit
import HandS.MakeKw
import HandS.MakeKwOnly
import HandS.Lambda
import HandS.TryOnly
import HandS.ClsMeth
import HandS.HeadWalk
import HandS.ExcField
import KE.GoesEnum
import HandS.Walk
import KE.GoesEnumKw
import KE.GoesMore
import HandS.SortKw
import Lean
import KE.KStateDown
import HandS.More
import HandS.Words
import HandS.WordsExc
import HandS.Head0
import HandS.Head1
import HandS.Head2
import HandS.HeadEnd
import HandS.HeadHook1
import HandS.HeadHook2
import HandS.HeadHook4
import Flt.RightSqrt
import HandS.Zip
import HandS.ExcBuiltin
import HandS.EndOwn
import HandS.Small
import HandS.Style
import HandS.TupAny
import HandS.TupLe
import HandS.Gcd
import HandS.Head3
import PySem.Challenge.RW_etasure_k32_divisors_and_eisenstein
set_option Elab.async false
set_option linter.all false
set_option maxRecDepth 100000
set_option maxHeartbeats 4000000
set_option pp.maxSteps 3000
namespace Xv
open PySem PySem.Spec PyProof.Rows L2
/-! ### errors of own classes as values -/
/-- at a an error of the class at C: without a dict, or with its dict at d -/
def ErrAt (H : Hp) (a C : Addr) : Prop := H a = some (ExO (.ref C) a) ∨ ∃ d fs, H a = some (exo a C (some d)) ∧ H d = some (exd d fs)
section
variable {X : Cx} {pins : List (Addr × Obj)} {σ : L2.St} {H : Hp} {s : Shared} {a C : Addr}
theorem errAt_inst (I : Inv X pins σ H s) (h : ErrAt H a C) : ∃ ox od, PySem.W.InstAt s.heap a ox C od := by
  rcases h with h | ⟨d, fs, h, hd⟩
  · have q : ObjOk X.prog X.w H s.heap a (ExO (.ref C) a) := I.hok a _ h
    obtain ⟨⟨oe, vs, e, z, dt, _⟩, _⟩ := q
    obtain ⟨oc, od, oda, osl⟩ := oe
    obtain ⟨z1, z2⟩ := z
    dsimp only at z1 z2 dt
    subst z1 z2 dt
    exact ⟨_, none, e, rfl, rfl, trivial⟩
  · obtain ⟨t1, ho⟩ := exo_at I.hok h
    obtain ⟨mA, ⟨od, es, ep, e2, _⟩, _⟩ := exd_at I.hok hd
    exact ⟨_, some od, ho, rfl, rfl, e2⟩
/-- isinstance(e, c), e such an error -/
def rIsErr (K : PySem.W.Frag) : List V → Hp → VK → Prop := fun xs H Q => ∃ (a C : Addr) (c : V) (cv : Value) (b : Bool), xs = [.ref a, c] ∧ ErrAt H a C ∧ ExcC K C ∧ (∀ u, RelV c u → u = cv) ∧ PySem.W.kitOne K (.ref C) cv = some b ∧ Q (.bl b) H
theorem call_isErr : CallR X (.builtin "isinstance") (rIsErr X.K) := by
  intro pins s σ H xs us Q I r h
  obtain ⟨a, C, c, cv, b, rfl, he, T, hc, hk, q⟩ := h
  obtain ⟨u1, u2, rfl, r1, r2⟩ := vals2 r
  cases (show u1 = Value.ref a from r1)
  have e2 := hc _ r2
  subst e2
  obtain ⟨ox, od, J⟩ := errAt_inst I he
  obtain ⟨cd, hcd, _⟩ := PySem.W.any_some T.hd
  exact PySem.W.kia_one (PySem.W.kitx_exc (by rw [hcd]; rfl) T.hg T.hk T.hs T.ha T.hn T.ht T.hm) I.kIn J hk (fun z => nomatch z) fun tk => ⟨.bl b, H, I.tok tk, rfl, q⟩
end
/-! ### e.f of an error that holds its fields -/
structure ErrRd (K : PySem.W.Frag) (C : Addr) (f : Str) : Prop where
  ga : PySem.W.findIn K (.ref C) "__getattribute__" = some (some (.builtin "BaseException.__getattribute__"))
  gg : PySem.W.findIn K (.ref C) "__getattr__" = some none
  sub : PySem.W.subIn K (.ref C) (.type "BaseException") = some true
  hd : PySem.W.hasDictIn K C = true
  no : PySem.W.findIn K (.ref C) f = some none
def tErrF (K : PySem.W.Frag) (f : Str) (te : TE) : TE := fun σ H Q => te σ H fun x H1 => ∃ (a C d : Addr) (fs : List (Str × V)) (v : V), x = .ref a ∧ H1 a = some (exo a C (some d)) ∧ H1 d = some (exd d fs) ∧ ErrRd K C f ∧ fs.lookup f = some v ∧ Q v H1
section
variable {X : Cx}
theorem pe_errF {e : Expr} {te : TE} {f : Str} {pos : Pos} (he : PE X e te) (hb : attributeBase e f X.env (eval e X.env) = eval e X.env := by rfl) : PE X (.Attribute e f pos) (tErrF X.K f te) := by
  refine ⟨fun pins s σ H Q I h => attr_of hb (thn (he.run pins s σ H _ I h) fun u s1 hh => ?_)⟩
  obtain ⟨x, H1, I1, rx, a, C, d, fs, v, ex, ha, hd, T, hl, q⟩ := hh
  subst ex
  cases (show u = Value.ref a from rx)
  obtain ⟨t1, ho⟩ := exo_at I1.hok ha
  obtain ⟨mA, hns, hr⟩ := exd_at I1.hok hd
  obtain ⟨od, hod, hlk⟩ := lookIn_ns hns
  obtain ⟨u, hu, ru⟩ := RelO.some_of (v := v) (o := mA f) (by rw [← hl]; exact hr f)
  have J : PySem.W.InstAt s1.heap a _ C (some od) := ⟨ho, rfl, rfl, hod⟩
  exact PySem.HandSPX.exc_get I1.kIn J T.ga T.gg T.sub (PySem.W.findObj_own T.hd T.no rfl (by rw [hlk, hu])) (handed_of ru) ⟨v, H1, I1.tok _, ru, q⟩
end
/-! ### S.__init__(self, ..), S an own class over ValueError without an __init__ of its own -/
section
variable {X : Cx} {o e : Expr} {es : List Expr} {ta : TA} {x : Str} {p1 p2 pos : Pos}
theorem pe_sinit {S : Addr} {mc : Value} {pl : Sem Bool} (hg : Gl X x) (hm : X.mg x = some (.ref S)) (kS : PySem.W.keepIn X.K (.ref S) = true) (rd : PySem.W.readsIn X.K S mc = true) (sg : PySem.W.specialIn X.K (.ref S) "__getattribute__" = some (some (.builtin "type.__getattribute__")))
    (vV : PySem.W.findCls X.K (.ref S) mc "__init__" = some (.val (.builtin "ValueError.__init__"))) (ha : PA X (e :: es) ta) (hdb : (x == ("__debug__" : Str)) = false := by decide)
    (hc : eval (.Call (.Attribute (.Name x p1) "__init__" p2) (e :: es) [] pos) X.env = (do
      let ov ← eval (.Name x p1) X.env
      standAt p2.atName
      let (f, first) ← holding [ov] (getMethod ov "__init__" pl)
      callWith pos f first (backTo pos (starEach (e :: es) X.env)) (backToKw pos (keywordEach [] X.env))) := by rfl)
    (he : starEach (e :: es) X.env = (false, eval e X.env) :: starEach es X.env := by rfl) (hpl : (backTo pos (starEach es X.env)).any (·.1) = false := by rfl) :
    PE X (.Call (.Attribute (.Name x p1) "__init__" p2) (e :: es) [] pos) (tVeI X.K ta) := by
  refine ⟨fun pins s σ H Q I h => PySem.W.methodCall_KW (ld_glob I hg hm ?_ hdb) hc⟩
  refine PySem.W.method_cls I.kIn sg (PySem.W.cls_value I.kIn rd vV (by decide +kernel) ?_)
  show wpAny _ _ (callWith pos (Value.builtin "ValueError.__init__") [] (backTo pos (starEach (e :: es) X.env)) []) _ _ _
  refine PyProof.Rows.callWith_method1 (thn (ha.run pos pins _ σ H _ (I.tok _) h) fun us s1 hh => ?_) he hpl
  obtain ⟨vs, H1, I1, r1, a, C, ws, ev, hl, T, ea, q⟩ := hh
  subst ev
  cases r1 with
  | @cons _ u0 _ ur ra rw' =>
    cases (show u0 = Value.ref a from ra)
    have hlen : ur.length ≤ sizeLine := by
      have e1 := Paired.length rw'
      rw [sizeLine_eq]
      omega
    exact oinit_ok T I1 ea hlen fun s' J => ⟨.non, H1, J, rfl, q⟩
end
/-! ### C(e, ..) of such a class as a value, its own __init__ walked as a def -/
def tErrV (C : Addr) (sp : Sp) (E : XK) (ta : TA) : TE := fun σ H Q => ta σ H fun vs H1 => vs.length ≤ 1000 ∧ ∀ a, H1 a = none → sp (.ref a :: vs) (upd H1 a (exo a C none)) (fun v H2 => v = .non ∧ Q (.ref a) H2) E
section
variable {X : Cx} {e : Expr} {es : List Expr} {ta : TA} {x : Str} {p pos : Pos}
theorem pe_errV {CX : CXT} {C fI : Addr} {k : Nat} {fd : FuncData} {ps : List Str} {sp : Sp} {E : XK} (T : OexC X.K C) (iC : PySem.W.findIn X.K (.ref C) "__init__" = some (some (.ref fI))) (tI : PySem.W.typeIn X.K (.ref fI) = some (.type "function"))
    (F1 : FnOk X.prog X.w X.K X.mg X.base CX k fI fd ps sp) (hr : Room (k + 1) X.A) (hb : Binds X.K fd ps []) (hx : Passes CX X E) (hg : Gl X x) (hm : X.mg x = some (.ref C)) (ha : PA X (e :: es) ta)
    (hdb : (x == ("__debug__" : Str)) = false := by decide) (he : starEach (e :: es) X.env = (false, eval e X.env) :: starEach es X.env := by rfl) (hpl : (backTo pos (starEach es X.env)).any (·.1) = false := by rfl) :
    PE X (.Call (.Name x p) (e :: es) [] pos) (tErrV C sp E ta) := by
  refine ⟨fun pins s σ H Q I h => wpAny_Call_Name_kw (ld_glob I hg hm ?_ hdb)⟩
  obtain ⟨nm, q, N, bs, bm, sn, sub, ab, col, dd, k0, k1, k2, k3, k5, hC, hbm⟩ := T.cls
  refine PySem.W.callWith_K (h₀ := X.base) I.ok.mod.kin T.kC (thn (ha.run pos pins s σ H _ I h) fun us s1 hh => ?_) he hpl
  obtain ⟨vs, H1, I1, r1, hz, q1⟩ := hh
  refine ⟨I1.kIn, ?_⟩
  show wpAny _ _ (call (.ref C) us) _ _ _
  obtain ⟨hp, g, dr, tk, os⟩ := s1
  have hq := q1 (hp.objs.size + 1) (I1.hok.fresh (Nat.le_succ _))
  have I2 : Inv X pins σ (upd H1 (hp.objs.size + 1) (exo (hp.objs.size + 1) C none)) ⟨(hp.push (PySem.W.kdv_tup us)).push (PySem.HandSPX.excO C hp.objs.size), g, dr, tk, os⟩ :=
    I1.laid (t' := tk) (fun b o z => Heap.get?_push_of_some _ (Heap.get?_push_of_some _ z)) (Nat.le_succ _) (L2.exo_ok (by heap_get))
  have r2 : Vals (V.ref (hp.objs.size + 1) :: vs) (Value.ref (hp.objs.size + 1) :: us) := .cons rfl r1
  have hl : (Value.ref (hp.objs.size + 1) :: us).length = ps.length := by rw [← r2.length]; exact F1.len _ _ _ _ hq
  have hb2 := hb _ (Value.ref (hp.objs.size + 1) :: us) I2.kIn (by simpa using hl)
  rw [List.append_nil] at hb2
  have hus : us.length ≤ sizeLine := by
    have e1 := Paired.length r1
    rw [sizeLine_eq]
    omega
  refine wpAny_call (PySem.HandSPX.call_own F.excBase_ValueError (fun Y => PySem.HandSPX.refsVE_contains Y bm hbm) (I1.kIn _ _ hC) (PySem.W.looks_findIn I1.kIn iC) (fun self => PySem.W.bind_fn I1.kIn self tI) hus (codeAny_mono
    (F1.run _ X.stack _ _ ⟨_, []⟩ _ _ _ E (hr.make C us []) (I2.env0.make C us []) hb2 r2 hq) fun r s' hq' => ?_))
  rcases r with er | fl
  · exact hx pins σ _ _ er s' I2 hq'
  · cases fl with
    | ret u =>
      obtain ⟨v, H', I3, rv, ev, q3⟩ := I2.after hq'
      subst ev
      exact ⟨rv, ⟨V.ref (hp.objs.size + 1), H', I3, rfl, q3⟩⟩
    | next => exact hq'.elim
    | brk => exact hq'.elim
    | cont => exact hq'.elim
end
end Xv

set_option Elab.async false
set_option linter.all false
set_option maxRecDepth 100000
set_option maxHeartbeats 4000000
set_option pp.maxSteps 3000
/-! try: .. except x as n: suite, the exception known behind the try -/
namespace Xv
open PySem PySem.Spec PyProof.Rows L2
/-- at a an exception of the class cls, its dict d -/
def ErX (cls : Value) (d : Option Addr) (a : Addr) : HO := .ext fun h => ∃ (oe : Obj) (vs : Array Value), h.get? a = some oe ∧ Zc cls d oe ∧ oe.data = .fields vs
section
variable {X : Cx} {pins : List (Addr × Obj)} {σ : L2.St} {H : Hp} {s : Shared} {a : Addr} {oe : Obj} {vs : Array Value} {cls : Value} {d : Option Addr}
/-- a pinned exception that was not there at the entry is tracked -/
theorem track (I : Inv X ((a, oe) :: pins) σ H s) (hex : X.ex = []) (n0 : X.s_0.heap.get? a = none) (hz : Zc cls d oe) (hd : oe.data = .fields vs) (hA : ∀ p ∈ X.pn ++ pins, p.1 ≠ a) : Inv X pins σ (upd H a (ErX cls d a)) s := by
  obtain ⟨ha, hn, nL, nF, _⟩ := I.pin (a, oe) (List.mem_append_right _ List.mem_cons_self)
  have old : ∀ b o, X.s_0.heap.get? b = some o → b ≠ a := fun b o e z => by
    rw [z, n0] at e
    cases e
  have nl : X.env.locals ≠ a := fun z => nL z.symm
  have cl : ∀ x c, X.env.cells.lookup x = some c → c ≠ a := fun x c e z => by
    obtain ⟨v, o, q1, q2⟩ := I.cell x c e
    rw [z] at q1
    have ha' : s.heap.get? a = some oe := ha
    rw [ha'] at q1
    cases q1
    rw [hd] at q2
    cases q2
  have J : Inv X pins σ H s := ClX.unpin I
  refine ⟨J.ok, J.os, J.bare, ⟨J.base.keep, J.base.slot, fun b o e n hx => ?_, J.base.there, fun b xs e => ?_, fun b o u e => ?_, fun b ps e => ?_⟩, J.loc, J.cell, ?_, fun x c e => ?_, fun p hp => ?_, fun b o e => ?_, J.len⟩
  · rw [upd_ne (old b o e)]
    exact J.base.free b o e n hx
  · have q := J.base.tups b xs e
    rw [upd_ne (ne_of_none q hn)]
    exact q
  · have q := J.base.frzs b o u e
    rw [upd_ne (ne_of_none q hn)]
    exact q
  · obtain ⟨more, q⟩ := J.base.tbls b ps e
    exact ⟨more, by rw [upd_ne (ne_of_none q hn)]; exact q⟩
  · rw [upd_ne nl]
    exact J.free
  · rw [upd_ne (cl x c e)]
    exact J.freeC x c e
  · obtain ⟨e1, e2, e3, e4, e5⟩ := J.pin p hp
    exact ⟨e1, by rw [upd_ne (hA p hp)]; exact e2, e3, e4, e5⟩
  · by_cases hb : b = a
    · subst hb
      rw [upd_same] at e
      cases e
      exact ⟨⟨oe, vs, ha, hz, hd⟩, ⟨oe, ha⟩, fun h1 h2 q k => by
        obtain ⟨o, w, q1, q2⟩ := q
        exact ⟨o, w, k o q1, q2⟩⟩
    · rw [upd_ne hb] at e
      exact (J.hok b o e).stay (fun c v _ q => q) (fun c q => by rw [upd_ne (ne_of_none q hn)]; exact q) fun c xs q => by rw [upd_ne (ne_of_none q hn)]; exact q
end
/-- what the clause wishes of an exception of the body: behind the suite the exception is known -/
def wKeep (K : PySem.W.Frag) (len : Nat) (c : Value) (i : Nat) (ts : TS) (Wout : WX) (D : Ends) : WX := fun cls d σ H => σ.length = len → ∃ b, PySem.W.exmOne K cls c = some b ∧
  (b = true → ∀ a, H a = none → ts { nx := fun σ' H' => D.nx (σ'.set i none) (upd H' a (ErX cls d a)), rt := fun _ _ => False, bk := fun _ _ => False, ct := fun _ _ => False } (σ.set i (some (.ref a))) H) ∧ (b = false → Wout cls d σ H)
section
variable {X : Cx} {x n : Str} {c : Value} {i : Nat} {body suite : List Stmt} {b0 : Stmt} {np pos pos' : Pos} {tb : WX → TS} {ts : TS} {Wout : WX}
theorem ps_try_keep (hs : X.stack = X.env :: X.outer) (hf : X.env.frame = some X.env.locals) (hN : X.N.Nodup) (hex : X.ex = []) (hi : X.N[i]? = some n) (hln : X.env.kindOf n = some .local) (hc : Names X x c) (tk : Takes X Wout)
    (hb : ∀ (W : WX) (pn : List (Addr × Obj)) (xe : Value → Shared → Prop), Takes (X.tr pn xe) W → PSs (X.tr pn xe) body (tb W)) (hsu : ∀ (a : Addr) (oe : Obj) (pn : List (Addr × Obj)), PSs (X.suite a ((a, oe) :: pn)) (b0 :: suite) ts) :
    PS X (.Try body [.ExceptHandler (some (.Name x np)) (some n) (b0 :: suite) pos'] [] [] pos) (fun D σ H => tb (wKeep X.K X.N.length c i ts Wout D) D σ H) := by
  refine ⟨fun pins s σ H D I h => ?_⟩
  have ok := I.ok
  have frm : X.A.frames = some (X.env :: X.outer) := by
    rw [ok.frames, hs]
  refine wpAny_Try_except (wpAny_mono ((hb (wKeep X.K X.N.length c i ts Wout D) (X.pn ++ pins) (fun e s1 => wpAny (model X.prog X.w) X.A (noteFrame e X.env) (fun _ s2 => wpAny (model X.prog X.w) X.A (setFlight e none) (fun _ s3 => wpAny (model X.prog X.w) X.A
    (handleBy e X.env [.ExceptHandler (some (.Name x np)) (some n) (b0 :: suite) pos']) (SP X pins D) X.xe s3) X.xe s2) X.xe s1) (fun u s' xx => ?_)).run [] s σ H D (I.toTry _) h) (fun f s1 hsp => ?_) (fun _ _ he => he))
  · obtain ⟨a, B, sI, pins', σ', H', cls, d, rfl, J', nb, up, sky, na, os, ag, hw⟩ := xx
    obtain ⟨b, hb1, hyes, hno⟩ := hw J'.len
    have J : Inv X pins σ' H' sI := J'.ofTry ok
    rw [hs] at sky
    refine Sky.land Zc.steady frm hf sky fun h3 fl3 up3 => ?_
    have J3 : Inv X pins σ' H' { s' with heap := h3 } := J.landed nb fl3.1 (up.trans up3) os ag
    obtain ⟨oe3, vs3, he3, hz3, hd3⟩ := fl3.there
    have nfr : a ∉ frs (X.env :: X.outer) := fun hm => by
      obtain ⟨_, o', e', hnf⟩ := fl3.2.2.1.mem hm
      rw [he3] at e'
      cases e'
      exact hnf _ hd3
    have nL : a ≠ X.env.locals := fun z => nfr (List.mem_filterMap.mpr ⟨X.env, List.mem_cons_self, by rw [hf, z]⟩)
    have nF : a ∉ X.fs := fun hm => by
      obtain ⟨e, he, q⟩ := List.mem_filterMap.mp hm
      exact nfr (List.mem_filterMap.mpr ⟨e, List.mem_cons_of_mem _ he, q⟩)
    have notB : B.get? a = none := fl3.2.1
    have onB : ∀ b o, sI.heap.get? b = some o → b ∉ frs (X.env :: X.outer) → b ≠ a := fun b o e hm z => by
      have q := nb b o e (by rw [hs]; exact hm)
      rw [z, notB] at q
      cases q
    have n0 : X.s_0.heap.get? a = none := by
      cases e : X.s_0.heap.get? a with
      | none => rfl
      | some o =>
        obtain ⟨o', q⟩ := J.base.there a o e (by rw [hex]; exact fun z => nomatch z)
        exact absurd rfl (onB a o' q nfr)
    have nP : ∀ p ∈ X.pn ++ pins, p.1 ≠ a := fun p hp => by
      obtain ⟨e1, _, e3, e4, _⟩ := J.pin p hp
      refine onB p.1 p.2 e1 fun hm => ?_
      rcases List.mem_cons.mp (show p.1 ∈ X.env.locals :: frs X.outer from by
        have q : frs (X.env :: X.outer) = X.env.locals :: frs X.outer := by
          show (X.env :: X.outer).filterMap (·.frame) = _
          rw [List.filterMap_cons, hf]
          rfl
        rw [← q]
        exact hm) with z | z
      · exact e3 z
      · exact e4 z
    have S3 := J3.suite he3 hd3 na nL nF
    refine wpAny_handleBy_cons (codeAny_handlers_test ?_) (by intro q; cases q)
    have LT : PySem.W.Looks (model X.prog X.w) h3 (typeOf (.ref a)) cls := fun A Q E s k q => wpAny_typeOf_ref (k _ _ he3) (by rw [hz3.1]; exact q)
    have LM := PySem.W.exm_one (M := model X.prog X.w) (J3.kIn) LT hb1
    have test : ∀ {Q : Value → Shared → Prop} {E : Value → Shared → Prop}, Q c { s' with heap := h3 } → wpAny (model X.prog X.w) (X.A.mark (some (.ref a))) (eval (.Name x np) X.env) Q E { s' with heap := h3 } := by
      intro Q E q
      obtain ⟨hg, hdbg, hm | ⟨hm, hv, hnn⟩⟩ := hc
      · exact ld_glob (X := X.suite a ((a, oe3) :: (X.pn ++ pins))) S3 hg hm q hdbg
      · exact ld_blt (X := X.suite a ((a, oe3) :: (X.pn ++ pins))) S3 hg hm hv q hnn hdbg
    refine test (LM.here ?_)
    cases b with
    | true =>
      refine codeAny_handlers_suite_as (HandSPX.lands_againZ fl3 fun h4 fl4 up4 => ?_)
      have J4 : Inv X pins σ' H' { s' with heap := h4 } := J.landed nb fl4.1 ((up.trans up3).trans up4) os ag
      obtain ⟨oe4, vs4, he4, hz4, hd4⟩ := fl4.there
      refine store_ok (X := X.suite a ((a, oe4) :: (X.pn ++ pins))) (v := .ref a) (J4.suite he4 hd4 na nL nF) hN hi (.inl hln) rfl (fun s5 S5 => ?_) (.inr hln)
      refine wpAny_mono ((hsu a oe4 (X.pn ++ pins)).run [] s5 _ H' _ S5 (hyes rfl a na)) (fun f s6 hsp => ?_) (fun _ _ z => False.elim z)
      cases f with
      | next =>
        obtain ⟨σ6, H6, S6, q6⟩ := hsp
        have P6 : Inv X ((a, oe4) :: pins) σ6 H6 s6 := (S6.unsuite ok).pins_of fun p hp => by
          rcases List.mem_cons.mp hp with z | z
          · rw [z]
            exact S6.pin (a, oe4) (List.mem_append_left _ List.mem_cons_self)
          · exact S6.pin p (List.mem_append_left _ (List.mem_cons_of_mem _ (List.mem_append_right _ z)))
        exact gone_ok P6 hN hi hln fun s7 J7 => ⟨_, _, track J7 hex n0 hz4 hd4 nP, q6⟩
      | brk =>
        obtain ⟨_, _, _, q6⟩ := hsp
        exact q6.elim
      | cont =>
        obtain ⟨_, _, _, q6⟩ := hsp
        exact q6.elim
      | ret u =>
        obtain ⟨_, _, _, _, _, q6⟩ := hsp
        exact q6.elim
    | false =>
      show wpAny _ X.A (handleBy (.ref a) X.env []) _ _ _
      refine wpAny_handleBy_nil ?_
      obtain ⟨k1, k2, k3, oe, vs, T, oT, ts', he, hz, hd, h1, hr⟩ := id fl3
      unfold PySem.passOn
      refine wpAny_bind (wpAny_field he hd h1 ?_)
      rw [if_neg (show ¬ ((Value.ref T == Value.none) = true) from by simp)]
      have fin : wpAny (model X.prog X.w) X.A (setFlight (.ref a) X.env.frame) (fun _ s4 => wpAny (model X.prog X.w) X.A (throw (.ref a) : Sem Flow) (SP X pins D) X.xe s4) X.xe { s' with heap := h3 } := by
        rw [hf]
        exact HandSPX.setFlight_upZ fl3 fun h4 hh4 up4 => wpAny_throw (tk _ _ ⟨a, B, sI, pins, σ', H', cls, d, rfl, J, nb, (up.trans up3).trans up4, .inr (.inr (by rw [hs]; exact hh4)), na, os, ag, hno rfl⟩)
      first
        | exact wpAny_bind (wpAny_pure (wpAny_bind fin))
        | exact wpAny_bind fin
  · cases f with
    | next =>
      obtain ⟨σ', H', J', q⟩ := hsp
      exact wpAny_execs_nil ⟨σ', H', J'.ofTry ok, q⟩
    | brk =>
      obtain ⟨σ', H', J', q⟩ := hsp
      exact ⟨σ', H', J'.ofTry ok, q⟩
    | cont =>
      obtain ⟨σ', H', J', q⟩ := hsp
      exact ⟨σ', H', J'.ofTry ok, q⟩
    | ret u =>
      obtain ⟨v, σ', H', J', r, q⟩ := hsp
      exact ⟨v, σ', H', J'.ofTry ok, r, q⟩
end
end Xv

set_option Elab.async false
set_option linter.all false
set_option maxRecDepth 100000
set_option maxHeartbeats 4000000
set_option pp.maxSteps 3000
/-! _law_caught: work() is called, its exception is handed back -/
namespace Xv
open PySem PySem.Spec PyProof.Rows L2 LamX
abbrev caughtBody (p1 p2 p3 p4 p5 p6 p7 p8 p9 pa pb pc pd pe : Pos) (j : Nat) : List Stmt := [.Assign [.Name "caught" p1] (.Constant .none j p2) p3,
  .Try [.Expr (.Call (.Name "work" p4) [] [] p5) p6] [.ExceptHandler (some (.Name "SeriesError" p7)) (some "error") [.Assign [.Name "caught" p8] (.Name "error" p9) pa] pb] [] [] pc, .Return (some (.Name "caught" pd)) pe]
/-- what is asked: work() gives whatever, or raises an exception that is caught -/
def TCaught (K : PySem.W.Frag) (CS : Addr) : (XK → Hp → VK → Prop) → Hp → VK → Prop := fun tl H Q =>
  tl (fun cls d H' => PySem.W.exmOne K cls (.ref CS) = some true ∧ ∀ a, H' a = none → Q (.ref a) (upd H' a (ErX cls d a))) H (fun _ H' => ∃ v, some (some V.non) = some (some v) ∧ Q v H')
theorem caught_gives {X : Cx} {sg : Scope} {g CS : Addr} {cdg : Value} {q : Str} {p1 p2 p3 p4 p5 p6 p7 p8 p9 pa pb pc pd pe : Pos} {j : Nat} (Sg : FnScope ["work", "caught", "error"] ["work"] sg) (v0 : sg.names.lookup ("work" : Str) = some NameKind.local) (v1 : sg.names.lookup ("caught" : Str) = some NameKind.local) (v2 : sg.names.lookup ("error" : Str) = some NameKind.local)
    (hge : sg.names.lookup ("SeriesError" : Str) = some NameKind.globalImplicit) (hme : X.mg "SeriesError" = some (.ref CS)) : GivesTo X ["work", "caught", "error"] "_law_caught" sg g cdg (caughtBody p1 p2 p3 p4 p5 p6 p7 p8 p9 pa pb pc pd pe j) "work" q (TCaught X.K CS) := by
  intro f c' s H Q tl act hc h
  have hgl : Gl (cxOf C8.CX0 X.prog X.w X.K X.mg X.base ["work", "caught", "error"] "_law_caught" sg g cdg X.A X.stack s H C8.E0).nox "SeriesError" := hge
  refine ⟨_, pss_cons (ps_set (i := 1) Sg.nd rfl (Or.inl v1) pe_non) (pss_cons (ps_try_keep (X := (cxOf C8.CX0 X.prog X.w X.K X.mg X.base ["work", "caught", "error"] "_law_caught" sg g cdg X.A X.stack s H C8.E0).nox) (c := .ref CS) (i := 2)
      (tb := fun W D σ H => ∃ Ech : XK, (∀ cls d σ' H', Ech cls d H' → W cls d σ' H') ∧ σ[0]? = some (some (.ref f)) ∧ H c' = some (CodeO c' q) ∧ tl Ech H (fun _ H' => D.nx σ H'))
      rfl rfl Sg.nd rfl rfl v2 ⟨hgl, by decide, .inl hme⟩ L2.takes0 (fun W pn xe tk => ?_) (fun a oe pn => pss_one (ps_set (i := 1) Sg.nd rfl (Or.inl v1) (pe_var (i := 2) rfl (Or.inl v2))))) (pss_one (ps_ret (pe_var (i := 1) rfl (Or.inl v1))))), ?_⟩
  · refine ⟨fun pins s' σ H' D I h' => ?_⟩
    obtain ⟨Ech, hW, h1, h2, h3⟩ := h'
    have hp := act W pn xe Ech p4 p5 tk hW
    have hq := pss_one (ps_expr (pos := p6) hp)
    exact hq.run pins s' σ H' D I ⟨h1, h2, h3⟩
  · refine ⟨fun cls d H' => PySem.W.exmOne X.K cls (.ref CS) = some true ∧ ∀ a, H' a = none → Q (.ref a) (upd H' a (ErX cls d a)), fun cls d σ' H' hE => ?_, rfl, hc, ?_⟩
    · obtain ⟨e1, e2⟩ := hE
      intro hl
      match σ', hl with
      | [s0, s1, s2], _ => exact ⟨true, e1, fun _ a ha => ⟨_, rfl, _, rfl, e2 a ha⟩, fun z => nomatch z⟩
    · exact h
/-- a caught exception of the class at C at a, its fields fs, if it has a dict -/
def ErC (H : Hp) (a C : Addr) (fs : Option (List (Str × V))) : Prop := (fs = none ∧ H a = some (ErX (.ref C) none a)) ∨ ∃ d xs, fs = some xs ∧ H a = some (ErX (.ref C) (some d) a) ∧ H d = some (.xd xs)
section
variable {X : Cx} {pins : List (Addr × Obj)} {σ : L2.St} {H : Hp} {s : Shared} {a C : Addr} {fs : Option (List (Str × V))}
theorem erC_same {H H' : Hp} (h : ErC H a C fs) (k : Same H H') : ErC H' a C fs := by
  rcases h with ⟨e, h⟩ | ⟨d, xs, e, h, hd⟩
  · exact .inl ⟨e, k _ _ h⟩
  · exact .inr ⟨d, xs, e, k _ _ h, k _ _ hd⟩
theorem erC_inst (I : Inv X pins σ H s) (h : ErC H a C fs) : ∃ ox od, PySem.W.InstAt s.heap a ox C od := by
  rcases h with ⟨_, h⟩ | ⟨d, xs, _, h, hd⟩
  · have q : ObjOk X.prog X.w H s.heap a (ErX (.ref C) none a) := I.hok a _ h
    obtain ⟨⟨oe, vs, e, z, dt⟩, _⟩ := q
    obtain ⟨oc, od, oda, osl⟩ := oe
    obtain ⟨z1, z2⟩ := z
    dsimp only at z1 z2 dt
    subst z1 z2 dt
    exact ⟨_, none, e, rfl, rfl, trivial⟩
  · have q : ObjOk X.prog X.w H s.heap a (ErX (.ref C) (some d) a) := I.hok a _ h
    obtain ⟨⟨oe, vs, e, z, dt⟩, _⟩ := q
    have hx : ObjOk X.prog X.w H s.heap d (.xd xs) := I.hok d _ hd
    obtain ⟨mA, hns, hr⟩ := hx
    obtain ⟨od, ho, hl⟩ := lookIn_ns hns
    exact ⟨oe, some od, e, z.1, by unfold PySem.W.notCls; rw [dt] <;> rfl, by rw [z.2]; exact ho⟩
/-- isinstance(e, c), e a caught exception -/
def rIsC (K : PySem.W.Frag) : List V → Hp → VK → Prop := fun xs H Q => ∃ (a C : Addr) (fs : Option (List (Str × V))) (c : V) (cv : Value) (b : Bool), xs = [.ref a, c] ∧ ErC H a C fs ∧ ExcC K C ∧ (∀ u, RelV c u → u = cv) ∧ PySem.W.kitOne K (.ref C) cv = some b ∧ Q (.bl b) H
theorem call_isC : CallR X (.builtin "isinstance") (rIsC X.K) := by
  intro pins s σ H xs us Q I r h
  obtain ⟨a, C, fs, c, cv, b, rfl, he, T, hc, hk, q⟩ := h
  obtain ⟨u1, u2, rfl, r1, r2⟩ := vals2 r
  cases (show u1 = Value.ref a from r1)
  have e2 := hc _ r2
  subst e2
  obtain ⟨ox, od, J⟩ := erC_inst I he
  obtain ⟨cd, hcd, _⟩ := PySem.W.any_some T.hd
  exact PySem.W.kia_one (PySem.W.kitx_exc (by rw [hcd]; rfl) T.hg T.hk T.hs T.ha T.hn T.ht T.hm) I.kIn J hk (fun z => nomatch z) fun tk => ⟨.bl b, H, I.tok tk, rfl, q⟩
end
/-- e.f, e a caught exception with fields -/
def tErC (K : PySem.W.Frag) (f : Str) (te : TE) : TE := fun σ H Q => te σ H fun x H1 => ∃ (a C : Addr) (fs : List (Str × V)) (v : V), x = .ref a ∧ ErC H1 a C (some fs) ∧ XfC K C ∧ PySem.W.findIn K (.ref C) f = some none ∧ fs.lookup f = some v ∧ Q v H1
theorem pe_erC {X : Cx} {e : Expr} {te : TE} {pos : Pos} {n : Str} (he : PE X e te) (hb : attributeBase e n X.env (eval e X.env) = eval e X.env := by rfl) : PE X (.Attribute e n pos) (tErC X.K n te) := by
  refine ⟨fun pins s σ H Q I h => attr_of hb (thn (he.run pins s σ H _ I h) fun u s1 hh => ?_)⟩
  obtain ⟨x, H1, I1, rx, a, C, fs, v, rfl, he, T, hno, l, q⟩ := hh
  obtain rfl : u = Value.ref a := rx
  rcases he with ⟨z, _⟩ | ⟨d, xs, z, h, hd⟩
  · cases z
  · cases z
    have qo : ObjOk X.prog X.w H1 s1.heap a (ErX (.ref C) (some d) a) := I1.hok a _ h
    obtain ⟨⟨oe, vs, e, z, dt⟩, _⟩ := qo
    have hx : ObjOk X.prog X.w H1 s1.heap d (.xd fs) := I1.hok d _ hd
    obtain ⟨mA, hns, hr⟩ := hx
    obtain ⟨od, ho, hl⟩ := lookIn_ns hns
    obtain ⟨u, hu, ru⟩ := RelO.some_of (v := v) (o := mA n) (by rw [← l]; exact hr n)
    have J : PySem.W.InstAt s1.heap a oe C (some od) := ⟨e, z.1, by unfold PySem.W.notCls; rw [dt] <;> rfl, by rw [z.2]; exact ho⟩
    exact HandSPX.exc_get I1.kIn J T.ga T.gg T.exC (PySem.W.findObj_own T.hdC hno rfl (by rw [hl, hu])) (handed_of ru) ⟨v, H1, I1.tok _, ru, q⟩
end Xv

set_option Elab.async false
set_option linter.all false
set_option maxRecDepth 100000
set_option maxHeartbeats 4000000
set_option pp.maxSteps 3000
namespace PySem
theorem meets_enumerate_new1 {v : Value} {o : Obj} {H : Heap → Prop} (B : Begins v o H) :
    Meets (Builtin.«enumerate.__new__» ⟨[.type "enumerate", v], []⟩) (fun _ R s => H s.heap ∧
      R (.ok (.ret (.ref (s.heap.push o).objs.size))) { s with heap := (s.heap.push o).push { cls := .type "enumerate", data := .fields #[.none, .bool false, .ref s.heap.objs.size, rawInt 0, .none, .none] } }) :=
  .of_wp fun prog w A R s h => by
    obtain ⟨hp, g, d, tk, os⟩ := s; obtain ⟨h1, h⟩ := h
    have hsub := sub_enumerate
    have q1 : ∀ {A' : Around} {E : Value → Shared → Prop} {Q : Value → Shared → Prop}, Q (.ref hp.objs.size) ⟨hp.push o, g, d, tk, os⟩ → wpAny (model prog w) A' (pyIter v) Q E ⟨hp, g, d, tk, os⟩ :=
      fun q => B.iter prog w _ _ ⟨hp, g, d, tk, os⟩ _ h1 q
    wp_walk using q1
    refine wpAny_stack_any fun st => wpAny_pure ?_
    split
    · rename_i c _ _ _ _ _
      cases (c == Value.type "enumerate")
      · wp_walk using q1
        exact ⟨_, rfl, h⟩
      · wp_walk using q1
        exact ⟨_, rfl, h⟩
    · wp_walk using q1
      exact ⟨_, rfl, h⟩
section
variable {prog : Program} {w : World} {A : Around} {E : Value → Shared → Prop} {s : Shared}
theorem enum_begins1 {v : Value} {o : Obj} {H : Heap → Prop} {Q : Value → Shared → Prop} (B : Begins v o H) (h1 : H s.heap)
    (h : ∀ h', IsEnum h' (s.heap.objs.size + 1) s.heap.objs.size 0 .none → h'.get? s.heap.objs.size = some o → h'.objs.size = s.heap.objs.size + 2 →
      (∀ b o, s.heap.get? b = some o → h'.get? b = some o) → Q (.ref (s.heap.objs.size + 1)) { s with heap := h' }) :
    wpAny (model prog w) A (call (.type "enumerate") [v]) Q E s := by
  refine callType_new F.called_enumerate (by decide) (F.typeCall_enumerate_1 _) (F.newCall_enumerate_1 _) (fun obj => F.args_object_init_2 obj _) F.entry_enumerate_new
    (meets_enumerate_new1 B) ⟨h1, ?_⟩
  have hz : (s.heap.push o).objs.size = s.heap.objs.size + 1 := Heap.size_push ..
  show _ ∧ _
  rw [hz]
  have he : IsEnum ((s.heap.push o).push { cls := .type "enumerate", data := .fields #[.none, .bool false, .ref s.heap.objs.size, rawInt 0, .none, .none] }) (s.heap.objs.size + 1) s.heap.objs.size 0 .none := by
    have := Heap.get?_push_size (s.heap.push o) (o := { cls := .type "enumerate", data := .fields #[.none, .bool false, .ref s.heap.objs.size, rawInt 0, .none, .none] }) rfl
    rw [hz] at this; exact this
  refine ⟨⟨_, he, rfl⟩, h _ he (Heap.get?_push_of_some _ (Heap.get?_push_size _ B.free)) (by rw [Heap.size_push, hz]) fun b o x => Heap.get?_push_of_some _ (Heap.get?_push_of_some _ x)⟩
end
end PySem
namespace Xv
open PySem PySem.Spec PyProof.Rows L2
/-- enumerate of a tuple -/
def IteT (K : PySem.W.Frag) (a : Addr) : It :=
  ⟨fun i H => ∃ (xs : List V) (x : V), SqT K H a xs ∧ xs[i]? = some x, fun i H v H' => ∃ T x, v = .ref T ∧ H T = none ∧ H' = upd H T (.tup [.int (i : Nat), x]) ∧ ∀ xs, SqT K H a xs → xs[i]? = some x, fun i H => ∃ xs : List V, SqT K H a xs ∧ xs.length = i⟩
theorem turn_enumT {P : Program} {w : World} {K : PySem.W.Frag} {elts : List Expr} {kk : Nat} {tpos : Pos} (a e it : Addr) (hat : a ≠ it) :
    Turn P w K (.Tuple elts kk tpos) (IteT K a) [e, it] e (fun i h => (∃ old, IsEnum h e it ((i : Nat) : Int) old) ∧ h.IsTupleIter it a i ∧ e ≠ it ∧ e ≠ a) where
  mem := by simp
  obj := fun i h st b hb => by
    obtain ⟨⟨old, he⟩, ⟨o, ho, hc, hd⟩, _⟩ := st
    have e' : b = e ∨ b = it := by simpa using hb
    rcases e' with z | z
    · rw [z]; exact ⟨_, he, fun v q => nomatch q⟩
    · rw [z]; exact ⟨o, ho, fun v q => by rw [hd] at q; cases q⟩
  keep := fun i h h' st k => let ⟨⟨old, he⟩, hi, hne, hea⟩ := st; ⟨⟨old, k e (by simp) _ he⟩, hi.at fun o q => k it (by simp) o q, hne, hea⟩
  item := by
    intro X hP hw hK hc i pins s σ H E I hf st hg
    subst hP hw hK
    obtain ⟨⟨old, he⟩, hit, hne, hea⟩ := st
    obtain ⟨xs, x, hq, hx⟩ := hg
    obtain ⟨its, rv, p, hz⟩ := I.tuple hq
    obtain ⟨u, hu, ru⟩ := rv.get hx
    have hel : e < s.heap.objs.size := Heap.lt_size he
    have hil : it < s.heap.objs.size := by obtain ⟨_, q, _⟩ := hit; exact Heap.lt_size q
    have hlt : i < its.toArray.size := by
      have := (List.getElem?_eq_some_iff.mp hu).1
      simpa using this
    refine wpAny_pyNext_enum_itemD (Draws.tuple (prog := X.prog) (w := X.w) (A := X.A.in1) (I.ok.hd hc) it a hat its.toArray) he ⟨hit, p⟩ hlt hne (by simp [hne, hea]) fun y h' tk hy ho hst' hT hsz hk => ?_
    obtain ⟨hit', _⟩ := hst'
    have ey : y = u := by
      have e1 : its.toArray[i]? = some u := by simpa using hu
      rw [e1] at hy
      exact (Option.some.inj hy).symm
    subst ey
    refine ⟨_, rfl, wpAny_letOwnedTupleGo_enum (s := { s with heap := h', toks := tk + 1 }) ho fun h'' he' sb => ?_⟩
    have hT2 : h''.get? s.heap.objs.size = some { cls := .type "tuple", data := .seq #[.int i tk, y] } := (sb.2 _ (Nat.ne_of_gt hel)).trans hT
    have new : ObjOk X.prog X.w (upd H s.heap.objs.size (.tup [.int (i : Nat), x])) h'' s.heap.objs.size (.tup [.int (i : Nat), x]) :=
      ⟨by show 2 ≤ sizeLine; decide, [.int i tk, y], .cons ⟨_, rfl⟩ (.cons ru .nil), ⟨_, hT2, rfl, _, rfl⟩⟩
    have I1 : Inv X pins σ (upd H s.heap.objs.size (.tup [.int (i : Nat), x])) { s with heap := h'', toks := tk + 1 } :=
      I.turnedNew (ch := [e, it]) (fun b ob hb q => (sb.2 b (fun z => hb (by simp [z]))).trans (hk b ob (fun z => hb (by simp [z])) (fun z => hb (by simp [z])) q)) hf (Nat.le_refl _) new
    refine ⟨.ref s.heap.objs.size, _, I1, rfl, ⟨_, x, rfl, I.hok.fresh (Nat.le_refl _), rfl, fun ys hy => by rw [I.tuple_inj hy hq]; exact hx⟩, ⟨⟨y, ?_⟩, hit'.at fun o q => (sb.2 it (Ne.symm hne)).trans q, hne, hea⟩, fun b hb => ?_⟩
    · have e1 : ((i + 1 : Nat) : Int) = (i : Int) + 1 := by omega
      rw [e1]; exact he'
    · have hb' : b < s.heap.objs.size := by
        have e' : b = e ∨ b = it := by simpa using hb
        rcases e' with z | z
        · rw [z]; exact hel
        · rw [z]; exact hil
      rw [upd_ne (Nat.ne_of_lt hb')]
      exact (hf b hb).1
  done := by
    intro X hP hw hK hc i pins s σ H E I hf st hg
    subst hP hw hK
    obtain ⟨⟨old, he⟩, hit, hne, hea⟩ := st
    obtain ⟨xs, hq, hx⟩ := hg
    obtain ⟨its, rv, p, hz⟩ := I.tuple hq
    obtain ⟨f0, f1, f2, f3, f4, f5⟩ := hf it (by simp)
    have hl := rv.length
    have en : i = its.toArray.size := by
      rw [List.size_toArray]
      omega
    subst en
    have D := Draws.tuple (prog := X.prog) (w := X.w) (A := X.A.in1) (I.ok.hd hc) it a hat its.toArray
    exact wpAny_pyNext_enum_endD D he ⟨hit, p⟩ fun h' eb => ⟨rfl, I.turned (t' := s.toks) (fun b o hb q => eb b o hb q) f0 f1 f3 f4 f5⟩
  self := fun A i s Q E st h => let ⟨⟨_, he⟩, _⟩ := st; wpAny_pyIter_enum he h
/-- enumerate of a list or a tuple -/
def iEnumT (K : PySem.W.Frag) (ta : TA) : TI := fun σ H R => ta σ H fun vs H1 => ∃ a xs, vs = [.ref a] ∧ ((SqL K H1 a xs ∧ R (Ite K a) H1) ∨ (SqT K H1 a xs ∧ R (IteT K a) H1))
theorem pi_enumT {X : Cx} {e : Expr} {ta : TA} {p pos tpos : Pos} {elts : List Expr} {kk : Nat} (hg : Gl X "enumerate") (hm : X.mg "enumerate" = none) (ha : PA X [e] ta) (hs : starEach [e] X.env = [(false, eval e X.env)] := by rfl) :
    PI X (.Tuple elts kk tpos) (.Call (.Name "enumerate" p) [e] [] pos) (iEnumT X.K ta) := by
  refine ⟨fun pins s σ H R I h => ?_⟩
  refine Call_ (ld_blt I hg hm boot_enumerate (PyProof.Rows.callWith_type1 (thn (ha.run pos pins s σ H _ I h) fun us s1 ⟨vs, H1, I1, r1, q1⟩ => ?_) hs rfl))
  obtain ⟨a, xs, ex, q⟩ := q1
  subst ex
  cases r1 with
  | cons r rr =>
    cases rr
    cases r
    rcases q with ⟨hq, q⟩ | ⟨hq, q⟩
    · obtain ⟨its, rv, p', hz⟩ := I1.list hq
      refine call_enumerate_list p'.isList fun h' he hit hsz hk => wpAny_pyIter_enum he ?_
      have I2 : Inv X pins σ H1 { s1 with heap := h' } := I1.kept (t' := s1.toks) hk
      refine ⟨s1.heap.objs.size + 1, [s1.heap.objs.size + 1, s1.heap.objs.size], _, _, H1, rfl, I2, turn_enum a (s1.heap.objs.size + 1) s1.heap.objs.size, ⟨⟨.none, he⟩, hit, Nat.succ_ne_self _⟩, fun b hb => ?_, q⟩
      have e' : b = s1.heap.objs.size + 1 ∨ b = s1.heap.objs.size := by simpa using hb
      have hle : s1.heap.objs.size ≤ b := by
        rcases e' with z | z
        · rw [z]; exact Nat.le_add_right _ _
        · rw [z]; exact Nat.le_refl _
      exact I1.fpOk hle (I1.hok.fresh hle)
    · obtain ⟨its, rv, p', hz⟩ := I1.tuple hq
      have p2 : s1.heap.IsTuple a its.toArray := p'
      have hal : a < s1.heap.objs.size := by
        obtain ⟨o, ho, _⟩ := p2
        exact Heap.lt_size ho
      refine enum_begins1 (begins_tuple a its.toArray) p2 fun h' he hit hsz hk => wpAny_pyIter_enum he ?_
      have I2 : Inv X pins σ H1 { s1 with heap := h' } := I1.kept (t' := s1.toks) hk
      refine ⟨s1.heap.objs.size + 1, [s1.heap.objs.size + 1, s1.heap.objs.size], _, _, H1, rfl, I2, turn_enumT a (s1.heap.objs.size + 1) s1.heap.objs.size (Nat.ne_of_lt hal),
        ⟨⟨.none, he⟩, ⟨_, hit, rfl, rfl⟩, Nat.succ_ne_self _, Nat.ne_of_gt (Nat.lt_succ_of_lt hal)⟩, fun b hb => ?_, q⟩
      have e' : b = s1.heap.objs.size + 1 ∨ b = s1.heap.objs.size := by simpa using hb
      have hle : s1.heap.objs.size ≤ b := by
        rcases e' with z | z
        · rw [z]; exact Nat.le_add_right _ _
        · rw [z]; exact Nat.le_refl _
      exact I1.fpOk hle (I1.hok.fresh hle)
theorem walk_enumT {K : PySem.W.Frag} {a : Addr} {xs : List V} : Walk (IteT K a) xs.length (fun H => SqT K H a xs) (YPair (fun i => some (.int (i : Nat))) (fun i => xs[i]?)) := by
  refine ⟨fun i _ hi q => ⟨xs, xs[i], q, by simp [hi]⟩, fun _ q => ⟨xs, q, rfl⟩, fun i H v H' _ q y => ?_⟩
  obtain ⟨T, x, h1, h2, h3, h4⟩ := y
  exact ⟨T, .int (i : Nat), x, h1, h2, h3, rfl, h4 xs q⟩
/-- a list or a tuple walked -/
def iSeq (K : PySem.W.Frag) (tl : TE) : TI := fun σ H R => tl σ H fun x H1 => ∃ a, x = .ref a ∧ (((∃ xs, SqL K H1 a xs) ∧ R (Itl K a) H1) ∨ ((∃ xs, SqT K H1 a xs) ∧ R (Itt K a) H1))
theorem pi_seq {X : Cx} {tg l : Expr} {tl : TE} (hl : PE X l tl) : PI X tg l (iSeq X.K tl) := by
  refine ⟨fun pins s σ H R I h => ?_⟩
  refine thn (hl.run pins s σ H _ I h) fun v s1 ⟨x, H1, I1, r1, q1⟩ => ?_
  obtain ⟨a, e, q⟩ := q1
  subst e
  cases r1
  rcases q with ⟨⟨xs, hq⟩, q⟩ | ⟨⟨xs, hq⟩, q⟩
  · obtain ⟨its, rv, p, hz⟩ := I1.list hq
    refine wpAny_pyIter_list p.isList ?_
    refine ⟨s1.heap.objs.size, [s1.heap.objs.size], _, _, H1, rfl, I1.kept (t' := s1.toks) fun b o e => Heap.get?_push_of_some _ e, turn_list a _, ⟨_, Heap.get?_push_size _ rfl, rfl, rfl⟩, fun b hb => ?_, q⟩
    have e : b = s1.heap.objs.size := by simpa using hb
    subst e
    exact I1.fpOk (Nat.le_refl _) (I1.hok.fresh (Nat.le_refl _))
  · obtain ⟨its, rv, p, hz⟩ := I1.tuple hq
    refine wpAny_pyIter_tuple (show s1.heap.IsTuple a its.toArray from p) ?_
    refine ⟨s1.heap.objs.size, [s1.heap.objs.size], _, _, H1, rfl, I1.kept (t' := s1.toks) fun b o e => Heap.get?_push_of_some _ e, turn_tuple a _, ⟨_, Heap.get?_push_size _ rfl, rfl, rfl⟩, fun b hb => ?_, q⟩
    have e : b = s1.heap.objs.size := by simpa using hb
    subst e
    exact I1.fpOk (Nat.le_refl _) (I1.hok.fresh (Nat.le_refl _))
/-! ### f(k = v, ..): keywords alone -/
section
variable {X : Cx} {p pos : Pos} {x : Str} {kws : List Keyword} {tk : TA} {CX : CXT} {k : Nat} {f : Addr} {fd : FuncData} {ps ks : List Str} {sp : Sp} {E : XK} {g : List Value → List Value → List Value} {gV : List V → List V → List V}
theorem pe_callK0 (F : FnOk X.prog X.w X.K X.mg X.base CX k f fd ps sp) (hr : Room k X.A) (hg : Gl X x) (hm : X.mg x = some (.ref f)) (hk : PySem.W.keepIn X.K (.ref f) = true) (hb : KBinds X.K fd ps ks g gV) (hx : Passes CX X E)
    (hkw : PK X kws tk) (hall : (backToKw pos (keywordEach kws X.env)).all (·.1.isSome) = true := by rfl) (hks : (backToKw pos (keywordEach kws X.env)).filterMap (·.1) = ks := by rfl)
    (hdb : (x == ("__debug__" : Str)) = false := by decide)
    (hpl : ((backTo pos (starEach [] X.env)).any (·.1) || (backToKw pos (keywordEach kws X.env)).any (·.1.isNone)) = false := by rfl) :
    PE X (.Call (.Name x p) [] kws pos) (tCallK sp gV E tNil tk) := by
  refine ⟨fun pins s σ H Q I h => ?_⟩
  refine wpAny_Call_Name_kw (ld_glob I hg hm ?_ hdb)
  refine PySem.W.callWith_KW0 (h₀ := X.base) I.ok.mod.kin hk hall (thn (hkw.run pos pins s σ H _ I h) fun ws s2 ⟨zs, H2, I2, rz, q2⟩ => ⟨I2.kIn, ?_⟩) hpl
  rw [hks]
  exact run_fnk (us := []) (vs := []) F hr hb hx I2 .nil rz q2
end
/-! ### xs[t::m] of a list, 0 ≤ t, 0 < m -/
/-- the items at lo, lo + m, .. -/
def stepV (xs : List V) (t m : Nat) : List V := (List.range ((xs.length - t + m - 1) / m)).filterMap fun k => xs[t + m * k]?
def tStepL (K : PySem.W.Frag) (te : TE) (tl ts : TO) : TE := fun σ H Q => te σ H fun x H1 => tl σ H1 fun l H2 => ts σ H2 fun u H3 => ∃ a xs, ∃ t m : Nat, x = .ref a ∧ l = some (t : Int) ∧ u = some (m : Int) ∧ 0 < m ∧ t ≤ xs.length ∧ SqL K H3 a xs ∧ ∀ p, H3 p = none → Q (.ref p) (upd H3 p (.lst (stepV xs t m)))
theorem pick_step {its : List Value} {t m : Nat} (hm : 0 < m) (ht : t ≤ its.length) : slicePick its.toArray (some (t : Int)) none (some (m : Int)) = ((List.range ((its.length - t + m - 1) / m)).filterMap fun k => its[t + m * k]?).toArray := by
  have hm' : (m : Int) > 0 := by omega
  have hm2 : ¬ ((t : Int) < 0) := by omega
  have e1 : max 0 (min (t : Int) (its.length : Int)) = (t : Int) := by omega
  unfold slicePick sliceBounds
  simp only [Option.getD_some, List.size_toArray, hm', if_true, hm2, if_false, e1]
  unfold sliceRange
  simp only [hm', if_true]
  congr 1
  have e2 : (if (t : Int) < (its.length : Int) then ((its.length : Int) - t + m - 1) / m else 0).toNat = (its.length - t + m - 1) / m := by
    by_cases h : (t : Int) < (its.length : Int)
    · rw [if_pos h]
      have e3 : ((its.length : Int) - t + m - 1) = ((its.length - t + m - 1 : Nat) : Int) := by omega
      rw [e3]
      rw [← Int.natCast_ediv]
      exact Int.toNat_natCast _
    · rw [if_neg h]
      have e3 : its.length - t + m - 1 = m - 1 := by omega
      rw [e3, Nat.div_eq_of_lt (by omega)]
      rfl
  rw [e2, List.filterMap_map]
  congr 1
  funext k
  have e4 : ((t : Int) + (m : Int) * (k : Int)).toNat = t + m * k := by
    rw [← Int.natCast_mul]
    omega
  show its.toArray[((t : Int) + (m : Int) * (k : Int)).toNat]? = _
  rw [e4]
  simp
theorem stepV_vals {xs : List V} {its : List Value} (r : Vals xs its) (t m : Nat) : ∀ n : Nat, Vals ((List.range n).filterMap fun k => xs[t + m * k]?) ((List.range n).filterMap fun k => its[t + m * k]?)
  | 0 => .nil
  | n + 1 => by
    rw [List.range_succ, List.filterMap_append, List.filterMap_append]
    refine (stepV_vals r t m n).append ?_
    show Vals (List.filterMap _ [n]) (List.filterMap _ [n])
    rw [List.filterMap_cons, List.filterMap_cons]
    cases e : xs[t + m * n]? with
    | none =>
      have e2 : its[t + m * n]? = none := by
        have hl := r.length
        rw [List.getElem?_eq_none_iff] at e ⊢
        omega
      rw [e2]
      exact .nil
    | some v =>
      obtain ⟨u, hu, ru⟩ := r.get e
      rw [hu]
      exact .cons ru .nil
theorem filterMap_range_le {f : Nat → Option V} : ∀ n : Nat, ((List.range n).filterMap f).length ≤ n
  | 0 => Nat.le_refl _
  | n + 1 => by
    rw [List.range_succ, List.filterMap_append, List.length_append]
    have h1 := filterMap_range_le (f := f) n
    have h2 : ([n].filterMap f).length ≤ 1 := by
      rw [List.filterMap_cons]
      cases f n <;> simp
    omega
theorem stepV_length {xs : List V} {t m : Nat} (hm : 0 < m) (ht : t ≤ xs.length) : (stepV xs t m).length ≤ xs.length := by
  refine Nat.le_trans (filterMap_range_le _) ?_
  refine Nat.le_trans (m := xs.length - t) ?_ (Nat.sub_le _ _)
  by_cases h : xs.length - t = 0
  · rw [h, Nat.div_eq_of_lt (by omega)]
    exact Nat.le_refl _
  · refine Nat.div_le_of_le_mul ?_
    generalize xs.length - t = d at *
    have h1 : 0 ≤ (d - 1) * (m - 1) := Nat.zero_le _
    obtain ⟨d', rfl⟩ : ∃ d', d = d' + 1 := ⟨d - 1, by omega⟩
    obtain ⟨m', rfl⟩ : ∃ m', m = m' + 1 := ⟨m - 1, by omega⟩
    have e : (m' + 1) * (d' + 1) = m' * d' + m' + d' + 1 := by
      rw [Nat.add_mul, Nat.mul_add]
      omega
    rw [e]
    omega
theorem pe_stepL {X : Cx} {e lo st : Expr} {te : TE} {tl ts : TO} {p3 pos : Pos} (he : PE X e te) (hl : PO X (some lo) tl) (hst : PO X (some st) ts) : PE X (.Subscript e (.Slice (some lo) none (some st) p3) pos) (tStepL X.K te tl ts) := by
  refine ⟨fun pins s σ H Q I h => ?_⟩
  refine Subscript_ (thn (he.run pins s σ H _ I h) fun v s1 ⟨x, H1, I1, r1, q1⟩ => ?_)
  refine wpAny_Slice (thn (hl.run pins s1 σ H1 _ I1 q1) fun vl s2 ⟨l, H2, I2, pl, q2⟩ => ?_)
  refine thn (po_none.run pins s2 σ H2 (fun o H3 => o = none ∧ H3 = H2) I2 ⟨rfl, rfl⟩) fun vu s3 ⟨u, H3, I3, pu, eu, e3⟩ => ?_
  subst eu e3
  refine thn (hst.run pins s3 σ H3 _ I3 q2) fun vs s4 ⟨o, H4, I4, ps, q4⟩ => ?_
  obtain ⟨a, xs, t, m, rfl, rfl, rfl, hm, ht, hx, q⟩ := q4
  cases r1
  have I5 : Inv X pins σ H4 { s4 with heap := s4.heap.push { cls := .type "slice", data := .fields #[vl, vu, vs] } } := I4.kept (t' := s4.toks) fun b ob q => Heap.get?_push_of_some _ q
  obtain ⟨its, r, hT, hz⟩ := I5.list hx
  have hlen := r.length
  show wpAny (model X.prog X.w) X.A (subscriptTail e (.Slice (some lo) none (some st) p3) (.ref a) (.ref s4.heap.objs.size)) (EP X pins σ Q) X.xe { s4 with heap := s4.heap.push { cls := .type "slice", data := .fields #[vl, vu, vs] } }
  refine tail_any (ops := [.ref a, .ref s4.heap.objs.size]) hT.isList.typeIs (PySem.slot_list_getitem.lookup) ?_ (by with_unfolding_all rfl)
  refine wpAny_getItem_list_slice hT.isList (Heap.IsSliceOf.new _ vl vu vs) pl pu ps (by
    intro z
    have z2 := Option.some.inj z
    omega) ?_ (by rw [List.size_toArray]; omega)
  rw [pick_step hm (by omega)]
  refine ⟨.ref _, _, I5.laid (t' := s4.toks) (o := .lst (stepV xs t m)) (fun b ob q => Heap.get?_push_of_some _ q) (Nat.le_refl _) ?_, rfl, q _ (I5.hok.fresh (Nat.le_refl _))⟩
  refine ⟨Nat.le_trans (stepV_length hm ht) hz, _, 0, ?_, Heap.get?_push_size _ rfl⟩
  rw [← hlen]
  exact stepV_vals r t m _
end Xv

set_option Elab.async false
set_option linter.all false
set_option maxRecDepth 100000
set_option maxHeartbeats 4000000
set_option pp.maxSteps 3000
namespace Xv
open PySem PySem.Spec PyProof.Rows L2
/-! ### xs[i] of a list, for xs[i] += e -/
def rGetL (K : PySem.W.Frag) : V → V → Hp → VK → Prop := fun x y H Q => ∃ p xs i v, x = .ref p ∧ y = .int i ∧ SqL K H p xs ∧ atI xs i = some v ∧ Q v H
theorem get_list {X : Cx} : PGet X (rGetL X.K) := by
  intro pins s σ H x y v u Q I rx ry h
  obtain ⟨p, xs, i, z, rfl, rfl, hq, he, q⟩ := h
  cases rx
  obtain ⟨t, rfl⟩ := ry
  obtain ⟨its, r, pl, hz⟩ := I.list hq
  obtain ⟨j, h1, h2, h3, h4, h5⟩ := atI_get he
  obtain ⟨w, ew, rw'⟩ := r.get h2
  have hl := r.length
  have hn := line63
  have fin : EP X pins σ Q w s := ⟨z, H, I, rw', q⟩
  by_cases h0 : 0 ≤ i
  · have hj : i.toNat = j := by
      rw [seqIndex_of h0 h5] at h1
      exact Option.some.inj h1
    exact wpAny_getItem_list pl.isList h0 (by omega) (by rw [hj]; simpa using ew) fin
  · have hj : (i + (its.toArray.size : Int)).toNat = j := by
      rw [seqIndex_neg (by omega) h4] at h1
      rw [List.size_toArray, ← hl]
      exact Option.some.inj h1
    exact wpAny_getItem_list_neg pl.isList (by omega) (by rw [List.size_toArray] <;> omega) (by omega) (by rw [hj]; simpa using ew) fin
/-! ### xs[lo:hi:-1] of a list, hi ≤ lo < len(xs) -/
def downV (xs : List V) (lo hi : Nat) : List V := (List.range (lo - hi)).filterMap fun k => xs[lo - k]?
def tDownL (K : PySem.W.Frag) (te : TE) (tl tu ts : TO) : TE := fun σ H Q => te σ H fun x H1 => tl σ H1 fun l H2 => tu σ H2 fun u H3 => ts σ H3 fun st H4 => ∃ a xs, ∃ lo hi : Nat, x = .ref a ∧ l = some (lo : Int) ∧ u = some (hi : Int) ∧ st = some (-1) ∧ hi ≤ lo ∧ lo < xs.length ∧ SqL K H4 a xs ∧ ∀ p, H4 p = none → Q (.ref p) (upd H4 p (.lst (downV xs lo hi)))
theorem filterMap_eq {α β : Type} {f g : α → Option β} : ∀ {l : List α}, (∀ x ∈ l, f x = g x) → l.filterMap f = l.filterMap g
  | [], _ => rfl
  | x :: r, h => by
    rw [List.filterMap_cons, List.filterMap_cons, h x (List.mem_cons_self ..), filterMap_eq fun y hy => h y (List.mem_cons_of_mem _ hy)]
theorem pick_down {its : List Value} {lo hi : Nat} (h1 : hi ≤ lo) (h2 : lo < its.length) : slicePick its.toArray (some (lo : Int)) (some (hi : Int)) (some (-1)) = ((List.range (lo - hi)).filterMap fun k => its[lo - k]?).toArray := by
  unfold slicePick sliceBounds
  have c1 : ¬ ((-1 : Int) > 0) := by decide
  have c2 : ¬ ((lo : Int) < 0) := by omega
  have c3 : ¬ ((hi : Int) < 0) := by omega
  have e1 : max (-1) (min (lo : Int) ((its.length : Int) - 1)) = (lo : Int) := by omega
  have e2 : max (-1) (min (hi : Int) ((its.length : Int) - 1)) = (hi : Int) := by omega
  simp only [Option.getD_some, List.size_toArray, c1, if_false, c2, c3, e1, e2]
  unfold sliceRange
  simp only [c1, if_false]
  have e3 : (if (lo : Int) > (hi : Int) then ((lo : Int) - hi - -1 - 1) / (- -1) else 0).toNat = lo - hi := by
    have e4 : (- -1 : Int) = 1 := by decide
    rw [e4, Int.ediv_one]
    split <;> omega
  rw [e3, List.filterMap_map]
  congr 1
  refine filterMap_eq fun k hk => ?_
  have hk := List.mem_range.mp hk
  have e4 : ((lo : Int) + -1 * (k : Int)).toNat = lo - k := by omega
  show its.toArray[((lo : Int) + -1 * (k : Int)).toNat]? = _
  rw [e4]
  simp
theorem downV_vals {xs : List V} {its : List Value} (r : Vals xs its) (lo : Nat) : ∀ n : Nat, Vals ((List.range n).filterMap fun k => xs[lo - k]?) ((List.range n).filterMap fun k => its[lo - k]?)
  | 0 => .nil
  | n + 1 => by
    rw [List.range_succ, List.filterMap_append, List.filterMap_append]
    refine (downV_vals r lo n).append ?_
    show Vals (List.filterMap _ [n]) (List.filterMap _ [n])
    rw [List.filterMap_cons, List.filterMap_cons]
    cases e : xs[lo - n]? with
    | none =>
      have e2 : its[lo - n]? = none := by
        have hl := r.length
        rw [List.getElem?_eq_none_iff] at e ⊢
        omega
      rw [e2]
      exact .nil
    | some v =>
      obtain ⟨u, hu, ru⟩ := r.get e
      rw [hu]
      exact .cons ru .nil
theorem filterMap_range_len {f : Nat → Option V} : ∀ n : Nat, ((List.range n).filterMap f).length ≤ n
  | 0 => Nat.le_refl _
  | n + 1 => by
    rw [List.range_succ, List.filterMap_append, List.length_append]
    have h1 := filterMap_range_len (f := f) n
    have h2 : ([n].filterMap f).length ≤ 1 := by
      rw [List.filterMap_cons]
      cases f n <;> simp
    omega
theorem pe_stepDown {X : Cx} {e lo hi st : Expr} {te : TE} {tl tu ts : TO} {p3 pos : Pos} (he : PE X e te) (hl : PO X (some lo) tl) (hu : PO X (some hi) tu) (hst : PO X (some st) ts) : PE X (.Subscript e (.Slice (some lo) (some hi) (some st) p3) pos) (tDownL X.K te tl tu ts) := by
  refine ⟨fun pins s σ H Q I h => ?_⟩
  refine Subscript_ (thn (he.run pins s σ H _ I h) fun v s1 ⟨x, H1, I1, r1, q1⟩ => ?_)
  refine wpAny_Slice (thn (hl.run pins s1 σ H1 _ I1 q1) fun vl s2 ⟨l, H2, I2, pl, q2⟩ => ?_)
  refine thn (hu.run pins s2 σ H2 _ I2 q2) fun vu s3 ⟨u, H3, I3, pu, q3⟩ => ?_
  refine thn (hst.run pins s3 σ H3 _ I3 q3) fun vs s4 ⟨o, H4, I4, ps, q4⟩ => ?_
  obtain ⟨a, xs, lo, hi, rfl, rfl, rfl, rfl, h1, h2, hx, q⟩ := q4
  cases r1
  have I5 : Inv X pins σ H4 { s4 with heap := s4.heap.push { cls := .type "slice", data := .fields #[vl, vu, vs] } } := I4.kept (t' := s4.toks) fun b ob q => Heap.get?_push_of_some _ q
  obtain ⟨its, r, hT, hz⟩ := I5.list hx
  have hlen := r.length
  refine tail_any (ops := [.ref a, .ref s4.heap.objs.size]) hT.isList.typeIs (PySem.slot_list_getitem.lookup) ?_ (by with_unfolding_all rfl)
  refine wpAny_getItem_list_slice hT.isList (Heap.IsSliceOf.new _ vl vu vs) pl pu ps (by decide) ?_ (by rw [List.size_toArray]; omega)
  rw [pick_down h1 (by omega)]
  refine ⟨.ref _, _, I5.laid (t' := s4.toks) (o := .lst (downV xs lo hi)) (fun b ob q => Heap.get?_push_of_some _ q) (Nat.le_refl _) ?_, rfl, q _ (I5.hok.fresh (Nat.le_refl _))⟩
  refine ⟨Nat.le_trans (filterMap_range_len _) (by omega), _, 0, ?_, Heap.get?_push_size _ rfl⟩
  exact downV_vals r lo _
/-! ### enumerate(v, start=c) of a list or a tuple -/
section
variable {M : Model} {A : Around} {E : Value → Shared → Prop} {s : Shared} {env : Env}
theorem callWith_type_kwB {pos : Pos} {id : String} {first : List Value} {args : List (Bool × Sem Value)} {keywords : List (Option Str × Sem Value)} {Q : Value → Shared → Prop}
    (hplain : args.any (·.1) = false) (hkw : keywords.any (·.1.isNone) = false)
    (h : wpAny M A (evalArgs (.type id) true args keywords) (fun a s₁ => wpAny M A (call (.type id) (first ++ a.pos) a.kw) Q E s₁) E s) :
    wpAny M A (callWith pos (.type id) first args keywords) Q E s := by
  unfold callWith
  refine wpAny_bind (wpAny_holding (wpAny_mono h (fun a s₁ h₁ => wpAny_bind (wpAny_standAt ?_)) fun _ _ x => x))
  simp only [hplain, hkw, Bool.or_false]
  refine wpAny_bind (wpAny_pure ?_)
  exact wpAny_bind (wpAny_mono h₁ (fun r s₂ hr => wpAny_bind (wpAny_holding (wpAny_point (wpAny_pure hr)))) fun _ _ x => x)
theorem callWith_kwT {pos : Pos} {id : String} {e : Expr} {rest : List Expr} {kws : List Keyword} {Q : Value → Shared → Prop}
    (h : wpAny M A (spliced (backTo pos (starEach (e :: rest) env))) (fun vs s₁ => wpAny M A (evalAll ((backToKw pos (keywordEach kws env)).map (·.2)))
      (fun kvs s₂ => wpAny M A (call (.type id) vs (((backToKw pos (keywordEach kws env)).filterMap (·.1)).zip kvs)) Q E s₂) E s₁) E s)
    (he : backTo pos (starEach (e :: rest) env) = (false, eval e env) :: backTo pos (starEach rest env) := by rfl)
    (hplain : (backTo pos (starEach (e :: rest) env)).any (·.1) = false := by rfl)
    (hall : (backToKw pos (keywordEach kws env)).all (·.1.isSome) = true := by rfl)
    (hkw : (backToKw pos (keywordEach kws env)).any (·.1.isNone) = false := by rfl) :
    wpAny M A (callWith pos (.type id) [] (backTo pos (starEach (e :: rest) env)) (backToKw pos (keywordEach kws env))) Q E s := by
  refine callWith_type_kwB hplain hkw ?_
  rw [he] at h ⊢
  exact evalArgs_kwB hall h
end
/-- the items with their counts from c, each in a new pair -/
def IteS (K : PySem.W.Frag) (c : Int) (a : Addr) (tup : Bool) : It :=
  ⟨fun i H => ∃ (xs : List V) (x : V), (if tup then SqT K H a xs else SqL K H a xs) ∧ xs[i]? = some x, fun i H v H' => ∃ T x, v = .ref T ∧ H T = none ∧ H' = upd H T (.tup [.int (c + (i : Nat)), x]) ∧ ∀ xs, (if tup then SqT K H a xs else SqL K H a xs) → xs[i]? = some x, fun i H => ∃ xs : List V, (if tup then SqT K H a xs else SqL K H a xs) ∧ xs.length = i⟩
def StS (c : Int) (tup : Bool) (a e it : Addr) (i : Nat) (h : Heap) : Prop := (∃ old, IsEnum h e it (c + (i : Int)) old) ∧ (if tup then h.IsTupleIter it a i else h.IsListIter it a i) ∧ e ≠ it ∧ e ≠ a
theorem sq_vals {X : Cx} {pins : List (Addr × Obj)} {σ : L2.St} {H : Hp} {s : Shared} {a : Addr} {xs : List V} {tup : Bool} (I : Inv X pins σ H s) (h : if tup then SqT X.K H a xs else SqL X.K H a xs) :
    ∃ its : List Value, Vals xs its ∧ (if tup then s.heap.IsTuple a its.toArray else s.heap.IsList a its.toArray) := by
  cases tup with
  | true =>
    obtain ⟨its, rv, p, hz⟩ := I.tuple h
    exact ⟨its, rv, p⟩
  | false =>
    obtain ⟨its, rv, p, hz⟩ := I.list h
    exact ⟨its, rv, p.isList⟩
theorem draws_sq {prog : Program} {w : World} {A : Around} (hh : A.handled = none) (it a : Addr) (hne : a ≠ it) (items : Array Value) (tup : Bool) :
    Draws prog w A it [it, a] items.size (fun i v => items[i]? = some v) (fun i h => (if tup then h.IsTupleIter it a i else h.IsListIter it a i) ∧ (if tup then h.IsTuple a items else h.IsList a items)) := by
  cases tup with
  | true => exact Draws.tuple hh it a hne items
  | false => exact Draws.list hh it a hne items
theorem turn_enumS {P : Program} {w : World} {K : PySem.W.Frag} {elts : List Expr} {kk : Nat} {tpos : Pos} (c : Int) (tup : Bool) (a e it : Addr) (hat : a ≠ it) :
    Turn P w K (.Tuple elts kk tpos) (IteS K c a tup) [e, it] e (StS c tup a e it) where
  mem := by simp
  obj := fun i h st b hb => by
    obtain ⟨⟨old, he⟩, hit, _⟩ := st
    have e' : b = e ∨ b = it := by simpa using hb
    rcases e' with z | z
    · rw [z]; exact ⟨_, he, fun v q => nomatch q⟩
    · rw [z]
      cases tup with
      | true =>
        obtain ⟨o, ho, hc, hd⟩ := hit
        exact ⟨o, ho, fun v q => by rw [hd] at q; cases q⟩
      | false =>
        obtain ⟨o, ho, hc, hd⟩ := hit
        exact ⟨o, ho, fun v q => by rw [hd] at q; cases q⟩
  keep := fun i h h' st k => by
    obtain ⟨⟨old, he⟩, hi, hne, hea⟩ := st
    refine ⟨⟨old, k e (by simp) _ he⟩, ?_, hne, hea⟩
    cases tup with
    | true => exact hi.at fun o q => k it (by simp) o q
    | false => exact hi.at fun o q => k it (by simp) o q
  item := by
    intro X hP hw hK hc i pins s σ H E I hf st hg
    subst hP hw hK
    obtain ⟨⟨old, he⟩, hit, hne, hea⟩ := st
    obtain ⟨xs, x, hq, hx⟩ := hg
    obtain ⟨its, rv, p⟩ := sq_vals I hq
    obtain ⟨u, hu, ru⟩ := rv.get hx
    have hel : e < s.heap.objs.size := Heap.lt_size he
    have hil : it < s.heap.objs.size := by
      cases tup with
      | true => obtain ⟨_, q, _⟩ := hit; exact Heap.lt_size q
      | false => obtain ⟨_, q, _⟩ := hit; exact Heap.lt_size q
    have hlt : i < its.toArray.size := by
      have := (List.getElem?_eq_some_iff.mp hu).1
      simpa using this
    refine wpAny_pyNext_enum_itemC (draws_sq (prog := X.prog) (w := X.w) (A := X.A.in1) (I.ok.hd hc) it a hat its.toArray tup) he ⟨hit, p⟩ hlt hne (by simp [hne, hea]) fun y h' tk hy ho hst' hT hsz hk => ?_
    obtain ⟨hit', _⟩ := hst'
    have ey : y = u := by
      have e1 : its.toArray[i]? = some u := by simpa using hu
      rw [e1] at hy
      exact (Option.some.inj hy).symm
    subst ey
    refine ⟨_, rfl, wpAny_letOwnedTupleGo_enum (s := { s with heap := h', toks := tk + 1 }) ho fun h'' he' sb => ?_⟩
    have hT2 : h''.get? s.heap.objs.size = some { cls := .type "tuple", data := .seq #[.int (c + i) tk, y] } := (sb.2 _ (Nat.ne_of_gt hel)).trans hT
    have new : ObjOk X.prog X.w (upd H s.heap.objs.size (.tup [.int (c + (i : Nat)), x])) h'' s.heap.objs.size (.tup [.int (c + (i : Nat)), x]) :=
      ⟨by show 2 ≤ sizeLine; decide, [.int (c + i) tk, y], .cons ⟨_, rfl⟩ (.cons ru .nil), ⟨_, hT2, rfl, _, rfl⟩⟩
    have I1 : Inv X pins σ (upd H s.heap.objs.size (.tup [.int (c + (i : Nat)), x])) { s with heap := h'', toks := tk + 1 } :=
      I.turnedNew (ch := [e, it]) (fun b ob hb q => (sb.2 b (fun z => hb (by simp [z]))).trans (hk b ob (fun z => hb (by simp [z])) (fun z => hb (by simp [z])) q)) hf (Nat.le_refl _) new
    refine ⟨.ref s.heap.objs.size, _, I1, rfl, ⟨_, x, rfl, I.hok.fresh (Nat.le_refl _), rfl, fun ys hy => ?_⟩, ⟨⟨y, ?_⟩, ?_, hne, hea⟩, fun b hb => ?_⟩
    · cases tup with
      | true => rw [I.tuple_inj hy hq]; exact hx
      | false => rw [I.list_inj hy hq]; exact hx
    · have e1 : c + ((i + 1 : Nat) : Int) = c + (i : Int) + 1 := by omega
      rw [e1]; exact he'
    · cases tup with
      | true => exact hit'.at fun o q => (sb.2 it (Ne.symm hne)).trans q
      | false => exact hit'.at fun o q => (sb.2 it (Ne.symm hne)).trans q
    · have hb' : b < s.heap.objs.size := by
        have e' : b = e ∨ b = it := by simpa using hb
        rcases e' with z | z
        · rw [z]; exact hel
        · rw [z]; exact hil
      rw [upd_ne (Nat.ne_of_lt hb')]
      exact (hf b hb).1
  done := by
    intro X hP hw hK hc i pins s σ H E I hf st hg
    subst hP hw hK
    obtain ⟨⟨old, he⟩, hit, hne, hea⟩ := st
    obtain ⟨xs, hq, hx⟩ := hg
    obtain ⟨its, rv, p⟩ := sq_vals I hq
    obtain ⟨f0, f1, f2, f3, f4, f5⟩ := hf it (by simp)
    have hl := rv.length
    have en : i = its.toArray.size := by
      rw [List.size_toArray]
      omega
    subst en
    exact wpAny_pyNext_enum_endD (draws_sq (prog := X.prog) (w := X.w) (A := X.A.in1) (I.ok.hd hc) it a hat its.toArray tup) he ⟨hit, p⟩ fun h' eb => ⟨rfl, I.turned (t' := s.toks) (fun b o hb q => eb b o hb q) f0 f1 f3 f4 f5⟩
  self := fun A i s Q E st h => let ⟨⟨_, he⟩, _⟩ := st; wpAny_pyIter_enum he h
def iEnumS (K : PySem.W.Frag) (ta : TA) (tk : TA) : TI := fun σ H R => ta σ H fun vs H1 => tk σ H1 fun zs H2 => ∃ (a : Addr) (xs : List V) (c : Int) (tup : Bool), vs = [.ref a] ∧ zs = [.int c] ∧ -(2 ^ 63) ≤ c ∧ c < 2 ^ 63 ∧ (if tup then SqT K H2 a xs else SqL K H2 a xs) ∧ R (IteS K c a tup) H2
theorem pi_enumK {X : Cx} {e : Expr} {ta tk : TA} {p pos tpos : Pos} {kws : List Keyword} {elts : List Expr} {kk : Nat} (hg : Gl X "enumerate") (hm : X.mg "enumerate" = none) (ha : PA X [e] ta) (hk : PK X kws tk)
    (he : backTo pos (starEach [e] X.env) = (false, eval e X.env) :: backTo pos (starEach [] X.env) := by rfl) (hpl : (backTo pos (starEach [e] X.env)).any (·.1) = false := by rfl)
    (hall : (backToKw pos (keywordEach kws X.env)).all (·.1.isSome) = true := by rfl) (hnone : (backToKw pos (keywordEach kws X.env)).any (·.1.isNone) = false := by rfl) (hks : (backToKw pos (keywordEach kws X.env)).filterMap (·.1) = [Str.ofString "start"] := by rfl) :
    PI X (.Tuple elts kk tpos) (.Call (.Name "enumerate" p) [e] kws pos) (iEnumS X.K ta tk) := by
  refine ⟨fun pins s σ H R I h => ?_⟩
  refine wpAny_Call_Name_kw (ld_blt I hg hm boot_enumerate ?_)
  refine callWith_kwT (thn (ha.run pos pins s σ H _ I h) fun us s0 ⟨vs, H0, I0, r1, q1⟩ => thn (hk.run pos pins s0 σ H0 _ I0 q1) fun ws s1 ⟨zs, H1, I1, r2, q2⟩ => ?_) he hpl hall hnone
  rw [hks]
  obtain ⟨a, xs, c, tup, ex, ez, c0, c1, hq, q⟩ := q2
  subst ex ez
  cases r1 with
  | cons r rr =>
    cases rr
    cases r
    cases r2 with
    | cons r rr =>
      cases rr
      obtain ⟨t, rfl⟩ := r
      show wpAny (model X.prog X.w) X.A (call (.type "enumerate") [.ref a] [(Str.ofString "start", .int c t)]) _ X.xe s1
      have main : ∀ (tup : Bool) (its : List Value), (if tup then s1.heap.IsTuple a its.toArray else s1.heap.IsList a its.toArray) → R (IteS X.K c a tup) H1 →
          wpAny (model X.prog X.w) X.A (call (.type "enumerate") [.ref a] [(Str.ofString "start", .int c t)]) (fun v s1 => wpAny (model X.prog X.w) X.A (pyIter v) (PIE X pins σ (.Tuple elts kk tpos) R) X.xe s1) X.xe s1 := by
        intro tup its p2 q
        have hal : a < s1.heap.objs.size := by
          cases tup with
          | true => obtain ⟨o, ho, _⟩ := p2; exact Heap.lt_size ho
          | false => obtain ⟨o, ho, _⟩ := p2; exact Heap.lt_size ho
        have fin : ∀ (h' : Heap), IsEnum h' (s1.heap.objs.size + 1) s1.heap.objs.size c .none → (if tup then h'.IsTupleIter s1.heap.objs.size a 0 else h'.IsListIter s1.heap.objs.size a 0) → (∀ b o, s1.heap.get? b = some o → h'.get? b = some o) →
            wpAny (model X.prog X.w) X.A (pyIter (.ref (s1.heap.objs.size + 1))) (PIE X pins σ (.Tuple elts kk tpos) R) X.xe { s1 with heap := h' } := by
          intro h' he hit hk
          refine wpAny_pyIter_enum he ?_
          have I2 : Inv X pins σ H1 { s1 with heap := h' } := I1.kept (t' := s1.toks) hk
          refine ⟨s1.heap.objs.size + 1, [s1.heap.objs.size + 1, s1.heap.objs.size], _, _, H1, rfl, I2, turn_enumS c tup a (s1.heap.objs.size + 1) s1.heap.objs.size (Nat.ne_of_lt hal),
            ⟨⟨.none, by have e0 : c + ((0 : Nat) : Int) = c := by omega
                        rw [e0]; exact he⟩, hit, Nat.succ_ne_self _, Nat.ne_of_gt (Nat.lt_succ_of_lt hal)⟩, fun b hb => ?_, q⟩
          have e' : b = s1.heap.objs.size + 1 ∨ b = s1.heap.objs.size := by simpa using hb
          have hle : s1.heap.objs.size ≤ b := by
            rcases e' with z | z
            · rw [z]; exact Nat.le_add_right _ _
            · rw [z]; exact Nat.le_refl _
          exact I1.fpOk hle (I1.hok.fresh hle)
        cases tup with
        | true => exact enum_begins_start (begins_tuple a its.toArray) p2 c0 c1 fun h' he hit hsz hk => fin h' he ⟨_, hit, rfl, rfl⟩ hk
        | false => exact enum_begins_start (begins_list a its.toArray) p2 c0 c1 fun h' he hit hsz hk => fin h' he ⟨_, hit, rfl, rfl⟩ hk
      obtain ⟨its, rv, p'⟩ := sq_vals I1 hq
      exact main tup its p' q
theorem walk_enumS {K : PySem.W.Frag} {c : Int} {tup : Bool} {a : Addr} {xs : List V} : Walk (IteS K c a tup) xs.length (fun H => if tup then SqT K H a xs else SqL K H a xs) (YPair (fun i => some (.int (c + (i : Nat)))) (fun i => xs[i]?)) := by
  refine ⟨fun i _ hi q => ⟨xs, xs[i], q, by simp [hi]⟩, fun _ q => ⟨xs, q, rfl⟩, fun i H v H' _ q y => ?_⟩
  obtain ⟨T, x, h1, h2, h3, h4⟩ := y
  exact ⟨T, .int (c + (i : Nat)), x, h1, h2, h3, rfl, h4 xs q⟩
end Xv

set_option Elab.async false
set_option linter.all false
set_option maxRecDepth 100000
set_option maxHeartbeats 0
namespace Xv
open PySem PySem.Spec PyProof.Rows L2
/-! the classes' facts, asked of the written part -/
def veT : List Value := [.type "ValueError", .type "Exception", .type "BaseException", .type "object"]
def oexB (K : PySem.W.Frag) (C : Addr) : Bool := match K.lookup C with
  | some ⟨.type "type", _, .cls cd, sl⟩ => (match cd.mro, sl.toList with
    | .ref C' :: bm, [_, _, _, _, some (.builtin n), _] => decide (C' = C) && (decide (n = "ValueError.__new__") && (!cd.hasDel && (PySem.HandSPX.refsVE bm && cd.hasDict)))
    | _, _ => false)
  | _ => false
theorem oexB_ok {K : PySem.W.Frag} {C : Addr} (h : oexB K C = true) : ∃ nm q N bs bm sn sub ab col dd k0 k1 k2 k3 k5, K.lookup C = some (excClassObj nm q C N bs bm true sn sub ab col dd k0 k1 k2 k3 k5 "ValueError.__new__") ∧ PySem.HandSPX.refsVE bm = true := by
  unfold oexB at h
  split at h
  · rename_i dx cd sl ho
    split at h
    · rename_i C' bm k0 k1 k2 k3 n k5 hm hs
      simp only [Bool.and_eq_true, decide_eq_true_eq, Bool.not_eq_true'] at h
      obtain ⟨rfl, rfl, hd, hr, hh⟩ := h
      obtain ⟨nm, bs, mro, ns, qn, hdc, sn, sub, ab, col, del⟩ := cd
      dsimp only at hm hd hh
      subst hm hd hh
      obtain ⟨l⟩ := sl
      have hs' : l = [k0, k1, k2, k3, some (.builtin "ValueError.__new__"), k5] := hs
      subst hs'
      exact ⟨nm, qn, ns, bs, bm, sn, sub, ab, col, dx, k0, k1, k2, k3, k5, ho, hr⟩
    · cases h
  · cases h
def eqV2 (a b : Option Value) : Bool := decide (a = b)
/-- a class of errors whose way up is l -/
def clsB (K : PySem.W.Frag) (C : Addr) (l : List Value) : Bool := (match PySem.W.clsIn K C with
  | some cd => decide (cd.mro = l) && cd.hasDict
  | none => false) && (eqV2 (PySem.W.typeIn K (.ref C)) (some (.type "type")) && (He.eqO (PySem.W.findIn K (.ref C) "__getattribute__") (some (some (.builtin "BaseException.__getattribute__"))) && (He.eqO (PySem.W.findIn K (.ref C) "__getattr__") (some none) &&
    (He.eqO (PySem.W.findIn K (.ref C) "__class__") (some (some (.builtin "object.__class__"))) && PySem.W.keepIn K (.ref C)))))
structure ClsOk (K : PySem.W.Frag) (C : Addr) (l : List Value) : Prop where
  cl : ∃ cd, PySem.W.clsIn K C = some cd ∧ cd.mro = l ∧ cd.hasDict = true
  ty : PySem.W.typeIn K (.ref C) = some (.type "type")
  ga : PySem.W.findIn K (.ref C) "__getattribute__" = some (some (.builtin "BaseException.__getattribute__"))
  gg : PySem.W.findIn K (.ref C) "__getattr__" = some none
  gc : PySem.W.findIn K (.ref C) "__class__" = some (some (.builtin "object.__class__"))
  kp : PySem.W.keepIn K (.ref C) = true
theorem clsB_ok {K : PySem.W.Frag} {C : Addr} {l : List Value} (h : clsB K C l = true) : ClsOk K C l := by
  unfold clsB at h
  simp only [Bool.and_eq_true] at h
  obtain ⟨h1, h2, h3, h4, h5, h6⟩ := h
  refine ⟨?_, of_decide_eq_true h2, He.eqO_ok h3, He.eqO_ok h4, He.eqO_ok h5, h6⟩
  cases e : PySem.W.clsIn K C with
  | none =>
    rw [e] at h1
    cases h1
  | some cd =>
    rw [e] at h1
    have h1' : (decide (cd.mro = l) && cd.hasDict) = true := h1
    rw [Bool.and_eq_true] at h1'
    exact ⟨cd, rfl, of_decide_eq_true h1'.1, h1'.2⟩
theorem ClsOk.sub {K : PySem.W.Frag} {C : Addr} {l : List Value} (h : ClsOk K C l) (hl : l ≠ []) (b : Value) : PySem.W.subIn K (.ref C) b = some (l.contains b) := by
  obtain ⟨cd, e, rfl, _⟩ := h.cl
  show (PySem.W.clsIn K C).bind (fun cd => if cd.mro.isEmpty then none else some (cd.mro.contains b)) = _
  rw [e]
  show (if cd.mro.isEmpty = true then none else some (cd.mro.contains b)) = _
  rw [if_neg (by cases q : cd.mro with
    | nil => exact absurd q hl
    | cons _ _ => exact Bool.false_ne_true)]
theorem ClsOk.excC {K : PySem.W.Frag} {C : Addr} {l : List Value} (h : ClsOk K C l) (hl : l ≠ []) (h1 : l.contains (.type "BaseException") = true) (h2 : l.contains (.type "object") = true) (hn : PySem.W.specialIn K (.builtin "object.__class__") "__get__" = some (some (.builtin "getset_descriptor.__get__")))
    (ht : PySem.W.takesIn K (.builtin "object.__class__") = some true) : ExcC K C where
  hg := h.ga
  hk := h.gg
  hs := by rw [h.sub hl, h1]
  hd := by
    obtain ⟨cd, e, _, hd⟩ := h.cl
    show (PySem.W.clsIn K C).any (·.hasDict) = true
    rw [e]
    exact hd
  ha := h.gc
  hn := hn
  ht := ht
  hm := by
    have z := h.sub hl (.type "object")
    rw [h2] at z
    exact z
theorem ClsOk.kit {K : PySem.W.Frag} {C D : Addr} {l m : List Value} (h : ClsOk K C l) (hl : l ≠ []) (hD : ClsOk K D m) {b : Bool} (e : (decide (C = D) || l.contains (.ref D)) = b) : PySem.W.kitOne K (.ref C) (.ref D) = some b := by
  unfold PySem.W.kitOne
  by_cases q : C = D
  · subst q
    rw [if_pos (by simp)]
    rw [decide_eq_true rfl] at e
    exact congrArg some e
  · rw [if_neg (by simpa using q)]
    show (if ((PySem.W.clsIn K D).isSome && PySem.W.typeIn K (.ref D) == some (.type "type")) = true then PySem.W.subIn K (.ref C) (.ref D) else none) = some b
    obtain ⟨cd, ed, _⟩ := hD.cl
    rw [ed, hD.ty, if_pos (by rfl), h.sub hl]
    rw [decide_eq_false q, Bool.false_or] at e
    exact congrArg some e
theorem ClsOk.kitT {K : PySem.W.Frag} {C : Addr} {l : List Value} (h : ClsOk K C l) (hl : l ≠ []) {T : String} (hT : PySem.W.kitMeta T = true) (e : l.contains (.type T) = true) : PySem.W.kitOne K (.ref C) (.type T) = some true := by
  unfold PySem.W.kitOne
  rw [if_neg (by simp)]
  show (if PySem.W.kitMeta T = true then PySem.W.subIn K (.ref C) (.type T) else none) = some true
  rw [if_pos hT, h.sub hl, e]
def eqB (a b : Option Bool) : Bool := decide (a = b)
def cfB (r : Option PySem.W.CFound) : Bool := match r with
  | some (.val v) => decide (v = .builtin "ValueError.__init__")
  | _ => false
theorem cfB_ok {r : Option PySem.W.CFound} (h : cfB r = true) : r = some (.val (.builtin "ValueError.__init__")) := by
  unfold cfB at h
  split at h
  · rw [of_decide_eq_true h]
  · cases h
/-! a hook: the facts by names, more of them by a Bool, the law's own table of code objects -/
abbrev AlE : Type := He.AlD × Bool
def asE (g : Addr → Option Obj) (n : Nat) : List Addr := cStatics :: He.asD g n
def lawD : He.Defn := ("law", none)
def obsE (fa : List He.Fa) (fn : List He.DefD) (ext : PySem.W.Frag → Bool) (n : Nat) (g : Addr → Option Obj) : AlE := (He.obsD fa fn (He.frT g (asE g n)), ext (He.frT g (asE g n)) && He.tabsB g [lawD] (He.frT g (asE g n)))
structure SaysE (fa : List He.Fa) (fn : List He.DefD) (ext : PySem.W.Frag → Bool) (h : Heap) (K : PySem.W.Frag) : Prop where
  d : He.SaysD fa fn K
  more : ext K = true
  hd : PySem.W.codeHdIn K (He.cT K lawD).1 (He.cT K lawD).2 = true
  out : K.lookup (He.cT K lawD).2 = none
  empty : h.get? (He.cT K lawD).2 = some { cls := .none, data := .fields #[] }
theorem saysE_of {fa : List He.Fa} {fn : List He.DefD} {ext : PySem.W.Frag → Bool} {n : Nat} {h : Heap} (e : obsE fa fn ext n h.get? = (He.valD fn, true)) : SaysE fa fn ext h (He.frT h.get? (asE h.get? n)) := by
  have e1 : He.obsD fa fn (He.frT h.get? (asE h.get? n)) = He.valD fn := congrArg (fun z : AlE => z.1) e
  have e2 : (ext (He.frT h.get? (asE h.get? n)) && He.tabsB h.get? [lawD] (He.frT h.get? (asE h.get? n))) = true := congrArg (fun z : AlE => z.2) e
  obtain ⟨h1, h2⟩ := Bool.and_eq_true_iff.mp e2
  obtain ⟨h3, h4⟩ := Bool.and_eq_true_iff.mp (List.all_eq_true.mp h2 lawD (List.mem_singleton.mpr rfl))
  cases q : h.get? (He.cT (He.frT h.get? (asE h.get? n)) lawD).2 with
  | none =>
    rw [q] at h4
    cases h4
  | some o =>
    rw [q] at h4
    exact ⟨e1, h1, h3, He.frT_none q h4, by rw [q, He.emptyTab_eq h4]⟩
def hookE (fa : List He.Fa) (fn : List He.DefD) (ext : PySem.W.Frag → Bool) (n : Nat) : PySem.W.Hook where
  α := AlE
  obs := fun s => obsE fa fn ext n s.heap.get?
  val := fun _ => (He.valD fn, true)
  says := fun _ h => ∃ K : PySem.W.Frag, K.In h ∧ SaysE fa fn ext h K
  of := fun _ _ e => ⟨_, He.frT_in, saysE_of e⟩
  keeps := fun _ _ _ ⟨K, hK, c⟩ k => ⟨K, PySem.W.Frag.In.keeps hK k, ⟨c.d, c.more, c.hd, c.out, k _ _ c.empty⟩⟩
end Xv

set_option Elab.async false
set_option linter.all false
set_option maxRecDepth 100000
set_option maxHeartbeats 4000000
/-! power series with whole coefficients, as functions -/
namespace Ps
/-- f 0 + .. + f (n - 1) -/
def sm (f : Nat → Int) : Nat → Int
  | 0 => 0
  | n + 1 => sm f n + f n
theorem sm_congr {f g : Nat → Int} : ∀ n : Nat, (∀ i, i < n → f i = g i) → sm f n = sm g n
  | 0, _ => rfl
  | n + 1, h => by
    show sm f n + f n = sm g n + g n
    rw [sm_congr n fun i hi => h i (by omega), h n (by omega)]
theorem sm_add (f g : Nat → Int) : ∀ n, sm (fun i => f i + g i) n = sm f n + sm g n
  | 0 => rfl
  | n + 1 => by
    show sm (fun i => f i + g i) n + (f n + g n) = sm f n + f n + (sm g n + g n)
    rw [sm_add f g n]
    omega
theorem sm_mul (c : Int) (f : Nat → Int) : ∀ n, sm (fun i => c * f i) n = c * sm f n
  | 0 => by
    show (0 : Int) = c * 0
    rw [Int.mul_zero]
  | n + 1 => by
    show sm (fun i => c * f i) n + c * f n = c * (sm f n + f n)
    rw [sm_mul c f n, Int.mul_add]
theorem sm_mul' (c : Int) (f : Nat → Int) (n : Nat) : sm (fun i => f i * c) n = sm f n * c := by
  rw [Int.mul_comm (sm f n), ← sm_mul]
  exact sm_congr n fun i _ => Int.mul_comm _ _
theorem sm_zero : ∀ n, sm (fun _ => 0) n = 0
  | 0 => rfl
  | n + 1 => by
    show sm (fun _ => 0) n + 0 = 0
    rw [sm_zero n]
    rfl
theorem sm_first (f : Nat → Int) : ∀ n, sm f (n + 1) = f 0 + sm (fun i => f (i + 1)) n
  | 0 => by
    show 0 + f 0 = f 0 + 0
    omega
  | n + 1 => by
    show sm f (n + 1) + f (n + 1) = f 0 + (sm (fun i => f (i + 1)) n + f (n + 1))
    rw [sm_first f n]
    omega
theorem sm_rev (f : Nat → Int) : ∀ n, sm (fun i => f (n - 1 - i)) n = sm f n
  | 0 => rfl
  | n + 1 => by
    rw [sm_first]
    show f (n + 1 - 1 - 0) + sm (fun i => f (n + 1 - 1 - (i + 1))) n = sm f n + f n
    have e : sm (fun i => f (n + 1 - 1 - (i + 1))) n = sm (fun i => f (n - 1 - i)) n := sm_congr n fun i hi => by
      have e2 : n + 1 - 1 - (i + 1) = n - 1 - i := by omega
      rw [e2]
    rw [e, sm_rev f n]
    have e3 : n + 1 - 1 - 0 = n := by omega
    rw [e3]
    omega
/-- the triangle summed the other way -/
theorem sm_tri (F : Nat → Nat → Int) : ∀ n, sm (fun i => sm (fun j => F i j) (i + 1)) n = sm (fun j => sm (fun k => F (k + j) j) (n - j)) n
  | 0 => rfl
  | n + 1 => by
    show sm (fun i => sm (fun j => F i j) (i + 1)) n + (sm (fun j => F n j) n + F n n) = sm (fun j => sm (fun k => F (k + j) j) (n + 1 - j)) n + sm (fun k => F (k + n) n) (n + 1 - n)
    rw [sm_tri F n]
    have e1 : sm (fun j => sm (fun k => F (k + j) j) (n + 1 - j)) n = sm (fun j => sm (fun k => F (k + j) j) (n - j) + F n j) n := sm_congr n fun j hj => by
      have e2 : n + 1 - j = (n - j) + 1 := by omega
      rw [e2]
      show sm _ (n - j) + F (n - j + j) j = _
      have e3 : n - j + j = n := by omega
      rw [e3]
    have e4 : sm (fun k => F (k + n) n) (n + 1 - n) = F n n := by
      have e5 : n + 1 - n = 1 := by omega
      rw [e5]
      show 0 + F (0 + n) n = F n n
      rw [Nat.zero_add]
      omega
    have e9 : sm (F n) n = sm (fun j => F n j) n := rfl
    rw [e1, sm_add, e4]
    omega
abbrev S : Type := Nat → Int
/-- the product -/
def cv (f g : S) : S := fun n => sm (fun i => f i * g (n - i)) (n + 1)
def one : S := fun n => if n = 0 then 1 else 0
theorem cv_comm (f g : S) : cv f g = cv g f := by
  funext n
  unfold cv
  rw [← sm_rev (fun i => f i * g (n - i)) (n + 1)]
  refine sm_congr _ fun i hi => ?_
  have e1 : n + 1 - 1 - i = n - i := by omega
  have e2 : n - (n - i) = i := by omega
  show f (n + 1 - 1 - i) * g (n - (n + 1 - 1 - i)) = _
  rw [e1, e2, Int.mul_comm]
theorem cv_assoc (f g h : S) : cv (cv f g) h = cv f (cv g h) := by
  funext n
  unfold cv
  have e1 : sm (fun i => sm (fun j => f j * g (i - j)) (i + 1) * h (n - i)) (n + 1) = sm (fun i => sm (fun j => f j * g (i - j) * h (n - i)) (i + 1)) (n + 1) := sm_congr _ fun i hi => (sm_mul' _ _ _).symm
  rw [e1, sm_tri (fun i j => f j * g (i - j) * h (n - i))]
  refine sm_congr _ fun j hj => ?_
  have e2 : n + 1 - j = (n - j) + 1 := by omega
  rw [e2, ← sm_mul]
  refine sm_congr _ fun k hk => ?_
  have e3 : k + j - j = k := by omega
  have e4 : n - (k + j) = n - j - k := by omega
  rw [e3, e4, Int.mul_assoc]
theorem cv_one (f : S) : cv f one = f := by
  rw [cv_comm]
  funext n
  unfold cv
  rw [sm_first]
  have e : sm (fun i => one (i + 1) * f (n - (i + 1))) n = 0 := by
    rw [← sm_zero n]
    refine sm_congr _ fun i _ => ?_
    show (if i + 1 = 0 then (1 : Int) else 0) * _ = 0
    rw [if_neg (by omega), Int.zero_mul]
  rw [e]
  show (1 : Int) * f (n - 0) + 0 = f n
  rw [Int.one_mul, Int.add_zero, Nat.sub_zero]
theorem one_cv (f : S) : cv one f = f := by
  rw [cv_comm, cv_one]
def sc (c : Int) (f : S) : S := fun n => c * f n
def ad (f g : S) : S := fun n => f n + g n
theorem cv_sc (c : Int) (f g : S) : cv f (sc c g) = sc c (cv f g) := by
  funext n
  unfold cv sc
  rw [← sm_mul]
  refine sm_congr _ fun i _ => ?_
  rw [← Int.mul_assoc, Int.mul_comm (f i) c, Int.mul_assoc]
theorem sc_cv (c : Int) (f g : S) : cv (sc c f) g = sc c (cv f g) := by
  rw [cv_comm, cv_sc, cv_comm]
theorem cv_ad (f g h : S) : cv f (ad g h) = ad (cv f g) (cv f h) := by
  funext n
  unfold cv ad
  rw [← sm_add]
  refine sm_congr _ fun i _ => Int.mul_add _ _ _
/-- n * f n -/
def dv (f : S) : S := fun n => (n : Int) * f n
theorem dv_cv (f g : S) : dv (cv f g) = ad (cv (dv f) g) (cv f (dv g)) := by
  funext n
  unfold dv cv ad
  rw [← sm_mul, ← sm_add]
  refine sm_congr _ fun i hi => ?_
  have e : (n : Int) = (i : Int) + ((n - i : Nat) : Int) := by omega
  have e1 : ((i : Int) + ((n - i : Nat) : Int)) * (f i * g (n - i)) = (i : Int) * f i * g (n - i) + f i * (((n - i : Nat) : Int) * g (n - i)) := by
    rw [Int.add_mul, Int.mul_assoc, ← Int.mul_assoc (f i), Int.mul_comm (f i) ((n - i : Nat) : Int), Int.mul_assoc]
  rw [← e1, ← e]
theorem dv_one : dv one = fun _ => 0 := by
  funext n
  show (n : Int) * (if n = 0 then 1 else 0) = 0
  by_cases h : n = 0
  · rw [h]
    rfl
  · rw [if_neg h, Int.mul_zero]
/-- powers -/
def pw (f : S) : Nat → S
  | 0 => one
  | k + 1 => cv (pw f k) f
theorem cv_zero (f : S) : cv f (fun _ => 0) = fun _ => 0 := by
  funext n
  unfold cv
  refine Eq.trans (sm_congr _ fun i _ => Int.mul_zero _) (sm_zero _)
theorem sc_zero (c : Int) : sc c (fun _ => 0) = fun _ => 0 := by
  funext n
  exact Int.mul_zero _
/-- f times the derivative of its power -/
theorem dv_pw (f : S) : ∀ k : Nat, cv f (dv (pw f k)) = sc (k : Int) (cv (dv f) (pw f k))
  | 0 => by
    show cv f (dv one) = _
    rw [dv_one, cv_zero]
    funext n
    exact (Int.zero_mul _).symm
  | k + 1 => by
    show cv f (dv (cv (pw f k) f)) = sc ((k + 1 : Nat) : Int) (cv (dv f) (cv (pw f k) f))
    rw [dv_cv, cv_ad]
    have e1 : cv f (cv (dv (pw f k)) f) = sc (k : Int) (cv (dv f) (cv (pw f k) f)) := by
      rw [← cv_assoc, dv_pw f k, sc_cv, cv_assoc]
    have e2 : cv f (cv (pw f k) (dv f)) = cv (dv f) (cv (pw f k) f) := by
      rw [cv_comm f, cv_comm (pw f k), cv_assoc]
    rw [e1, e2]
    funext n
    show (k : Int) * _ + _ = ((k + 1 : Nat) : Int) * _
    have e3 : ((k + 1 : Nat) : Int) = (k : Int) + 1 := rfl
    rw [e3, Int.add_mul, Int.one_mul]
/-- the same of the powers of an inverse -/
theorem dv_inv (f g : S) (h : cv f g = one) : ∀ k : Nat, cv f (dv (pw g k)) = sc (-(k : Int)) (cv (dv f) (pw g k))
  | 0 => by
    show cv f (dv one) = _
    rw [dv_one, cv_zero]
    funext n
    show (0 : Int) = -0 * _
    rw [Int.neg_zero, Int.zero_mul]
  | k + 1 => by
    have hd : cv f (dv g) = sc (-1) (cv (dv f) g) := by
      have e := dv_cv f g
      rw [h, dv_one] at e
      funext n
      have e1 := congrFun e n
      have e2 : (0 : Int) = cv (dv f) g n + cv f (dv g) n := e1
      show cv f (dv g) n = -1 * cv (dv f) g n
      omega
    show cv f (dv (cv (pw g k) g)) = sc (-((k + 1 : Nat) : Int)) (cv (dv f) (cv (pw g k) g))
    rw [dv_cv, cv_ad]
    have e1 : cv f (cv (dv (pw g k)) g) = sc (-(k : Int)) (cv (dv f) (cv (pw g k) g)) := by
      rw [← cv_assoc, dv_inv f g h k, sc_cv, cv_assoc]
    have e2 : cv f (cv (pw g k) (dv g)) = sc (-1) (cv (dv f) (cv (pw g k) g)) := by
      rw [cv_comm (pw g k), ← cv_assoc, hd, sc_cv, cv_assoc, cv_comm g]
    rw [e1, e2]
    funext n
    show -(k : Int) * _ + -1 * _ = -((k + 1 : Nat) : Int) * _
    have e3 : -((k + 1 : Nat) : Int) = -(k : Int) + -1 := by
      have : ((k + 1 : Nat) : Int) = (k : Int) + 1 := rfl
      omega
    rw [e3, Int.add_mul]
/-- the recurrence of a power with the exponent e -/
theorem recur {f b : S} {e : Int} (h : cv f (dv b) = sc e (cv (dv f) b)) (n : Nat) : (n : Int) * f 0 * b n = sm (fun i => ((e + 1) * ((i + 1 : Nat) : Int) - (n : Int)) * f (i + 1) * b (n - (i + 1))) n := by
  have h1 : sm (fun i => f i * (((n - i : Nat) : Int) * b (n - i))) (n + 1) = e * sm (fun i => ((i : Nat) : Int) * f i * b (n - i)) (n + 1) := congrFun h n
  rw [sm_first, sm_first] at h1
  have z : ((0 : Nat) : Int) * f 0 * b (n - 0) = 0 := by
    show (0 : Int) * f 0 * _ = 0
    rw [Int.zero_mul, Int.zero_mul]
  rw [z, Int.zero_add, ← sm_mul] at h1
  have e1 : sm (fun i => ((e + 1) * ((i + 1 : Nat) : Int) - (n : Int)) * f (i + 1) * b (n - (i + 1))) n = sm (fun i => e * (((i + 1 : Nat) : Int) * f (i + 1) * b (n - (i + 1)))) n - sm (fun i => f (i + 1) * (((n - (i + 1) : Nat) : Int) * b (n - (i + 1)))) n := by
    have e2 : sm (fun i => ((e + 1) * ((i + 1 : Nat) : Int) - (n : Int)) * f (i + 1) * b (n - (i + 1))) n + sm (fun i => f (i + 1) * (((n - (i + 1) : Nat) : Int) * b (n - (i + 1)))) n = sm (fun i => e * (((i + 1 : Nat) : Int) * f (i + 1) * b (n - (i + 1)))) n := by
      rw [← sm_add]
      refine sm_congr _ fun i hi => ?_
      have e3 : ((n - (i + 1) : Nat) : Int) = (n : Int) - ((i + 1 : Nat) : Int) := by omega
      rw [e3]
      generalize ((i + 1 : Nat) : Int) = I
      generalize (n : Int) = N
      generalize f (i + 1) = F
      generalize b (n - (i + 1)) = B
      have e4 : F * ((N - I) * B) = (N - I) * F * B := by
        rw [← Int.mul_assoc, Int.mul_comm F]
      have e5 : e * (I * F * B) = e * I * F * B := by
        rw [← Int.mul_assoc, ← Int.mul_assoc]
      rw [e4, e5, ← Int.add_mul, ← Int.add_mul]
      congr 2
      rw [Int.add_mul, Int.one_mul]
      omega
    omega
  rw [e1, ← h1]
  have e6 : f 0 * (((n - 0 : Nat) : Int) * b (n - 0)) = (n : Int) * f 0 * b n := by
    rw [Nat.sub_zero, ← Int.mul_assoc, Int.mul_comm (f 0)]
  rw [e6]
  omega
/-! ### an inverse -/
def inA (f : S) (u : Int) : Nat → S
  | 0 => fun m => if m = 0 then u else 0
  | n + 1 => fun m => if m = n + 1 then -u * sm (fun i => f (i + 1) * inA f u n (n - i)) (n + 1) else inA f u n m
def inv (f : S) (u : Int) : S := fun m => inA f u m m
theorem inA_le (f : S) (u : Int) : ∀ n m, m ≤ n → inA f u n m = inv f u m
  | 0, m, h => by
    have e : m = 0 := by omega
    subst e
    rfl
  | n + 1, m, h => by
    by_cases e : m = n + 1
    · subst e
      rfl
    · show (if m = n + 1 then _ else inA f u n m) = _
      rw [if_neg e]
      exact inA_le f u n m (by omega)
theorem inv_zero (f : S) (u : Int) : inv f u 0 = u := rfl
theorem inv_succ (f : S) (u : Int) (n : Nat) : inv f u (n + 1) = -u * sm (fun i => f (i + 1) * inv f u (n - i)) (n + 1) := by
  show (if n + 1 = n + 1 then -u * sm (fun i => f (i + 1) * inA f u n (n - i)) (n + 1) else _) = _
  rw [if_pos rfl]
  congr 1
  refine sm_congr _ fun i _ => ?_
  rw [inA_le f u n (n - i) (by omega)]
theorem cv_inv (f : S) {u : Int} (h0 : f 0 = u) (hu : u * u = 1) : cv f (inv f u) = one := by
  funext n
  unfold cv
  cases n with
  | zero =>
    show 0 + f 0 * inv f u 0 = 1
    rw [h0, inv_zero, hu]
    rfl
  | succ n =>
    rw [sm_first, h0]
    show u * inv f u (n + 1) + sm (fun i => f (i + 1) * inv f u (n + 1 - (i + 1))) (n + 1) = 0
    have e : sm (fun i => f (i + 1) * inv f u (n + 1 - (i + 1))) (n + 1) = sm (fun i => f (i + 1) * inv f u (n - i)) (n + 1) := sm_congr _ fun i _ => by
      have e2 : n + 1 - (i + 1) = n - i := by omega
      rw [e2]
    rw [e, inv_succ, ← Int.mul_assoc, Int.mul_neg, hu]
    omega
theorem pw_zero (f : S) : ∀ k, pw f k 0 = f 0 ^ k
  | 0 => (Int.pow_zero _).symm
  | k + 1 => by
    show cv (pw f k) f 0 = _
    show 0 + pw f k 0 * f 0 = _
    rw [pw_zero f k, Int.zero_add, Int.pow_succ]
/-! ### only the coefficients up to some last one matter -/
theorem cv_congr {f f' g g' : S} {N : Nat} (hf : ∀ i, i < N → f i = f' i) (hg : ∀ i, i < N → g i = g' i) : ∀ n, n < N → cv f g n = cv f' g' n := fun n hn => sm_congr _ fun i hi => by
  rw [hf i (by omega), hg (n - i) (by omega)]
theorem pw_congr {f f' : S} {N : Nat} (hf : ∀ i, i < N → f i = f' i) : ∀ k n, n < N → pw f k n = pw f' k n
  | 0, _, _ => rfl
  | k + 1, n, hn => cv_congr (pw_congr hf k) hf n hn
theorem inv_congr {f f' : S} {u : Int} {N : Nat} (hf : ∀ i, i < N → f i = f' i) : ∀ n, n < N → inv f u n = inv f' u n := by
  intro n
  induction n using Nat.strongRecOn with
  | ind n ih =>
    intro hn
    cases n with
    | zero => rfl
    | succ n =>
      rw [inv_succ, inv_succ]
      congr 1
      refine sm_congr _ fun i hi => ?_
      rw [hf (i + 1) (by omega), ih (n - i) (by omega) (by omega)]
/-! ### shifts -/
/-- q ^ z times it -/
def sh (z : Nat) (f : S) : S := fun n => if n < z then 0 else f (n - z)
theorem sm_split (f : S) (z : Nat) : ∀ n, sm f (z + n) = sm f z + sm (fun i => f (z + i)) n
  | 0 => by
    show sm f z = sm f z + 0
    omega
  | n + 1 => by
    show sm f (z + n) + f (z + n) = _
    rw [sm_split f z n]
    show _ = sm f z + (sm (fun i => f (z + i)) n + f (z + n))
    omega
theorem sh_cv (z : Nat) (f g : S) : cv (sh z f) g = sh z (cv f g) := by
  funext n
  unfold cv
  by_cases h : n < z
  · show _ = if n < z then 0 else _
    rw [if_pos h]
    refine Eq.trans (sm_congr _ fun i hi => ?_) (sm_zero _)
    show (if i < z then 0 else f (i - z)) * _ = 0
    rw [if_pos (by omega), Int.zero_mul]
  · show _ = if n < z then 0 else sm (fun i => f i * g (n - z - i)) (n - z + 1)
    rw [if_neg h]
    have e : n + 1 = z + (n - z + 1) := by omega
    rw [e, sm_split]
    have e0 : sm (fun i => sh z f i * g (n - i)) z = 0 := by
      refine Eq.trans (sm_congr _ fun i hi => ?_) (sm_zero _)
      show (if i < z then 0 else f (i - z)) * _ = 0
      rw [if_pos hi, Int.zero_mul]
    rw [e0, Int.zero_add]
    refine sm_congr _ fun i hi => ?_
    show (if z + i < z then 0 else f (z + i - z)) * g (n - (z + i)) = _
    rw [if_neg (by omega)]
    have e1 : z + i - z = i := by omega
    have e2 : n - (z + i) = n - z - i := by omega
    rw [e1, e2]
theorem sh_sh (a b : Nat) (f : S) : sh a (sh b f) = sh (a + b) f := by
  funext n
  unfold sh
  by_cases h : n < a
  · rw [if_pos h, if_pos (by omega)]
  · rw [if_neg h]
    by_cases h2 : n - a < b
    · rw [if_pos h2, if_pos (by omega)]
    · rw [if_neg h2, if_neg (by omega)]
      congr 1
      omega
theorem sh_zero (f : S) : sh 0 f = f := by
  funext n
  show (if n < 0 then 0 else f (n - 0)) = f n
  rw [if_neg (by omega), Nat.sub_zero]
theorem pw_sh (z : Nat) (f : S) : ∀ k, pw (sh z f) k = sh (z * k) (pw f k)
  | 0 => by
    rw [Nat.mul_zero, sh_zero]
    rfl
  | k + 1 => by
    show cv (pw (sh z f) k) (sh z f) = sh (z * (k + 1)) (cv (pw f k) f)
    rw [pw_sh z f k, sh_cv, cv_comm, sh_cv, cv_comm f, sh_sh]
    rfl
/-! ### bounds -/
theorem sm_bound {f : S} {M : Nat} : ∀ n, (∀ i, i < n → (f i).natAbs ≤ M) → (sm f n).natAbs ≤ n * M
  | 0, _ => by
    show 0 ≤ _
    omega
  | n + 1, h => by
    have h1 := sm_bound n fun i hi => h i (by omega)
    have h2 := h n (by omega)
    show (sm f n + f n).natAbs ≤ (n + 1) * M
    rw [Nat.succ_mul]
    omega
theorem cv_bound {f g : S} {N A B : Nat} (hf : ∀ i, i < N → (f i).natAbs ≤ A) (hg : ∀ i, i < N → (g i).natAbs ≤ B) : ∀ n, n < N → (cv f g n).natAbs ≤ N * (A * B) := fun n hn => by
  refine Nat.le_trans (sm_bound (M := A * B) (n + 1) fun i hi => ?_) (Nat.mul_le_mul_right _ (by omega))
  rw [Int.natAbs_mul]
  exact Nat.mul_le_mul (hf i (by omega)) (hg (n - i) (by omega))
theorem pw_bound {f : S} {N A : Nat} (hf : ∀ i, i < N → (f i).natAbs ≤ A) (hN : 0 < N) : ∀ k n, n < N → (pw f k n).natAbs ≤ (N * A) ^ k
  | 0, n, _ => by
    show (if n = 0 then (1 : Int) else 0).natAbs ≤ 1
    by_cases h : n = 0
    · rw [if_pos h]
      decide
    · rw [if_neg h]
      decide
  | k + 1, n, hn => by
    refine Nat.le_trans (cv_bound (pw_bound hf hN k) hf n hn) ?_
    rw [Nat.pow_succ, ← Nat.mul_assoc, Nat.mul_comm N, Nat.mul_assoc]
    exact Nat.le_refl _
theorem inv_bound {f : S} {u : Int} {N A : Nat} (hu : u.natAbs = 1) (hf : ∀ i, i < N → (f i).natAbs ≤ A) : ∀ n, n < N → (inv f u n).natAbs ≤ (N * (A + 1)) ^ n := by
  intro n
  induction n using Nat.strongRecOn with
  | ind n ih =>
    intro hn
    cases n with
    | zero =>
      rw [inv_zero, hu]
      exact Nat.le_refl _
    | succ n =>
      rw [inv_succ, Int.natAbs_mul, Int.natAbs_neg, hu, Nat.one_mul]
      have hp : 0 < N * (A + 1) := Nat.mul_pos (by omega) (by omega)
      refine Nat.le_trans (sm_bound (M := A * (N * (A + 1)) ^ n) (n + 1) fun i hi => ?_) ?_
      · rw [Int.natAbs_mul]
        refine Nat.mul_le_mul (hf (i + 1) (by omega)) (Nat.le_trans (ih (n - i) (by omega) (by omega)) ?_)
        exact Nat.pow_le_pow_right hp (by omega)
      · rw [Nat.pow_succ, Nat.mul_comm _ (N * (A + 1)), Nat.mul_assoc N]
        have h1 : A * (N * (A + 1)) ^ n ≤ (A + 1) * (N * (A + 1)) ^ n := Nat.mul_le_mul_right _ (by omega)
        exact Nat.mul_le_mul (by omega) h1
end Ps

set_option Elab.async false
set_option linter.all false
set_option maxRecDepth 100000
set_option maxHeartbeats 4000000
/-! products of powers of 1 - q^n, and sums over divisors -/
namespace Ps
/-- 1 - q^n -/
def U (n : Nat) : S := fun i => if i = 0 then 1 else if i = n then -1 else 0
/-- its inverse -/
def G (n : Nat) : S := fun i => if n ∣ i then 1 else 0
/-- q^n / (1 - q^n) -/
def Ev (n : Nat) : S := fun i => if i ≠ 0 ∧ n ∣ i then 1 else 0
/-- q^n -/
def Xp (n : Nat) : S := fun i => if i = n then 1 else 0
theorem sm_one_at (f : S) {m : Nat} : ∀ N, m < N → (∀ i, i < N → i ≠ m → f i = 0) → sm f N = f m
  | 0, h, _ => absurd h (Nat.not_lt_zero _)
  | N + 1, h, h2 => by
    show sm f N + f N = f m
    by_cases e : m = N
    · subst e
      rw [sm_congr (g := fun _ => 0) m (fun i hi => h2 i (by omega) (by omega)), sm_zero]
      omega
    · rw [sm_one_at f N (by omega) (fun i hi hn => h2 i (by omega) hn), h2 N (by omega) (fun z => e z.symm)]
      omega
theorem cv_U {n : Nat} (hn : 0 < n) (f : S) : cv (U n) f = fun k => f k - (if n ≤ k then f (k - n) else 0) := by
  funext k
  unfold cv
  rw [sm_first]
  have e0 : U n 0 * f (k - 0) = f k := by
    show (1 : Int) * f (k - 0) = f k
    rw [Int.one_mul, Nat.sub_zero]
  rw [e0]
  by_cases h : n ≤ k
  · rw [if_pos h, sm_one_at (m := n - 1) (fun i => U n (i + 1) * f (k - (i + 1))) k (by omega) (fun i hi hne => ?_)]
    · show f k + U n (n - 1 + 1) * f (k - (n - 1 + 1)) = _
      have e1 : n - 1 + 1 = n := by omega
      rw [e1]
      have e2 : U n n = -1 := by
        unfold U
        rw [if_neg (by omega), if_pos rfl]
      rw [e2]
      omega
    · show U n (i + 1) * _ = 0
      have e2 : U n (i + 1) = 0 := by
        unfold U
        rw [if_neg (by omega), if_neg (by omega)]
      rw [e2, Int.zero_mul]
  · rw [if_neg h, sm_congr (g := fun _ => 0) k (fun i hi => ?_), sm_zero]
    · omega
    · show U n (i + 1) * _ = 0
      have e2 : U n (i + 1) = 0 := by
        unfold U
        rw [if_neg (by omega), if_neg (by omega)]
      rw [e2, Int.zero_mul]
theorem dvd_lt {n k : Nat} (h : k < n) : n ∣ k ↔ k = 0 := ⟨fun z => by
  rcases Nat.eq_zero_or_pos k with q | q
  · exact q
  · exact absurd (Nat.le_of_dvd q z) (by omega), fun z => by rw [z]; exact Nat.dvd_zero _⟩
theorem dvd_back {n k : Nat} (h : n ≤ k) : n ∣ k ↔ n ∣ k - n := ⟨fun z => Nat.dvd_sub z (Nat.dvd_refl n), fun z => by
  have z2 := Nat.dvd_add z (Nat.dvd_refl n)
  rwa [Nat.sub_add_cancel h] at z2⟩
theorem UG {n : Nat} (hn : 0 < n) : cv (U n) (G n) = one := by
  rw [cv_U hn]
  funext k
  show (if n ∣ k then (1 : Int) else 0) - (if n ≤ k then (if n ∣ k - n then 1 else 0) else 0) = if k = 0 then 1 else 0
  by_cases h : n ≤ k
  · rw [if_pos h, if_neg (by omega : ¬ k = 0)]
    by_cases d : n ∣ k
    · rw [if_pos d, if_pos ((dvd_back h).mp d)]
      rfl
    · rw [if_neg d, if_neg (fun z => d ((dvd_back h).mpr z))]
      rfl
  · rw [if_neg h]
    by_cases d : k = 0
    · rw [if_pos ((dvd_lt (by omega)).mpr d), if_pos d]
      rfl
    · rw [if_neg (fun z => d ((dvd_lt (by omega)).mp z)), if_neg d]
      rfl
theorem UE {n : Nat} (hn : 0 < n) : cv (U n) (Ev n) = Xp n := by
  rw [cv_U hn]
  funext k
  show (if k ≠ 0 ∧ n ∣ k then (1 : Int) else 0) - (if n ≤ k then (if k - n ≠ 0 ∧ n ∣ k - n then 1 else 0) else 0) = if k = n then 1 else 0
  by_cases h : n ≤ k
  · rw [if_pos h]
    by_cases d : n ∣ k
    · rw [if_pos ⟨by omega, d⟩]
      by_cases e : k = n
      · rw [if_pos e, if_neg (by omega)]
        rfl
      · rw [if_neg e, if_pos ⟨by omega, (dvd_back h).mp d⟩]
        rfl
    · rw [if_neg (fun z => d z.2), if_neg (fun z => d ((dvd_back h).mpr z.2)), if_neg (fun z => d (by rw [z]; exact Nat.dvd_refl _))]
      rfl
  · rw [if_neg h, if_neg (fun z => h (Nat.le_of_dvd (Nat.pos_of_ne_zero z.1) z.2)), if_neg (by omega)]
    rfl
theorem dvU {n : Nat} : dv (U n) = sc (-(n : Int)) (Xp n) := by
  funext i
  show (i : Int) * (if i = 0 then 1 else if i = n then -1 else 0) = -(n : Int) * (if i = n then 1 else 0)
  by_cases h : i = n
  · subst h
    rw [if_pos rfl, if_pos rfl]
    by_cases z : i = 0
    · rw [if_pos z]
      omega
    · rw [if_neg z]
      omega
  · rw [if_neg h, if_neg h]
    by_cases z : i = 0
    · rw [if_pos z]
      omega
    · rw [if_neg z]
      omega
theorem cancelU {n : Nat} (hn : 0 < n) {f g : S} (h : cv (U n) f = cv (U n) g) : f = g := by
  have e : ∀ z : S, cv (G n) (cv (U n) z) = z := fun z => by rw [← cv_assoc, cv_comm (G n), UG hn, one_cv]
  rw [← e f, h, e]
theorem ad_zero (f : S) : ad f (fun _ => 0) = f := by
  funext k
  show f k + 0 = f k
  omega
theorem dvG {n : Nat} (hn : 0 < n) : dv (G n) = cv (sc (n : Int) (Ev n)) (G n) := by
  refine cancelU hn ?_
  have h := dv_cv (U n) (G n)
  rw [UG hn, dv_one, dvU, ← UE hn, sc_cv] at h
  have e1 : cv (cv (U n) (Ev n)) (G n) = cv (U n) (cv (Ev n) (G n)) := cv_assoc _ _ _
  rw [e1] at h
  rw [sc_cv, cv_sc]
  funext k
  have hk := congrFun h k
  show cv (U n) (dv (G n)) k = (n : Int) * cv (U n) (cv (Ev n) (G n)) k
  have hk2 : (0 : Int) = -(n : Int) * cv (U n) (cv (Ev n) (G n)) k + cv (U n) (dv (G n)) k := hk
  rw [Int.neg_mul] at hk2
  omega
/-- the logarithmic slope of a is s -/
structure Lg (s a : S) : Prop where
  z : s 0 = 0
  d : dv a = cv s a
theorem Lg.one : Lg (fun _ => 0) one := ⟨rfl, by rw [dv_one, cv_comm, cv_zero]⟩
theorem ad_cv (f g h : S) : cv (ad f g) h = ad (cv f h) (cv g h) := by rw [cv_comm, cv_ad, cv_comm h f, cv_comm h g]
theorem Lg.pos {s a : S} (L : Lg s a) {n : Nat} (hn : 0 < n) : Lg (ad s (sc (n : Int) (Ev n))) (cv (G n) a) := by
  refine ⟨?_, ?_⟩
  · show s 0 + (n : Int) * (if (0 : Nat) ≠ 0 ∧ n ∣ 0 then 1 else 0) = 0
    rw [L.z, if_neg (fun z => z.1 rfl)]
    omega
  · rw [dv_cv, dvG hn, L.d, ad_cv, cv_assoc, ← cv_assoc (G n) s a, cv_comm (G n) s, cv_assoc]
    funext k
    show _ + _ = _ + _
    omega
theorem Lg.neg {s a : S} (L : Lg s a) {n : Nat} (hn : 0 < n) : Lg (ad s (sc (-(n : Int)) (Ev n))) (cv (U n) a) := by
  refine ⟨?_, ?_⟩
  · show s 0 + -(n : Int) * (if (0 : Nat) ≠ 0 ∧ n ∣ 0 then 1 else 0) = 0
    rw [L.z, if_neg (fun z => z.1 rfl)]
    omega
  · rw [dv_cv, dvU, L.d, ad_cv, ← UE hn, sc_cv, sc_cv, cv_assoc, cv_comm (U n) (cv s a), cv_assoc, cv_comm a (U n)]
    have e : cv (U n) (cv (Ev n) a) = cv (Ev n) (cv (U n) a) := by rw [← cv_assoc, cv_comm (U n), cv_assoc]
    rw [e]
    funext k
    show _ + _ = _ + _
    omega
/-- one factor to the power -p, laps done -/
def lapF (n : Nat) (p : Int) : Nat → S → S
  | 0, a => a
  | j + 1, a => if 0 < p then cv (G n) (lapF n p j a) else cv (U n) (lapF n p j a)
def prA (p : S) : Nat → S
  | 0 => one
  | j + 1 => lapF (j + 1) (p j) (p j).natAbs (prA p j)
/-- the weighted sum over divisors, the first j alone -/
def sS (p : S) : Nat → S
  | 0 => fun _ => 0
  | j + 1 => ad (sS p j) (sc (((j + 1 : Nat) : Int) * p j) (Ev (j + 1)))
theorem lg_lap {s a : S} (L : Lg s a) {n : Nat} (hn : 0 < n) (p : Int) : ∀ j, j ≤ p.natAbs → Lg (ad s (sc ((n : Int) * (if 0 < p then (j : Int) else -(j : Int))) (Ev n))) (lapF n p j a)
  | 0, _ => by
    have e : ad s (sc ((n : Int) * (if 0 < p then ((0 : Nat) : Int) else -((0 : Nat) : Int))) (Ev n)) = s := by
      funext k
      show s k + (n : Int) * (if 0 < p then (0 : Int) else -(0 : Int)) * _ = s k
      split <;> simp
    rw [e]
    exact L
  | j + 1, hj => by
    have L1 := lg_lap L hn p j (by omega)
    unfold lapF
    by_cases h : 0 < p
    · rw [if_pos h] at L1
      rw [if_pos h, if_pos h]
      have e : ad s (sc ((n : Int) * ((j + 1 : Nat) : Int)) (Ev n)) = ad (ad s (sc ((n : Int) * (j : Int)) (Ev n))) (sc (n : Int) (Ev n)) := by
        funext k
        show s k + (n : Int) * ((j + 1 : Nat) : Int) * Ev n k = s k + (n : Int) * (j : Int) * Ev n k + (n : Int) * Ev n k
        have e1 : ((j + 1 : Nat) : Int) = (j : Int) + 1 := by omega
        rw [e1, Int.mul_add, Int.mul_one, Int.add_mul]
        omega
      rw [e]
      exact L1.pos hn
    · rw [if_neg h] at L1
      rw [if_neg h, if_neg h]
      have e : ad s (sc ((n : Int) * -((j + 1 : Nat) : Int)) (Ev n)) = ad (ad s (sc ((n : Int) * -(j : Int)) (Ev n))) (sc (-(n : Int)) (Ev n)) := by
        funext k
        show s k + (n : Int) * -((j + 1 : Nat) : Int) * Ev n k = s k + (n : Int) * -(j : Int) * Ev n k + -(n : Int) * Ev n k
        have e1 : -((j + 1 : Nat) : Int) = -(j : Int) + -1 := by omega
        rw [e1, Int.mul_add, Int.add_mul, Int.mul_neg_one]
        omega
      rw [e]
      exact L1.neg hn
theorem lg_prA (p : S) : ∀ j, Lg (sS p j) (prA p j)
  | 0 => Lg.one
  | j + 1 => by
    have L := lg_lap (lg_prA p j) (n := j + 1) (by omega) (p j) (p j).natAbs (Nat.le_refl _)
    have e : (if 0 < p j then ((p j).natAbs : Int) else -((p j).natAbs : Int)) = p j := by
      split <;> omega
    rw [e] at L
    exact L
theorem lapF_at (n : Nat) (hn : 0 < n) (p : Int) (a : S) : ∀ j k, k < n → lapF n p j a k = a k
  | 0, _, _ => rfl
  | j + 1, k, hk => by
    have ih := lapF_at n hn p a j k hk
    unfold lapF
    split
    · have e : cv (U n) (cv (G n) (lapF n p j a)) k = lapF n p j a k := by rw [← cv_assoc, UG hn, one_cv]
      rw [cv_U hn] at e
      have e2 : cv (G n) (lapF n p j a) k - (if n ≤ k then cv (G n) (lapF n p j a) (k - n) else 0) = lapF n p j a k := e
      rw [if_neg (by omega)] at e2
      omega
    · rw [cv_U hn]
      show lapF n p j a k - (if n ≤ k then _ else 0) = _
      rw [if_neg (by omega)]
      omega
/-- the coefficient at n itself moves by the power -/
theorem lapF_self (n : Nat) (hn : 0 < n) (p : Int) (a : S) (h0 : a 0 = 1) : ∀ j, lapF n p j a n = a n + (if 0 < p then (j : Int) else -(j : Int))
  | 0 => by
    show a n = a n + _
    split <;> simp
  | j + 1 => by
    have ih := lapF_self n hn p a h0 j
    have z0 := lapF_at n hn p a j 0 hn
    have z1 := lapF_at n hn p a (j + 1) 0 hn
    have ec : ((j + 1 : Nat) : Int) = (j : Int) + 1 := by omega
    unfold lapF at z1 ⊢
    by_cases h : 0 < p
    · rw [if_pos h] at ih z1 ⊢
      rw [if_pos h]
      have e : cv (U n) (cv (G n) (lapF n p j a)) n = lapF n p j a n := by rw [← cv_assoc, UG hn, one_cv]
      rw [cv_U hn] at e
      have e2 : cv (G n) (lapF n p j a) n - (if n ≤ n then cv (G n) (lapF n p j a) (n - n) else 0) = lapF n p j a n := e
      rw [if_pos (Nat.le_refl _), Nat.sub_self, z1, h0] at e2
      omega
    · rw [if_neg h] at ih z1 ⊢
      rw [if_neg h, cv_U hn]
      show lapF n p j a n - (if n ≤ n then lapF n p j a (n - n) else 0) = _
      rw [if_pos (Nat.le_refl _), Nat.sub_self, z0, h0, ih]
      omega
theorem prA_zero (p : S) : ∀ j, prA p j 0 = 1
  | 0 => rfl
  | j + 1 => by
    show lapF (j + 1) (p j) (p j).natAbs (prA p j) 0 = 1
    rw [lapF_at (j + 1) (by omega) _ _ _ 0 (by omega), prA_zero p j]
/-- behind the first k factors nothing changes up to k -/
theorem prA_far (p : S) : ∀ j k, k ≤ j → prA p j k = prA p k k
  | 0, k, h => by
    have : k = 0 := by omega
    subst this
    rfl
  | j + 1, k, h => by
    by_cases e : k = j + 1
    · rw [e]
    · show lapF (j + 1) (p j) (p j).natAbs (prA p j) k = _
      rw [lapF_at (j + 1) (by omega) _ _ _ k (by omega), prA_far p j k (by omega)]
theorem prA_congr {p q : S} : ∀ j, (∀ i, i < j → p i = q i) → prA p j = prA q j
  | 0, _ => rfl
  | j + 1, h => by
    show lapF (j + 1) (p j) (p j).natAbs (prA p j) = lapF (j + 1) (q j) (q j).natAbs (prA q j)
    rw [h j (by omega), prA_congr j fun i hi => h i (by omega)]
theorem sS_congr {p q : S} : ∀ j, (∀ i, i < j → p i = q i) → sS p j = sS q j
  | 0, _ => rfl
  | j + 1, h => by
    show ad (sS p j) _ = ad (sS q j) _
    rw [h j (by omega), sS_congr j fun i hi => h i (by omega)]
theorem prA_tail {p : S} {m : Nat} (h : ∀ i, m ≤ i → p i = 0) : ∀ k, prA p (m + k) = prA p m
  | 0 => rfl
  | k + 1 => by
    show lapF (m + k + 1) (p (m + k)) (p (m + k)).natAbs (prA p (m + k)) = _
    rw [h (m + k) (by omega)]
    exact prA_tail h k
theorem sS_tail {p : S} {m : Nat} (h : ∀ i, m ≤ i → p i = 0) : ∀ k, sS p (m + k) = sS p m
  | 0 => rfl
  | k + 1 => by
    show ad (sS p (m + k)) (sc (((m + k + 1 : Nat) : Int) * p (m + k)) (Ev (m + k + 1))) = _
    rw [h (m + k) (by omega), sS_tail h k]
    funext i
    show _ + (_ * 0) * _ = _
    rw [Int.mul_zero, Int.zero_mul, Int.add_zero]
/-- each series that begins with 1 is such a product -/
def exps (a : S) : Nat → S
  | 0 => fun _ => 0
  | j + 1 => fun i => if i = j then a (j + 1) - prA (exps a j) j (j + 1) else exps a j i
theorem exps_lt (a : S) : ∀ j k i, i < j → exps a (j + k) i = exps a j i
  | j, 0, i, _ => rfl
  | j, k + 1, i, h => by
    show (if i = j + k then _ else exps a (j + k) i) = _
    rw [if_neg (by omega), exps_lt a j k i h]
theorem exps_ok (a : S) (h0 : a 0 = 1) : ∀ j k, k ≤ j → prA (exps a j) j k = a k
  | 0, k, h => by
    have : k = 0 := by omega
    subst this
    exact h0.symm
  | j + 1, k, h => by
    have e : prA (exps a (j + 1)) j = prA (exps a j) j := prA_congr j fun i hi => exps_lt a j 1 i hi
    have ep : exps a (j + 1) j = a (j + 1) - prA (exps a j) j (j + 1) := by
      show (if j = j then _ else _) = _
      rw [if_pos rfl]
    show lapF (j + 1) (exps a (j + 1) j) (exps a (j + 1) j).natAbs (prA (exps a (j + 1)) j) k = a k
    rw [e]
    by_cases hk : k = j + 1
    · subst hk
      rw [lapF_self (j + 1) (by omega) _ _ (prA_zero _ _), ep]
      split <;> omega
    · rw [lapF_at (j + 1) (by omega) _ _ _ k (by omega)]
      exact exps_ok a h0 j k (by omega)
/-- n a(n) is the sum of s(k) a(n - k) -/
theorem Lg.at_ {s a : S} (L : Lg s a) (n : Nat) : (n : Int) * a n = sm (fun i => s (i + 1) * a (n - (i + 1))) n := by
  have h := congrFun L.d n
  have h2 : (n : Int) * a n = sm (fun i => s i * a (n - i)) (n + 1) := h
  rw [sm_first, L.z, Int.zero_mul, Int.zero_add] at h2
  exact h2
end Ps

set_option Elab.async false
set_option linter.all false
set_option maxRecDepth 100000
set_option maxHeartbeats 4000000
/-! bounds of products and of their sums -/
namespace Ps
theorem sS_bound {p : S} {c : Nat} (hp : ∀ i, (p i).natAbs ≤ c) : ∀ j k, (sS p j k).natAbs ≤ c * (j * (j + 1))
  | 0, k => by
    show (0 : Int).natAbs ≤ _
    exact Nat.zero_le _
  | j + 1, k => by
    have ih := sS_bound hp j k
    show (sS p j k + ((j + 1 : Nat) : Int) * p j * Ev (j + 1) k).natAbs ≤ _
    have h1 : (((j + 1 : Nat) : Int) * p j * Ev (j + 1) k).natAbs ≤ c * (j + 1) := by
      rw [Int.natAbs_mul, Int.natAbs_mul, Int.natAbs_natCast]
      have h2 : (Ev (j + 1) k).natAbs ≤ 1 := by
        unfold Ev
        split <;> decide
      have h3 := hp j
      have h4 : (j + 1) * (p j).natAbs ≤ (j + 1) * c := Nat.mul_le_mul (Nat.le_refl _) h3
      have h5 := Nat.mul_le_mul h4 h2
      rw [Nat.mul_one, Nat.mul_comm (j + 1) c] at h5
      exact h5
    have h6 := Int.natAbs_add_le (sS p j k) (((j + 1 : Nat) : Int) * p j * Ev (j + 1) k)
    have h7 : c * ((j + 1) * (j + 1 + 1)) = c * (j * (j + 1)) + c * (j + 1) + c * (j + 1) := by
      rw [← Nat.mul_add, ← Nat.mul_add]
      congr 1
      rw [Nat.mul_add (j + 1) (j + 1) 1, Nat.add_mul j 1 (j + 1)]
      omega
    omega
theorem lg_bound {s a : S} (L : Lg s a) (a0 : a 0 = 1) {B N : Nat} (hB : 1 ≤ B) (hs : ∀ k, k ≤ N → (s k).natAbs ≤ B) : ∀ n, n ≤ N → (a n).natAbs ≤ B ^ n := by
  intro n
  induction n using Nat.strongRecOn with
  | _ n ih =>
    intro hn
    cases n with
    | zero =>
      rw [a0]
      exact Nat.le_refl _
    | succ n =>
      have h := L.at_ (n + 1)
      have hb : (sm (fun i => s (i + 1) * a (n + 1 - (i + 1))) (n + 1)).natAbs ≤ (n + 1) * B ^ (n + 1) := sm_bound _ fun i hi => by
        rw [Int.natAbs_mul]
        have h1 := hs (i + 1) (by omega)
        have h2 := ih (n + 1 - (i + 1)) (by omega) (by omega)
        have h3 : B ^ (n + 1 - (i + 1)) ≤ B ^ n := Nat.pow_le_pow_right hB (by omega)
        have h4 := Nat.mul_le_mul h1 (Nat.le_trans h2 h3)
        rw [Nat.pow_succ, Nat.mul_comm (B ^ n) B]
        exact h4
      rw [← h, Int.natAbs_mul, Int.natAbs_natCast] at hb
      exact Nat.le_of_mul_le_mul_left hb (by omega)
theorem sums_bound {s a : S} (L : Lg s a) (a0 : a 0 = 1) {M N : Nat} (hM : 1 ≤ M) (hN : N ≤ 12) (ha : ∀ k, k ≤ N → (a k).natAbs ≤ M) : ∀ n, n ≤ N → (s n).natAbs ≤ (32 * M) ^ n := by
  intro n
  induction n using Nat.strongRecOn with
  | _ n ih =>
    intro hn
    cases n with
    | zero =>
      rw [L.z]
      exact Nat.zero_le _
    | succ n =>
      have h := L.at_ (n + 1)
      have h0 : sm (fun i => s (i + 1) * a (n + 1 - (i + 1))) (n + 1) = sm (fun i => s (i + 1) * a (n + 1 - (i + 1))) n + s (n + 1) * a (n + 1 - (n + 1)) := rfl
      rw [h0, Nat.sub_self, a0, Int.mul_one] at h
      have hb : (sm (fun i => s (i + 1) * a (n + 1 - (i + 1))) n).natAbs ≤ n * ((32 * M) ^ n * M) := sm_bound _ fun i hi => by
        rw [Int.natAbs_mul]
        have h1 := ih (i + 1) (by omega) (by omega)
        have h2 := ha (n + 1 - (i + 1)) (by omega)
        have h3 : (32 * M) ^ (i + 1) ≤ (32 * M) ^ n := Nat.pow_le_pow_right (by omega) (by omega)
        exact Nat.mul_le_mul (Nat.le_trans h1 h3) h2
      have hc : (((n + 1 : Nat) : Int) * a (n + 1)).natAbs ≤ 12 * M := by
        rw [Int.natAbs_mul, Int.natAbs_natCast]
        exact Nat.mul_le_mul (by omega) (ha _ hn)
      have h1 : 1 ≤ (32 * M) ^ n := Nat.pow_pos (by omega)
      have h2 : n * ((32 * M) ^ n * M) ≤ 12 * ((32 * M) ^ n * M) := Nat.mul_le_mul (by omega) (Nat.le_refl _)
      have h3 : 12 * M ≤ 12 * ((32 * M) ^ n * M) := by
        have := Nat.mul_le_mul h1 (Nat.le_refl M)
        omega
      have h4 : (32 * M) ^ (n + 1) = 32 * ((32 * M) ^ n * M) := by
        rw [Nat.pow_succ, Nat.mul_comm 32 M, ← Nat.mul_assoc, Nat.mul_comm]
      have h5 : s (n + 1) = ((n + 1 : Nat) : Int) * a (n + 1) - sm (fun i => s (i + 1) * a (n + 1 - (i + 1))) n := by omega
      have h6 := Int.natAbs_sub_le (((n + 1 : Nat) : Int) * a (n + 1)) (sm (fun i => s (i + 1) * a (n + 1 - (i + 1))) n)
      rw [← h5] at h6
      omega
/-- a and b with the same sums are the same -/
theorem lg_uniq {s a : S} (L : Lg s a) {b : S} {N : Nat} (h0 : a 0 = b 0) (hb : ∀ n, n < N → ((n + 1 : Nat) : Int) * b (n + 1) = sm (fun i => s (i + 1) * b (n + 1 - (i + 1))) (n + 1)) : ∀ n, n ≤ N → a n = b n := by
  intro n
  induction n using Nat.strongRecOn with
  | _ n ih =>
    intro hn
    cases n with
    | zero => exact h0
    | succ n =>
      have h := L.at_ (n + 1)
      have h2 := hb n (by omega)
      have e : sm (fun i => s (i + 1) * a (n + 1 - (i + 1))) (n + 1) = sm (fun i => s (i + 1) * b (n + 1 - (i + 1))) (n + 1) := sm_congr _ fun i hi => by
        rw [ih (n + 1 - (i + 1)) (by omega) (by omega)]
      rw [e, ← h2] at h
      exact Int.eq_of_mul_eq_mul_left (by omega) h
end Ps

set_option Elab.async false
set_option linter.all false
set_option maxRecDepth 100000
set_option maxHeartbeats 4000000
/-! sums over divisors -/
namespace Ps
def sgm (n k : Nat) : Int := sm (fun i => if (i + 1) ∣ n then ((i + 1 : Nat) : Int) ^ k else 0) n
def rt (n : Nat) : Nat := PySem.Float64.isqrt n
/-- what d and its partner give -/
def pr1 (n k d : Nat) : Int := ((d : Nat) : Int) ^ k + (if d * d = n then 0 else ((n / d : Nat) : Int) ^ k)
def pvS (n k r : Nat) : Int := sm (fun i => if (i + 1) ∣ n then pr1 n k (i + 1) else 0) r
def DV (n k : Nat) : Int := pvS n k (rt n)
theorem rt_eq {n r : Nat} (h1 : r * r ≤ n) (h2 : n < (r + 1) * (r + 1)) : r = rt n := by
  have s := PySem.Float64.isqrt_spec n
  have s1 : rt n * rt n ≤ n := s.1
  have s2 : n < (rt n + 1) * (rt n + 1) := s.2
  have a : r < rt n + 1 := by
    refine Nat.lt_of_not_le fun z => ?_
    have := Nat.mul_le_mul z z
    omega
  have b : rt n < r + 1 := by
    refine Nat.lt_of_not_le fun z => ?_
    have := Nat.mul_le_mul z z
    omega
  omega
/-- the divisors to r -/
def sml (n : Nat) : Nat → List Int
  | 0 => []
  | r + 1 => sml n r ++ (if (r + 1) ∣ n then [((r + 1 : Nat) : Int)] else [])
theorem sml_len (n : Nat) : ∀ r, (sml n r).length ≤ r
  | 0 => Nat.le_refl _
  | r + 1 => by
    show (sml n r ++ _).length ≤ r + 1
    rw [List.length_append]
    have := sml_len n r
    split
    · simp; omega
    · simp; omega
theorem sml_mem (n : Nat) : ∀ r, ∀ z ∈ sml n r, ∃ d : Nat, z = (d : Int) ∧ 1 ≤ d ∧ d ≤ r ∧ d ∣ n
  | 0, z, h => by cases h
  | r + 1, z, h => by
    rcases List.mem_append.mp h with h | h
    · obtain ⟨d, e, a, b, c⟩ := sml_mem n r z h
      exact ⟨d, e, a, by omega, c⟩
    · split at h
      · rename_i c
        rw [List.mem_singleton.mp h]
        exact ⟨r + 1, rfl, by omega, by omega, c⟩
      · cases h
def lrgOf (n : Nat) (l : List Int) : List Int := (l.filter fun d => decide (d * d ≠ (n : Int))).map fun d => ((n : Int)).fdiv d
theorem pvS_sum (n k : Nat) : ∀ r, ((sml n r).map (· ^ k)).sum + ((lrgOf n (sml n r).reverse).map (· ^ k)).sum = pvS n k r
  | 0 => rfl
  | r + 1 => by
    have ih := pvS_sum n k r
    show (((sml n r ++ _)).map (· ^ k)).sum + ((lrgOf n (sml n r ++ _).reverse).map (· ^ k)).sum = pvS n k r + (if (r + 1) ∣ n then pr1 n k (r + 1) else 0)
    by_cases c : (r + 1) ∣ n
    · rw [if_pos c, if_pos c, List.map_append, List.sum_append, List.reverse_append]
      show _ + (((r + 1 : Nat) : Int) ^ k + 0) + ((lrgOf n ([((r + 1 : Nat) : Int)] ++ (sml n r).reverse)).map (· ^ k)).sum = _
      unfold lrgOf at ih ⊢
      rw [List.filter_append, List.map_append, List.map_append, List.sum_append]
      unfold pr1
      have key : (List.map (· ^ k) (List.map (fun d => ((n : Int)).fdiv d) (List.filter (fun d => decide (d * d ≠ (n : Int))) [((r + 1 : Nat) : Int)]))).sum = if (r + 1) * (r + 1) = n then 0 else ((n / (r + 1) : Nat) : Int) ^ k := by
        by_cases e : (r + 1) * (r + 1) = n
        · rw [if_pos e, List.filter_cons_of_neg (fun z => (of_decide_eq_true z) (by exact_mod_cast e))]
          rfl
        · rw [if_neg e, List.filter_cons_of_pos (by
            simp only [decide_eq_true_eq, ne_eq]
            exact_mod_cast e)]
          show (((n : Int)).fdiv ((r + 1 : Nat) : Int)) ^ k + 0 = _
          rw [Int.add_zero]
          congr 1
          rw [Int.fdiv_eq_ediv_of_nonneg _ (by omega)]
          exact (Int.natCast_ediv n (r + 1)).symm
      rw [key]
      omega
    · rw [if_neg c, if_neg c, List.append_nil]
      omega
theorem sgm_at (n k : Nat) {j : Nat} (h : n ≤ j) (hn : 1 ≤ n) : sm (fun i => ((i + 1 : Nat) : Int) ^ k * Ev (i + 1) n) j = sgm n k := by
  obtain ⟨t, rfl⟩ : ∃ t, j = n + t := ⟨j - n, by omega⟩
  have e : ∀ t, sm (fun i => ((i + 1 : Nat) : Int) ^ k * Ev (i + 1) n) (n + t) = sm (fun i => ((i + 1 : Nat) : Int) ^ k * Ev (i + 1) n) n := by
    intro t
    induction t with
    | zero => rfl
    | succ t ih =>
      show sm _ (n + t) + ((n + t + 1 : Nat) : Int) ^ k * Ev (n + t + 1) n = _
      have z : Ev (n + t + 1) n = 0 := by
        unfold Ev
        rw [if_neg]
        rintro ⟨_, d⟩
        have := Nat.le_of_dvd hn d
        omega
      rw [z, Int.mul_zero, Int.add_zero, ih]
  rw [e]
  unfold sgm
  refine sm_congr _ fun i hi => ?_
  unfold Ev
  by_cases c : (i + 1) ∣ n
  · rw [if_pos ⟨by omega, c⟩, if_pos c, Int.mul_one]
  · rw [if_neg (fun z => c z.2), if_neg c, Int.mul_zero]
def eS (c : Int) (e j : Nat) : S := fun n => one n + sm (fun i => c * ((i + 1 : Nat) : Int) ^ e * Ev (i + 1) n) j
def er (c : Int) (e : Nat) : S := fun n => if n = 0 then 1 else c * sgm n e
theorem eS_er (c : Int) (e m n : Nat) (h : n ≤ m) : eS c e m n = er c e n := by
  unfold eS er one
  have e1 : sm (fun i => c * ((i + 1 : Nat) : Int) ^ e * Ev (i + 1) n) m = c * sm (fun i => ((i + 1 : Nat) : Int) ^ e * Ev (i + 1) n) m := by
    rw [← sm_mul]
    exact sm_congr _ fun i _ => Int.mul_assoc _ _ _
  rw [e1]
  by_cases z : n = 0
  · subst z
    rw [if_pos rfl, if_pos rfl, sm_congr (g := fun _ => 0) m (fun i _ => by
      have : Ev (i + 1) 0 = 0 := by
        unfold Ev
        rw [if_neg (fun z => z.1 rfl)]
      rw [this, Int.mul_zero]), sm_zero, Int.mul_zero, Int.add_zero]
  · rw [if_neg z, if_neg z, sgm_at n e h (by omega), Int.zero_add]
end Ps

set_option Elab.async false
set_option linter.all false
set_option maxRecDepth 100000
set_option maxHeartbeats 4000000
set_option pp.deepTerms false
set_option pp.maxSteps 3000
namespace Dr
open PySem PySem.Spec PyProof.Rows L2
abbrev FnP (K : PySem.W.Frag) (x : Str) (st : Stmt) (f : Addr) (fd : FuncData) : Prop := FunD K x x (defArgs st) (defBody st) (defScope st) [] [] f fd
/-! ### the draw: a dict of four entries, two lists -/
def kLarge : Key := Sum.inr "large"
def kCells : Key := Sum.inr "cells"
def kRest : Key := Sum.inr "rest"
def kTurn : Key := Sum.inr "turn"
def drK (l c : Addr) (r t : Int) : List (Key × V) := [(kLarge, .ref l), (kCells, .ref c), (kRest, .int r), (kTurn, .int t)]
theorem k12 : ¬ kLarge = kCells := by decide +kernel
theorem k13 : ¬ kLarge = kRest := by decide +kernel
theorem k14 : ¬ kLarge = kTurn := by decide +kernel
theorem k23 : ¬ kCells = kRest := by decide +kernel
theorem k24 : ¬ kCells = kTurn := by decide +kernel
theorem k34 : ¬ kRest = kTurn := by decide +kernel
section
variable {l c : Addr} {r t z : Int}
theorem get_large : valV (drK l c r t) kLarge = some (.ref l) := valV_pos rfl
theorem get_cells : valV (drK l c r t) kCells = some (.ref c) := (valV_neg k12).trans (valV_pos rfl)
theorem get_rest : valV (drK l c r t) kRest = some (.int r) := (valV_neg k13).trans ((valV_neg k23).trans (valV_pos rfl))
theorem get_turn : valV (drK l c r t) kTurn = some (.int t) := (valV_neg k14).trans ((valV_neg k24).trans ((valV_neg k34).trans (valV_pos rfl)))
theorem put_rest : putK (drK l c r t) kRest (.int z) = drK l c z t := by
  have h1 := k13
  have h2 := k23
  have h3 : ¬ kTurn = kRest := fun e => k34 e.symm
  simp [putK, drK, h1, h2, h3]
theorem put_turn : putK (drK l c r t) kTurn (.int z) = drK l c r z := by
  have h1 := k14
  have h2 := k24
  have h3 := k34
  simp [putK, drK, h1, h2, h3]
end
/-- the draw at d, its lists at l and c -/
structure DrawAt (H : Hp) (d l c : Addr) (ls cs : List Int) (r t : Int) : Prop where
  dd : H d = some (.dK (drK l c r t))
  dl : H l = some (.lst (ls.map V.int))
  dc : H c = some (.lst (cs.map V.int))
  lc : l ≠ c
/-- all but d and l stays -/
def SameX (d l : Addr) (H H' : Hp) : Prop := ∀ b o, H b = some o → b ≠ d → b ≠ l → H' b = some o
/-- a draw at d (its list at l): what the callers keep -/
def Draw (H : Hp) (d l c : Addr) : Prop := ∃ ls cs r t, DrawAt H d l c ls cs r t
theorem SameX.refl (d l : Addr) (H : Hp) : SameX d l H H := fun _ _ e _ _ => e
theorem SameX.trans {d l : Addr} {H H1 H2 : Hp} (a : SameX d l H H1) (b : SameX d l H1 H2) : SameX d l H H2 := fun c o e n1 n2 => b c o (a c o e n1 n2) n1 n2
theorem SameX.of {d l : Addr} {H H' : Hp} (a : Same H H') : SameX d l H H' := fun c o e _ _ => a c o e
theorem DrawAt.nl {H : Hp} {d l c : Addr} {ls cs : List Int} {r t : Int} (D : DrawAt H d l c ls cs r t) : d ≠ l := ne_of D.dd D.dl (fun z => by cases z)
theorem DrawAt.nc {H : Hp} {d l c : Addr} {ls cs : List Int} {r t : Int} (D : DrawAt H d l c ls cs r t) : d ≠ c := ne_of D.dd D.dc (fun z => by cases z)
theorem DrawAt.same {H H' : Hp} {d l c : Addr} {ls cs : List Int} {r t : Int} (D : DrawAt H d l c ls cs r t) (s : Same H H') : DrawAt H' d l c ls cs r t := ⟨s _ _ D.dd, s _ _ D.dl, s _ _ D.dc, D.lc⟩
theorem Draw.same {H H' : Hp} {d l c : Addr} (D : Draw H d l c) (s : Same H H') : Draw H' d l c := by
  obtain ⟨ls, cs, r, t, D⟩ := D
  exact ⟨ls, cs, r, t, D.same s⟩
theorem Draw.put {H : Hp} {d l c p : Addr} {o : HO} (D : Draw H d l c) (h1 : p ≠ d) (h2 : p ≠ l) (h3 : p ≠ c) : Draw (upd H p o) d l c := by
  obtain ⟨ls, cs, r, t, D⟩ := D
  exact ⟨ls, cs, r, t, by rw [upd_ne h1.symm]; exact D.dd, by rw [upd_ne h2.symm]; exact D.dl, by rw [upd_ne h3.symm]; exact D.dc, D.lc⟩
theorem Draw.ne {H : Hp} {d l c p : Addr} (D : Draw H d l c) (n : H p = none) : p ≠ d ∧ p ≠ l ∧ p ≠ c := by
  obtain ⟨ls, cs, r, t, D⟩ := D
  exact ⟨(ne_of_none D.dd n).symm, (ne_of_none D.dl n).symm, (ne_of_none D.dc n).symm⟩
theorem DrawAt.rest {H : Hp} {d l c : Addr} {ls cs : List Int} {r t : Int} (D : DrawAt H d l c ls cs r t) (z : Int) : DrawAt (upd H d (.dK (drK l c z t))) d l c ls cs z t :=
  ⟨upd_same, by rw [upd_ne D.nl.symm]; exact D.dl, by rw [upd_ne D.nc.symm]; exact D.dc, D.lc⟩
theorem DrawAt.turn {H : Hp} {d l c : Addr} {ls cs : List Int} {r t : Int} (D : DrawAt H d l c ls cs r t) (z : Int) : DrawAt (upd H d (.dK (drK l c r z))) d l c ls cs r z :=
  ⟨upd_same, by rw [upd_ne D.nl.symm]; exact D.dl, by rw [upd_ne D.nc.symm]; exact D.dc, D.lc⟩
theorem DrawAt.pop {H : Hp} {d l c : Addr} {ls ls' cs : List Int} {r t : Int} (D : DrawAt H d l c ls cs r t) : DrawAt (upd H l (.lst (ls'.map V.int))) d l c ls' cs r t :=
  ⟨by rw [upd_ne D.nl]; exact D.dd, upd_same, by rw [upd_ne D.lc.symm]; exact D.dc, D.lc⟩
theorem sameX_d {H : Hp} {d l : Addr} {o : HO} : SameX d l H (upd H d o) := fun b o e n1 n2 => by rw [upd_ne n1]; exact e
theorem sameX_l {H : Hp} {d l : Addr} {o : HO} : SameX d l H (upd H l o) := fun b o e n1 n2 => by rw [upd_ne n2]; exact e
theorem sameX_new {H : Hp} {d l p : Addr} {o : HO} (n : H p = none) : SameX d l H (upd H p o) := fun b o e n1 n2 => by rw [upd_ne (ne_of_none e n)]; exact e
theorem same_new {H : Hp} {p : Addr} {o : HO} (n : H p = none) : Same H (upd H p o) := fun b o e => by rw [upd_ne (ne_of_none e n)]; exact e
theorem int_at {ns : List Int} {i : Nat} {x : V} (h : (ns.map V.int)[i]? = some x) : ∃ z, ns[i]? = some z ∧ x = .int z := by
  rw [List.getElem?_map] at h
  cases e : ns[i]? with
  | none =>
    rw [e] at h
    cases h
  | some z =>
    rw [e] at h
    exact ⟨z, rfl, (Option.some.inj h).symm⟩
theorem merge_dr {l c : Addr} {r t : Int} : mergeK [] (drK l c r t) = drK l c r t := by
  have h1 := k12
  have h2 := k13
  have h3 := k14
  have h4 := k23
  have h5 := k24
  have h6 := k34
  simp [mergeK, putK, drK, h1, h2, h3, h4, h5, h6]
theorem yesT {s : L2.St} {H : Hp} {A B : Hp → Prop} (h : A H) : tYes s H (fun b H3 => if b = true then A H3 else B H3) := by
  show if true = true then A H else B H
  rw [if_pos rfl]
  exact h
/-! ### lists of ints as data -/
def intsD (ls : List Int) : List PyData := ls.map PyData.int
theorem ints_lay : ∀ ls : List Int, PyData.canLayAll0 (intsD ls) = true
  | [] => rfl
  | z :: r => by
    show (PyData.canLay0 (.int z) && PyData.canLayAll0 (intsD r)) = true
    rw [ints_lay r]
    rfl
theorem ints_depth : ∀ ls : List Int, PyData.depthAll (intsD ls) = 0
  | [] => rfl
  | z :: r => by
    show max (PyData.depth (.int z)) (PyData.depthAll (intsD r)) = 0
    rw [ints_depth r]
    rfl
theorem ints_shaped (ls : List Int) : SeqAt.shaped (.list (intsD ls)) = true := by
  show (PyData.canLayAll0 (intsD ls) && decide (PyData.depthAll (intsD ls) + 1 ≤ 64)) = true
  rw [ints_lay, ints_depth]
  rfl
theorem ints_dp {K : PySem.W.Frag} {H : Hp} : ∀ ls : List Int, DpAll K H (ls.map V.int) (intsD ls)
  | [] => .nil
  | z :: r => .cons (.int z) (ints_dp r)
def spBegun (K : PySem.W.Frag) : Sp := fun vs H Q _ => ∃ (a : Addr) (ns : List Int), vs = [.ref a] ∧ SqL K H a (ns.map V.int) ∧ ns.length ≤ 1000 ∧
  ∀ (d l c : Addr) (H' : Hp), H d = none → H l = none → H c = none → Same H H' → Draw H' d l c → Q (.ref d) H'
section
variable {H : Hp} {d l c : Addr} {ls cs : List Int} {r t : Int}
theorem DrawAt.gLarge (D : DrawAt H d l c ls cs r t) : DGet H d (.str "large") (some (.ref l)) := by
  have z := DGet.k (k := kLarge) D.dd
  rw [get_large] at z
  exact z
theorem DrawAt.gCells (D : DrawAt H d l c ls cs r t) : DGet H d (.str "cells") (some (.ref c)) := by
  have z := DGet.k (k := kCells) D.dd
  rw [get_cells] at z
  exact z
theorem DrawAt.gRest (D : DrawAt H d l c ls cs r t) : DGet H d (.str "rest") (some (.int r)) := by
  have z := DGet.k (k := kRest) D.dd
  rw [get_rest] at z
  exact z
theorem DrawAt.gTurn (D : DrawAt H d l c ls cs r t) : DGet H d (.str "turn") (some (.int t)) := by
  have z := DGet.k (k := kTurn) D.dd
  rw [get_turn] at z
  exact z
theorem DrawAt.pRest (D : DrawAt H d l c ls cs r t) (z : Int) : DPut H d (.str "rest") (.int z) (upd H d (.dK (drK l c z t))) := by
  have q := DPut.k (k := kRest) (v := .int z) D.dd (by show 4 < sizeLine; decide)
  rw [put_rest] at q
  exact q
theorem DrawAt.pTurn (D : DrawAt H d l c ls cs r t) (z : Int) : DPut H d (.str "turn") (.int z) (upd H d (.dK (drK l c r z))) := by
  have q := DPut.k (k := kTurn) (v := .int z) D.dd (by show 4 < sizeLine; decide)
  rw [put_turn] at q
  exact q
end
def spBlend : Sp := fun vs H Q _ => ∃ (d l c : Addr) (ls cs : List Int) (r t : Int), vs = [.ref d] ∧ DrawAt H d l c ls cs r t ∧
  ∀ (v t' : Int) (H' : Hp), DrawAt H' d l c ls cs r t' → SameX d l H H' → Q (.int v) H'
def spTake : Sp := fun vs H Q _ => ∃ (d l c : Addr) (n : Int), vs = [.ref d, .int n] ∧ Draw H d l c ∧ 0 < n ∧ n.natAbs.log2 < 9000 ∧
  ∀ (v : Int) (H' : Hp), 0 ≤ v → v < n → Draw H' d l c → SameX d l H H' → Q (.int v) H'
theorem pow_small {z q : Int} (h0 : 0 ≤ z) (h1 : z < q) (hq : q ≤ 2147483648) : CPow z 5 := ⟨by decide, by decide, by
  have e : (2 : Nat) ^ 64 = 18446744073709551616 := by decide
  omega⟩
theorem pop_ix (n : Nat) : seqIndex? 0 (n + 1) = some 0 := by
  unfold seqIndex?
  simp
def spPick (K : PySem.W.Frag) : Sp := fun vs H Q _ => ∃ (d l c a : Addr) (xs : List V), vs = [.ref d, .ref a] ∧ Draw H d l c ∧ (∀ H', SameX d l H H' → SqL K H' a xs) ∧ xs ≠ [] ∧ xs.length ≤ 1000 ∧
  ∀ (v : V) (H' : Hp), v ∈ xs → Draw H' d l c → SameX d l H H' → Q v H'
theorem log_small {n : Nat} (h : n ≤ 1000) : ((n : Int)).natAbs.log2 < 9000 := by
  have e : ((n : Int)).natAbs = n := by omega
  rw [e]
  by_cases z : n = 0
  · rw [z]
    decide
  · have k : n.log2 < 10 := (Nat.log2_lt z).mpr (by omega)
    omega
end Dr

set_option Elab.async false
set_option linter.all false
set_option maxRecDepth 100000
set_option maxHeartbeats 4000000
set_option pp.maxSteps 3000
set_option exponentiation.threshold 500000
namespace Xv
open PySem PySem.Spec PyProof.Rows L2
/-- // by any divisor but 0 below 2 ^ 9000 -/
def CDivB (_ j : Int) : Prop := j ≠ 0 ∧ j.natAbs.log2 < 9000
theorem op_fdivB {X : Cx} : OpR X (binaryOp .FloorDiv) (rI CDivB fun i j => .int (i.fdiv j)) := opI fun i j _ _ _ _ _ hc q => floordiv_int hc.1 q (.inl (PyProof.noPylong_of_log2 hc.2))
end Xv
namespace Gn
open PySem PySem.Spec PyProof.Rows L2 Dr Xv LamX Ps
def qL : Str := "law.<locals>.<lambda>"
/-- an error class of the program's own -/
structure ErrT (K : PySem.W.Frag) (C S : Addr) : Prop where
  x : PySem.W.excIn K C [.type "ValueError", .type "Exception", .type "BaseException", .type "object"] "ValueError.__new__" = true
  k : PySem.W.keepIn K (.ref C) = true
  b : PySem.W.subIn K (.ref C) (.type "BaseException") = some true
  t : PySem.W.typeIn K (.ref C) = some (.type "type")
  m : PySem.W.exmOne K (.ref C) (.ref S) = some true
  e : ExcC K C
  i : PySem.W.kitOne K (.ref C) (.ref C) = some true
def rowOf (n : Nat) (b : S) : List V := ((List.range n).map b).map V.int
inductive PV (H : Hp) : V → Prop
  | non : PV H .non
  | bl (b : Bool) : PV H (.bl b)
  | int (i : Int) : PV H (.int i)
  | str (x : Str) : PV H (.str x)
  | lst {a : Addr} {xs : List V} : H a = some (.lst xs) → PV H (.ref a)
  | tup {a : Addr} {xs : List V} : H a = some (.tup xs) → PV H (.ref a)
  | dK {a : Addr} {kvs : List (Key × V)} : H a = some (.dK kvs) → PV H (.ref a)
theorem PV.same {H H' : Hp} {x : V} (h : PV H x) (s : Same H H') : PV H' x := by
  cases h with
  | non => exact .non
  | bl b => exact .bl b
  | int i => exact .int i
  | str x => exact .str x
  | lst e => exact .lst (s _ _ e)
  | tup e => exact .tup (s _ _ e)
  | dK e => exact .dK (s _ _ e)
def isNum : V → Bool
  | .int _ => true
  | _ => false
def kInt : V → Bool
  | .int _ => true
  | .bl _ => true
  | _ => false
def kBool : V → Bool
  | .bl _ => true
  | _ => false
theorem PV.ty {K : PySem.W.Frag} {H : Hp} {x : V} (h : PV H x) : ∃ t, TyX K H x t ∧ PySem.W.kitOne K t (.type "int") = some (kInt x) ∧ PySem.W.kitOne K t (.type "bool") = some (kBool x) := by
  cases h with
  | non => exact ⟨_, .base .non, kit_ty (r := false) (by decide +kernel), kit_ty (r := false) (by decide +kernel)⟩
  | bl b => exact ⟨_, .base (.bl b), kit_ty (r := true) (by decide +kernel), kit_ty (r := true) (by decide +kernel)⟩
  | int i => exact ⟨_, .base (.int i), kit_ty (r := true) (by decide +kernel), kit_ty (r := false) (by decide +kernel)⟩
  | str x => exact ⟨_, .base (.str x), kit_ty (r := false) (by decide +kernel), kit_ty (r := false) (by decide +kernel)⟩
  | lst e => exact ⟨_, .base (.lst e), kit_ty (r := false) (by decide +kernel), kit_ty (r := false) (by decide +kernel)⟩
  | tup e => exact ⟨_, .base (.tup e), kit_ty (r := false) (by decide +kernel), kit_ty (r := false) (by decide +kernel)⟩
  | dK e => exact ⟨_, .base (.dK e), kit_ty (r := false) (by decide +kernel), kit_ty (r := false) (by decide +kernel)⟩
theorem kInt_num (x : V) : (kInt x && !kBool x) = isNum x := by
  cases x <;> rfl
def within (x : V) (lo hi : Int) : Bool := match x with
  | .int i => decide (lo ≤ i) && decide (i ≤ hi)
  | _ => false
inductive Items (H : Hp) : V → Option (List V) → Prop
  | non : Items H .non none
  | bl (b : Bool) : Items H (.bl b) none
  | int (i : Int) : Items H (.int i) none
  | str (x : Str) : Items H (.str x) none
  | lst {a : Addr} {xs : List V} : H a = some (.lst xs) → Items H (.ref a) (some xs)
  | tup {a : Addr} {xs : List V} : H a = some (.tup xs) → Items H (.ref a) (some xs)
  | dK {a : Addr} {kvs : List (Key × V)} : H a = some (.dK kvs) → Items H (.ref a) none
theorem Items.same {H H' : Hp} {x : V} {o : Option (List V)} (h : Items H x o) (s : Same H H') : Items H' x o := by
  cases h with
  | non => exact .non
  | bl b => exact .bl b
  | int i => exact .int i
  | str x => exact .str x
  | lst e => exact .lst (s _ _ e)
  | tup e => exact .tup (s _ _ e)
  | dK e => exact .dK (s _ _ e)
theorem Items.pv {H : Hp} {x : V} {o : Option (List V)} (h : Items H x o) : PV H x := by
  cases h with
  | non => exact .non
  | bl b => exact .bl b
  | int i => exact .int i
  | str x => exact .str x
  | lst e => exact .lst e
  | tup e => exact .tup e
  | dK e => exact .dK e
def AllPV (H : Hp) (o : Option (List V)) : Prop := ∀ xs, o = some xs → ∀ v ∈ xs, PV H v
theorem AllPV.same {H H' : Hp} {o : Option (List V)} (h : AllPV H o) (s : Same H H') : AllPV H' o := fun xs e v hv => (h xs e v hv).same s
theorem take_snoc {α β : Type} {f : α → β} {xs : List α} {i : Nat} {x : α} (h : xs[i]? = some x) : (xs.take i).map f ++ [f x] = (xs.take (i + 1)).map f := by
  obtain ⟨hi, e⟩ := List.getElem?_eq_some_iff.mp h
  rw [List.take_succ, h]
  simp
theorem take_len {α β : Type} {f : α → β} {xs : List α} {i : Nat} : ((xs.take i).map f).length ≤ xs.length := by
  rw [List.length_map, List.length_take]
  omega
def itemsOk (x : Option (List V)) : Bool := match x with
  | some xs => xs.all isNum
  | none => false
def short (o : Option (List V)) : Prop := ∀ xs, o = some xs → xs.length < sizeLine
theorem isi_seq {K : PySem.W.Frag} {H : Hp} {x : V} {o : Option (List V)} (h : Items H x o) : ∃ t, TyX K H x t ∧ PySem.W.kitAny K t [.type "list", .type "tuple"] = some o.isSome := by
  cases h with
  | non => exact ⟨_, .base .non, kitAny_cons (b := false) (kit_ty (by decide +kernel)) (fun _ => kitAny_cons (b := false) (kit_ty (by decide +kernel)) (fun _ => rfl) (fun z => nomatch z)) (fun z => nomatch z)⟩
  | bl b => exact ⟨_, .base (.bl b), kitAny_cons (b := false) (kit_ty (by decide +kernel)) (fun _ => kitAny_cons (b := false) (kit_ty (by decide +kernel)) (fun _ => rfl) (fun z => nomatch z)) (fun z => nomatch z)⟩
  | int i => exact ⟨_, .base (.int i), kitAny_cons (b := false) (kit_ty (by decide +kernel)) (fun _ => kitAny_cons (b := false) (kit_ty (by decide +kernel)) (fun _ => rfl) (fun z => nomatch z)) (fun z => nomatch z)⟩
  | str x => exact ⟨_, .base (.str x), kitAny_cons (b := false) (kit_ty (by decide +kernel)) (fun _ => kitAny_cons (b := false) (kit_ty (by decide +kernel)) (fun _ => rfl) (fun z => nomatch z)) (fun z => nomatch z)⟩
  | lst e => exact ⟨_, .base (.lst e), kitAny_cons (b := true) (kit_ty (by decide +kernel)) (fun z => nomatch z) (fun _ => rfl)⟩
  | tup e => exact ⟨_, .base (.tup e), kitAny_cons (b := false) (kit_ty (by decide +kernel)) (fun _ => kitAny_cons (b := true) (kit_ty (by decide +kernel)) (fun z => nomatch z) (fun _ => rfl)) (fun z => nomatch z)⟩
  | dK e => exact ⟨_, .base (.dK e), kitAny_cons (b := false) (kit_ty (by decide +kernel)) (fun _ => kitAny_cons (b := false) (kit_ty (by decide +kernel)) (fun _ => rfl) (fun z => nomatch z)) (fun z => nomatch z)⟩
def isRow (o : Option (List V)) : Bool := match o with
  | some xs => xs.all isNum && (decide (1 ≤ (xs.length : Int)) && decide ((xs.length : Int) ≤ 3001))
  | none => false
def fnL (ns : List Int) : S := fun i => ns.getD i 0
def tms (f : S) (N : Nat) : List Nat := (List.range N).filter fun i => decide (0 < i) && decide (f i ≠ 0)
theorem tms_succ (f : S) (N : Nat) : tms f (N + 1) = tms f N ++ (if 0 < N ∧ f N ≠ 0 then [N] else []) := by
  unfold tms
  rw [List.range_succ, List.filter_append]
  congr 1
  by_cases h : 0 < N ∧ f N ≠ 0
  · rw [if_pos h, List.filter_cons_of_pos (by simp [h.1, h.2])]
    rfl
  · rw [if_neg h, List.filter_cons_of_neg (by
      simp only [Bool.and_eq_true, decide_eq_true_eq]
      exact h)]
    rfl
theorem tms_lt {f : S} {N i : Nat} (h : i ∈ tms f N) : i < N ∧ 0 < i := by
  unfold tms at h
  rw [List.mem_filter, List.mem_range] at h
  simp only [Bool.and_eq_true, decide_eq_true_eq] at h
  exact ⟨h.1, h.2.1⟩
theorem tms_split (f : S) (n : Nat) : ∀ k, ∃ r, tms f (n + 1 + k) = tms f (n + 1) ++ r ∧ ∀ i ∈ r, n < i
  | 0 => ⟨[], (List.append_nil _).symm, fun i h => by cases h⟩
  | k + 1 => by
    obtain ⟨r, e, h⟩ := tms_split f n k
    refine ⟨r ++ (if 0 < n + 1 + k ∧ f (n + 1 + k) ≠ 0 then [n + 1 + k] else []), ?_, fun i hi => ?_⟩
    · show tms f (n + 1 + k + 1) = _
      rw [tms_succ, e, List.append_assoc]
    · rcases List.mem_append.mp hi with z | z
      · exact h i z
      · split at z
        · rw [List.mem_singleton.mp z]
          omega
        · cases z
theorem tms_sum (f g : S) (hg : ∀ i, f i = 0 → g i = 0) : ∀ n, ((tms f (n + 1)).map g).sum = sm (fun i => g (i + 1)) n
  | 0 => by
    rw [tms_succ]
    show (List.map g ([] ++ _)).sum = 0
    rw [if_neg (by omega)]
    rfl
  | n + 1 => by
    rw [tms_succ, List.map_append, List.sum_append, tms_sum f g hg n]
    show _ = sm (fun i => g (i + 1)) n + g (n + 1)
    congr 1
    by_cases h : f (n + 1) ≠ 0
    · rw [if_pos ⟨by omega, h⟩]
      show g (n + 1) + 0 = _
      omega
    · rw [if_neg (fun z => h z.2), hg (n + 1) (by simpa using h)]
      rfl
theorem take_sum {g : S} {l : List Nat} {j x : Nat} (h : l[j]? = some x) : ((l.take (j + 1)).map g).sum = ((l.take j).map g).sum + g x := by
  rw [List.take_succ, h]
  show ((l.take j ++ [x]).map g).sum = _
  rw [List.map_append, List.sum_append]
  show _ + (g x + 0) = _
  omega
theorem cut_at {A r : List Nat} {N m i : Nat} (hA : ∀ x ∈ A, x ≤ N) (hr : ∀ x ∈ r, N < x) (h : (A ++ r)[m]? = some i) (hi : N < i) (hle : ∀ x ∈ (A ++ r).take m, x ≤ N) : (A ++ r).take m = A := by
  have hm := (List.getElem?_eq_some_iff.mp h).1
  rw [List.length_append] at hm
  have l1 : A.length ≤ m := by
    refine Nat.le_of_not_lt fun hlt => ?_
    rw [List.getElem?_append_left hlt] at h
    have := hA i (List.mem_of_getElem? h)
    omega
  have l2 : m ≤ A.length := by
    refine Nat.le_of_not_lt fun hlt => ?_
    have h0 : 0 < r.length := by omega
    have e : ((A ++ r).take m)[A.length]? = some r[0] := by
      rw [List.getElem?_take, if_pos hlt, List.getElem?_append_right (Nat.le_refl _), Nat.sub_self]
      simp [h0]
    have h1 := hle _ (List.mem_of_getElem? e)
    have h2 := hr r[0] (List.getElem_mem h0)
    omega
  have e : m = A.length := by omega
  rw [e, List.take_left]
theorem cut_end {A r : List Nat} {N : Nat} (hr : ∀ x ∈ r, N < x) (hle : ∀ x ∈ (A ++ r).take (A ++ r).length, x ≤ N) : A ++ r = A := by
  rw [List.take_length] at hle
  cases r with
  | nil => exact List.append_nil _
  | cons x s =>
    have h1 := hle x (by simp)
    have h2 := hr x (by simp)
    omega
theorem iteF' {b : Bool} {A B : Prop} (h : b = false) (q : B) : if b = true then A else B := by
  rw [h]
  exact iteF q
theorem iteT' {b : Bool} {A B : Prop} (h : b = true) (q : A) : if b = true then A else B := by
  rw [h]
  exact iteT q
theorem inV_pm (z : Int) : inV (.int z) [.int 1, .int (-1)] = decide (z = 1 ∨ z = -1) := by
  have e : inV (.int z) [.int 1, .int (-1)] = ((1 == z) || ((-1 == z) || false)) := by
    first
      | rfl
      | (simp [inV, eqV])
  rw [e]
  by_cases h1 : z = 1
  · subst h1
    rfl
  · by_cases h2 : z = -1
    · subst h2
      rfl
    · have e1 : (1 == z) = false := by simpa using fun h => h1 h.symm
      have e2 : (-1 == z) = false := by simpa using fun h => h2 h.symm
      rw [e1, e2, decide_eq_false (fun h => h.elim h1 h2)]
      rfl
theorem items_ref {H : Hp} {x : V} {xs : List V} (h : Items H x (some xs)) : ∃ a, x = .ref a ∧ (H a = some (.lst xs) ∨ H a = some (.tup xs)) := by
  cases h with
  | lst e => exact ⟨_, rfl, .inl e⟩
  | tup e => exact ⟨_, rfl, .inr e⟩
theorem hat {ns : List Int} {i : Nat} (hi : i < ns.length) : (ns.map V.int)[i]? = some (.int (fnL ns i)) := by
  rw [List.getElem?_map]
  unfold fnL
  rw [List.getD_eq_getElem?_getD]
  simp [hi]
theorem nums_of : ∀ {xs : List V}, xs.all isNum = true → ∃ ns : List Int, xs = ns.map V.int
  | [], _ => ⟨[], rfl⟩
  | x :: r, h => by
    rw [List.all_cons, Bool.and_eq_true] at h
    obtain ⟨ns, rfl⟩ := nums_of h.2
    cases x with
    | int z => exact ⟨z :: ns, rfl⟩
    | _ => cases h.1
theorem isRow_ints {o : Option (List V)} (h : isRow o = true) : ∃ ns : List Int, o = some (ns.map V.int) ∧ 1 ≤ ns.length ∧ ns.length ≤ 3001 := by
  cases o with
  | none => cases h
  | some xs =>
    have e1 : (xs.all isNum && (decide (1 ≤ (xs.length : Int)) && decide ((xs.length : Int) ≤ 3001))) = true := h
    simp only [Bool.and_eq_true, decide_eq_true_eq] at e1
    obtain ⟨ns, rfl⟩ := nums_of e1.1
    rw [List.length_map] at e1
    exact ⟨ns, rfl, by omega, by omega⟩
theorem within_int {m : V} {lo hi : Int} (h : within m lo hi = true) : ∃ i, m = .int i ∧ lo ≤ i ∧ i ≤ hi := by
  cases m with
  | int i =>
    have e : (decide (lo ≤ i) && decide (i ≤ hi)) = true := h
    simp only [Bool.and_eq_true, decide_eq_true_eq] at e
    exact ⟨i, rfl, e.1, e.2⟩
  | _ => cases h
theorem fnL_out {ns : List Int} {i : Nat} (h : ns.length ≤ i) : fnL ns i = 0 := by
  unfold fnL
  rw [List.getD_eq_getElem?_getD, List.getElem?_eq_none h]
  rfl
theorem tn {σ : L2.St} {H : Hp} {Q : List V → Hp → Prop} (h : Q [] H) : tNil σ H Q := h
theorem tn0 {v : V} {σ : L2.St} {H : Hp} {Q : List V → Hp → Prop} (h : Q [v] H) : tCons (tC v) tNil σ H Q := h
def zer (n : Nat) : List V := List.replicate n (.int 0)
theorem rep1 {x : V} : ∀ n : Nat, (List.replicate n [x]).flatten = List.replicate n x
  | 0 => rfl
  | n + 1 => by
    rw [List.replicate_succ, List.flatten_cons, rep1 n, List.replicate_succ]
    rfl
theorem row_ext {n : Nat} {b b' : S} (h : ∀ i, i < n → b i = b' i) : rowOf n b = rowOf n b' := by
  unfold rowOf
  congr 1
  exact List.map_congr_left fun i hi => h i (List.mem_range.mp hi)
theorem row_zero {n : Nat} {b : S} (h : ∀ i, i < n → b i = 0) : rowOf n b = zer n := by
  unfold rowOf zer
  refine List.eq_replicate_iff.mpr ⟨by simp, fun v hv => ?_⟩
  obtain ⟨z, hz, rfl⟩ := List.mem_map.mp hv
  obtain ⟨i, hi, rfl⟩ := List.mem_map.mp hz
  rw [h i (List.mem_range.mp hi)]
theorem row_one {n : Nat} (h : 1 ≤ n) : rowOf n one = .int 1 :: zer (n - 1) := by
  obtain ⟨m, rfl⟩ : ∃ m, n = m + 1 := ⟨n - 1, by omega⟩
  unfold rowOf
  rw [List.range_succ_eq_map, List.map_cons, List.map_cons]
  congr 1
  show List.map V.int (List.map one (List.map Nat.succ (List.range m))) = zer (m + 1 - 1)
  refine List.eq_replicate_iff.mpr ⟨by simp, fun v hv => ?_⟩
  obtain ⟨z, hz, rfl⟩ := List.mem_map.mp hv
  obtain ⟨i, hi, rfl⟩ := List.mem_map.mp hz
  obtain ⟨j, _, rfl⟩ := List.mem_map.mp hi
  rfl
theorem row_split {z n : Nat} {b c : S} (h0 : ∀ i, i < z → b i = 0) (h1 : ∀ i, i < n → b (z + i) = c i) : rowOf (z + n) b = zer z ++ rowOf n c := by
  unfold rowOf
  rw [List.range_add, List.map_append, List.map_append]
  congr 1
  · exact row_zero h0
  · refine congrArg (List.map V.int) ?_
    rw [List.map_map]
    exact List.map_congr_left fun i hi => h1 i (List.mem_range.mp hi)
theorem fnL_drop (ns : List Int) (z i : Nat) : fnL (ns.drop z) i = fnL ns (z + i) := by
  unfold fnL
  rw [List.getD_eq_getElem?_getD, List.getD_eq_getElem?_getD, List.getElem?_drop]
theorem fnL_take {ns : List Int} {m i : Nat} (h : i < m) : fnL (ns.take m) i = fnL ns i := by
  unfold fnL
  rw [List.getD_eq_getElem?_getD, List.getD_eq_getElem?_getD, List.getElem?_take, if_pos h]
theorem fnL_sh {ns : List Int} {z : Nat} (h : ∀ i, i < z → fnL ns i = 0) : fnL ns = sh z (fnL (ns.drop z)) := by
  funext i
  unfold sh
  by_cases c : i < z
  · rw [if_pos c, h i c]
  · rw [if_neg c, fnL_drop]
    congr 1
    omega
theorem cut_mid {ns : List Int} {i j : Nat} (h1 : i ≤ ns.length) (h2 : j ≤ ns.length) : cutV (ns.map V.int) (some (i : Int)) (some (j : Int)) = ((ns.drop i).take (j - i)).map V.int := by
  have hi : HT.sIx (ns.map V.int).length 0 (some (i : Int)) = i := by
    rw [List.length_map, HT.sIx_nat]
    omega
  have hj : HT.sIx (ns.map V.int).length (ns.map V.int).length (some (j : Int)) = j := by
    rw [List.length_map, HT.sIx_nat]
    omega
  unfold cutV
  rw [hi, hj, List.map_take, List.map_drop]
theorem blkOk_loc {N : List Str} {sc scope : Scope} {own : List (Str × Nat)} (h : blkC N scope scope own = true) (hf : (scope.names.all fun y => !decide (y.2 = NameKind.free)) = true) : BlkOk N sc scope own := by
  have b := blkOk_by h
  refine ⟨b.kind, b.uniq, b.ix, fun y hy e => ?_, b.own⟩
  have z := List.all_eq_true.mp hf y hy
  rw [decide_eq_true e] at z
  cases z
theorem row_get {n i : Nat} {b : S} (h : i < n) : (rowOf n b)[i]? = some (.int (b i)) := by
  unfold rowOf
  rw [List.getElem?_map, List.getElem?_map, List.getElem?_range h]
  rfl
theorem row_len {n : Nat} {b : S} : (rowOf n b).length = n := by
  unfold rowOf
  rw [List.length_map, List.length_map, List.length_range]
theorem row_succ {n : Nat} {b : S} : rowOf (n + 1) b = rowOf n b ++ [.int (b n)] := by
  unfold rowOf
  rw [List.range_succ, List.map_append, List.map_append]
  rfl
theorem row_self (ns : List Int) : rowOf ns.length (fnL ns) = ns.map V.int := by
  unfold rowOf
  congr 1
  refine List.ext_getElem (by simp) fun i h1 h2 => ?_
  simp at h1
  simp [fnL, h1]
theorem sum_sm (h : S) : ∀ n, ((List.range n).map h).sum = sm h n
  | 0 => rfl
  | n + 1 => by
    rw [List.range_succ, List.map_append, List.sum_append, sum_sm h n]
    show sm h n + (h n + 0) = sm h n + h n
    omega
theorem back_get {ms : List Int} {m i j : Nat} (hm : m ≤ ms.length) (hi : i < m) (hj : j ≤ i) : ((((ms.take m).reverse).drop (m - 1 - i)).map V.int)[j]? = some (.int (fnL ms (i - j))) := by
  have hl : (ms.take m).length = m := by
    rw [List.length_take]
    omega
  rw [List.getElem?_map, List.getElem?_drop, List.getElem?_reverse (by rw [hl]; omega), hl, List.getElem?_take, if_pos (by omega)]
  have e : m - 1 - (m - 1 - i + j) = i - j := by omega
  rw [e]
  unfold fnL
  rw [List.getD_eq_getElem?_getD]
  have h2 : i - j < ms.length := by omega
  simp [h2]
theorem back_len {ms : List Int} {m i : Nat} (hm : m ≤ ms.length) (hi : i < m) : ((((ms.take m).reverse).drop (m - 1 - i)).map V.int).length = i + 1 := by
  rw [List.length_map, List.length_drop, List.length_reverse, List.length_take]
  omega
theorem cut_head {ns : List Int} {m : Nat} (h : m ≤ ns.length) : cutV (ns.map V.int) none (some (m : Int)) = (ns.take m).map V.int := by
  unfold cutV
  rw [HT.sIx_none, HT.sIx_nat, List.length_map, Nat.sub_zero, List.drop_zero, Nat.min_eq_left h, List.map_take]
theorem cut_tail {ns : List Int} {i : Nat} : cutV (ns.map V.int) (some (i : Int)) none = (ns.drop i).map V.int := by
  unfold cutV
  rw [HT.sIx_none, HT.sIx_nat, List.length_map, List.map_drop]
  by_cases h : i ≤ ns.length
  · rw [Nat.min_eq_left h]
    refine List.take_of_length_le ?_
    rw [List.length_drop, List.length_map]
    omega
  · rw [Nat.min_eq_right (by omega), List.drop_eq_nil_of_le (by rw [List.length_map]; exact Nat.le_refl _), List.drop_eq_nil_of_le (by rw [List.length_map]; omega)]
    exact List.take_nil
def accS (f g : S) (i : Nat) : S := fun n => sm (fun k => if k ≤ n then f k * g (n - k) else 0) i
theorem acc_step {f g : S} {i n : Nat} : accS f g (i + 1) n = accS f g i n + (if i ≤ n then f i * g (n - i) else 0) := rfl
theorem acc_end {f g : S} {N n : Nat} (h : n < N) : accS f g N n = cv f g n := by
  unfold accS cv
  have e : N = (n + 1) + (N - (n + 1)) := by omega
  rw [e, sm_split]
  have e2 : sm (fun i => if n + 1 + i ≤ n then f (n + 1 + i) * g (n - (n + 1 + i)) else 0) (N - (n + 1)) = 0 := by
    refine Eq.trans (sm_congr _ fun i _ => ?_) (sm_zero _)
    rw [if_neg (by omega)]
  rw [e2, Int.add_zero]
  exact sm_congr _ fun i hi => by rw [if_pos (by omega)]
theorem row_set {N m : Nat} {b c : S} {z : Int} (hm : m < N) (h1 : c m = z) (h2 : ∀ i, i < N → i ≠ m → c i = b i) : (rowOf N b).set m (.int z) = rowOf N c := by
  refine List.ext_getElem? fun i => ?_
  rw [List.getElem?_set]
  by_cases e : m = i
  · subst e
    rw [if_pos rfl, if_pos (by rw [row_len]; exact hm), row_get hm, h1]
  · rw [if_neg e]
    by_cases hi : i < N
    · rw [row_get hi, row_get hi, h2 i hi (fun h => e h.symm)]
    · rw [List.getElem?_eq_none (by rw [row_len]; omega), List.getElem?_eq_none (by rw [row_len]; omega)]
theorem fnL_row {n : Nat} {b : S} {i : Nat} : fnL ((List.range n).map b) i = if i < n then b i else 0 := by
  unfold fnL
  rw [List.getD_eq_getElem?_getD, List.getElem?_map]
  by_cases h : i < n
  · rw [List.getElem?_range h, if_pos h]
    rfl
  · rw [List.getElem?_eq_none (by rw [List.length_range]; omega), if_neg h]
    rfl
theorem freeX {H H1 : Hp} {d l D : Addr} (s : SameX d l H H1) (n : H1 D = none) (nd : D ≠ d) (nl : D ≠ l) : H D = none := by
  cases e : H D with
  | none => rfl
  | some o =>
    rw [s _ _ e nd nl] at n
    cases n
def gR {α : Type} (us ws : List α) : List α := match us with
  | [] => ws.reverse
  | _ => []
theorem kbR {K : PySem.W.Frag} {x qual : Str} {params : Arguments} {body : List Stmt} {scope : Scope} {kws : List (Str × V)} {f : Addr} {fd : FuncData} {ps : List Str} (F : FunD K x qual params body scope [] kws f fd) (hps : ps ≠ [])
    (h : ∀ (kV doc pm : Value) (an : Option Addr) (cdv ct : Value) (ws : List Value), ws.length = ps.length → bindArgs (PySem.W.fnOf x qual params body scope .none kV doc pm an cdv ct) ⟨[], ps.reverse.zip ws⟩ = pure (ps.zip ws.reverse)) : KBinds K fd ps ps.reverse gR gR := by
  obtain ⟨oc, od, dV, kV, doc, pm, an, cdv, ct, osl, rfl, lk, hcd, hD, hK⟩ := F.ex
  refine ⟨fun s us ws hK' hl => ?_, fun {vs us zs ws} r1 r2 => ?_⟩
  · cases us with
    | cons u r =>
      exact absurd (List.length_eq_zero_iff.mp hl.symm) hps
    | nil =>
      rcases hD with ⟨_, rfl⟩ | ⟨e, _⟩
      · refine BindsTo.of_eq (h kV doc pm an cdv ct ws ?_)
        rw [← hl]
        exact (List.length_reverse).symm
      · exact absurd rfl e
  · cases r1 with
    | nil => exact r2.reverse
    | cons _ _ => exact .nil
def noArgs : Arguments := { posonlyargs := [], args := [], vararg := none, kwonlyargs := [], kw_defaults := [], kwarg := none, defaults := [] }
structure Own (H : Hp) (d l p : Addr) (xs : List V) : Prop where
  at_ : H p = some (.lst xs)
  nd : p ≠ d
  nl : p ≠ l
structure Wd (Pt : Addr) (H : Hp) (d l c : Addr) : Prop where
  dr : Draw H d l c
  tb : Tabs [(Pt, qL)] H
variable {H H' : Hp} {d l c p Pt : Addr} {xs : List V} {o : HO}
theorem Own.same (h : Own H d l p xs) (s : Same H H') : Own H' d l p xs := ⟨s _ _ h.at_, h.nd, h.nl⟩
theorem Own.sx (h : Own H d l p xs) (s : SameX d l H H') : Own H' d l p xs := ⟨s _ _ h.at_ h.nd h.nl, h.nd, h.nl⟩
theorem Own.ext (h : Own H d l p xs) (s : ExtN H H') : Own H' d l p xs := ⟨s _ _ h.at_ (fun ps z => by cases z), h.nd, h.nl⟩
theorem Own.new (D : Draw H d l c) (n : H p = none) : Own (upd H p (.lst xs)) d l p xs := ⟨upd_same, (D.ne n).1, (D.ne n).2.1⟩
theorem Wd.same (W : Wd Pt H d l c) (s : Same H H') : Wd Pt H' d l c := ⟨W.dr.same s, W.tb.ext s⟩
theorem Wd.sx (W : Wd Pt H d l c) (s : SameX d l H H') (D : Draw H' d l c) : Wd Pt H' d l c := by
  refine ⟨D, fun p hp => ?_⟩
  obtain ⟨ls, cs, r, t, D0⟩ := W.dr
  obtain ⟨ps, h1, h2, h3⟩ := W.tb p hp
  refine ⟨ps, s _ _ h1 (ne_of h1 D0.dd (fun z => by cases z)) (ne_of h1 D0.dl (fun z => by cases z)), h2, fun pos cv hc => ?_⟩
  obtain ⟨k, e1, e2⟩ := h3 pos cv hc
  refine ⟨k, e1, s _ _ e2 (ne_of e2 D0.dd (fun z => ?_)) (ne_of e2 D0.dl (fun z => ?_))⟩
  · unfold CodeO at z
    cases z
  · unfold CodeO at z
    cases z
theorem Draw.ext (D : Draw H d l c) (s : ExtN H H') : Draw H' d l c := by
  obtain ⟨ls, cs, r, t, D0⟩ := D
  exact ⟨ls, cs, r, t, s _ _ D0.dd (fun ps z => by cases z), s _ _ D0.dl (fun ps z => by cases z), s _ _ D0.dc (fun ps z => by cases z), D0.lc⟩
theorem Wd.upd {Pt d l c D' : Addr} {xs ys : List V} (W : Wd Pt H d l c) (h : H D' = some (.lst xs)) (n1 : D' ≠ d) (n2 : D' ≠ l) (n3 : D' ≠ c) : Wd Pt (upd H D' (.lst ys)) d l c := by
  refine ⟨W.dr.put n1 n2 n3, fun p hp => ?_⟩
  obtain ⟨ps, h1, h2, h3⟩ := W.tb p hp
  refine ⟨ps, by rw [upd_ne (ne_of h1 h (fun z => by cases z))]; exact h1, h2, fun pos cv hc => ?_⟩
  obtain ⟨k, e1, e2⟩ := h3 pos cv hc
  have nk : k ≠ D' := ne_of e2 h (fun z => by
    unfold CodeO at z
    cases z)
  exact ⟨k, e1, by rw [upd_ne nk]; exact e2⟩
theorem Own.upd {d l p D' : Addr} {xs : List V} {o : HO} (O : Own H d l p xs) (h : p ≠ D') : Own (upd H D' o) d l p xs := ⟨by rw [upd_ne h]; exact O.at_, O.nd, O.nl⟩
theorem eq_no (ls : List Int) : (!PyData.eqv (.list (intsD ls)) (.list (intsD ls))) = false := by
  have e := SeqAt.eqv_refl (.list (intsD ls)) (show PyData.canLay0 (.list (intsD ls)) = true from ints_lay ls)
  rw [e]
  rfl
structure OwnO (H : Hp) (d l p : Addr) (o : HO) : Prop where
  at_ : H p = some o
  nd : p ≠ d
  nl : p ≠ l
  nt : ∀ ps, o ≠ .tbl ps
theorem OwnO.same (h : OwnO H d l p o) (s : Same H H') : OwnO H' d l p o := ⟨s _ _ h.at_, h.nd, h.nl, h.nt⟩
theorem OwnO.sx (h : OwnO H d l p o) (s : SameX d l H H') : OwnO H' d l p o := ⟨s _ _ h.at_ h.nd h.nl, h.nd, h.nl, h.nt⟩
theorem OwnO.ext (h : OwnO H d l p o) (s : ExtN H H') : OwnO H' d l p o := ⟨s _ _ h.at_ h.nt, h.nd, h.nl, h.nt⟩
theorem OwnO.new (D : Draw H d l c) (n : H p = none) (nt : ∀ ps, o ≠ .tbl ps) : OwnO (upd H p o) d l p o := ⟨upd_same, (D.ne n).1, (D.ne n).2.1, nt⟩
theorem OwnO.upd {D' : Addr} {o' : HO} (O : OwnO H d l p o) (h : p ≠ D') : OwnO (upd H D' o') d l p o := ⟨by rw [upd_ne h]; exact O.at_, O.nd, O.nl, O.nt⟩
theorem all_num (ns : List Int) : (ns.map V.int).all isNum = true := by
  rw [List.all_map]
  exact List.all_eq_true.mpr fun _ _ => rfl
theorem row_ints {ns : List Int} (h1 : 1 ≤ ns.length) (h2 : ns.length ≤ 3001) : isRow (some (ns.map V.int)) = true := by
  show ((ns.map V.int).all isNum && (decide (1 ≤ ((ns.map V.int).length : Int)) && decide (((ns.map V.int).length : Int) ≤ 3001))) = true
  rw [all_num, List.length_map, decide_eq_true (by omega : 1 ≤ (ns.length : Int)), decide_eq_true (by omega : (ns.length : Int) ≤ 3001)]
  rfl
theorem pv_ints {H : Hp} (ns : List Int) : AllPV H (some (ns.map V.int)) := by
  intro xs e v hv
  cases e
  obtain ⟨z, _, rfl⟩ := List.mem_map.mp hv
  exact .int z
theorem short_ints {ns : List Int} (h2 : ns.length ≤ 3001) : short (some (ns.map V.int)) := by
  intro xs e
  cases e
  rw [List.length_map, sizeLine_eq]
  omega
def Bd (ns : List Int) : Prop := ∀ i, (fnL ns i).natAbs < 2 ^ 90
theorem Bd.to {ns : List Int} (h : Bd ns) {k : Nat} (hk : 90 ≤ k) : ∀ i, (fnL ns i).natAbs < 2 ^ k := fun i => Nat.lt_of_lt_of_le (h i) (Nat.pow_le_pow_right (by decide) hk)
theorem Bd.mem {ns : List Int} (h : Bd ns) {z : Int} (hz : z ∈ ns) : z.natAbs < 2 ^ 90 := by
  obtain ⟨i, hi⟩ := List.mem_iff_getElem?.mp hz
  have e := h i
  unfold fnL at e
  rw [List.getD_eq_getElem?_getD, hi] at e
  exact e
theorem bd_of {ns : List Int} (h : ∀ z ∈ ns, z.natAbs < 2 ^ 90) : Bd ns := fun i => by
  by_cases hi : i < ns.length
  · unfold fnL
    rw [List.getD_eq_getElem?_getD, List.getElem?_eq_getElem hi]
    exact h _ (List.getElem_mem hi)
  · rw [fnL_out (by omega)]
    exact Nat.pow_pos (by decide)
theorem ints_inj {a b : List Int} (h : some (a.map V.int) = some (b.map V.int)) : a = b := by
  have h2 := congrArg (fun o => (o.getD []).filterMap (fun v => match v with | V.int z => some z | _ => none)) h
  simp only [Option.getD_some, List.filterMap_map] at h2
  have e : ∀ l : List Int, l.filterMap ((fun v => match v with | V.int z => some z | _ => none) ∘ V.int) = l := fun l => by
    induction l with
    | nil => rfl
    | cons z r ih => rw [List.filterMap_cons]; exact congrArg (z :: ·) ih
  rw [e, e] at h2
  exact h2
theorem within_yes {i lo hi : Int} (h1 : lo ≤ i) (h2 : i ≤ hi) : within (.int i) lo hi = true := by
  show (decide (lo ≤ i) && decide (i ≤ hi)) = true
  rw [decide_eq_true h1, decide_eq_true h2]
  rfl
end Gn

set_option Elab.async false
set_option linter.all false
set_option maxRecDepth 100000
set_option maxHeartbeats 4000000
set_option pp.maxSteps 3000
set_option exponentiation.threshold 500000
/-! ranges by a step, lists as rows -/
namespace Gn
open PySem PySem.Spec PyProof.Rows L2 Dr Xv LamX Ps
def upN (a b d : Nat) : Nat := if a < b then (b - a - 1) / d + 1 else 0
theorem lt_upN {a b d t : Nat} (hd : 0 < d) : t < upN a b d ↔ a + t * d < b := by
  unfold upN
  by_cases h : a < b
  · rw [if_pos h, Nat.lt_succ_iff, Nat.le_div_iff_mul_le hd]
    omega
  · rw [if_neg h]
    constructor
    · intro z; omega
    · intro z; omega
theorem upN_le {a b d : Nat} (hd : 0 < d) : upN a b d ≤ b - a := by
  unfold upN
  split
  · have := Nat.div_le_self (b - a - 1) d
    omega
  · omega
theorem rg_up {a b d : Nat} (hd : 0 < d) (h1 : a < 2 ^ 29) (h2 : b < 2 ^ 29) (h3 : d < 2 ^ 29) : RgC (a : Int) (b : Int) (d : Int) (upN a b d) := by
  have e29 : (2 : Nat) ^ 29 = 536870912 := by decide
  have hn : Builtin.Range.rangeSize (a : Int) (b : Int) (d : Int) = (upN a b d : Nat) := by
    unfold Builtin.Range.rangeSize upN
    rw [if_pos (by omega : (d : Int) > 0)]
    by_cases h : a < b
    · rw [if_pos h, if_pos (by omega : (a : Int) < (b : Int))]
      have e : (b : Int) - (a : Int) - 1 = ((b - a - 1 : Nat) : Int) := by omega
      rw [e]
      simp
    · rw [if_neg h, if_neg (by omega)]
      rfl
  refine ⟨by omega, by omega, ?_, hn⟩
  unfold Builtin.Range.small
  have hu : upN a b d ≤ b - a := upN_le hd
  have hle : a + upN a b d * d < b + d + 1 ∨ upN a b d = 0 := by
    cases hz : upN a b d with
    | zero => exact .inr rfl
    | succ t =>
      have z := (lt_upN hd).mp (by omega : t < upN a b d)
      rw [Nat.add_mul, Nat.one_mul]
      exact .inl (by omega)
  rw [hn]
  simp only [Builtin.Range.rangeFitsLong, Bool.and_eq_true, Bool.or_eq_true, decide_eq_true_eq, beq_iff_eq, show ((d : Int) > 0) by omega, if_true]
  refine ⟨⟨⟨⟨?_, ?_⟩, ?_⟩, ?_⟩, ?_⟩ <;> try omega
theorem log_small2 {n : Nat} (h : n ≤ 4000) : ((n : Int)).natAbs.log2 < 9000 := by
  have e : ((n : Int)).natAbs = n := by omega
  rw [e]
  by_cases z : n = 0
  · rw [z]
    decide
  · have k : n.log2 < 12 := (Nat.log2_lt z).mpr (by omega)
    omega
/-- all but p stays -/
def SameO (p : Addr) (H H' : Hp) : Prop := ∀ b o, H b = some o → b ≠ p → H' b = some o
section
variable {p q : Addr} {H H0 H1 H' : Hp} {o : HO}
theorem SameO.refl : SameO p H H := fun _ _ e _ => e
theorem SameO.trans (a : SameO p H H1) (b : SameO p H1 H') : SameO p H H' := fun c o e n => b c o (a c o e n) n
theorem SameO.of (a : Same H H') : SameO p H H' := fun c o e _ => a c o e
theorem SameO.put : SameO p H (upd H p o) := fun c o e n => by rw [upd_ne n]; exact e
theorem SameO.new (h : H q = none) : SameO p H (upd H q o) := .of (same_new h)
theorem SameO.back (a : SameO p H H') (s : Same H0 H) (h : H0 p = none) : Same H0 H' := fun c o e => a c o (s c o e) (ne_of_none e h)
theorem SameO.row {K : PySem.W.Frag} {a : Addr} {xs : List V} (s : SameO p H H') (h : H a = some (.lst xs)) (n : a ≠ p) : SqL K H' a xs := SqL.of (s _ _ h n)
end
theorem sqx {K : PySem.W.Frag} {H : Hp} {b : Addr} {xs : List V} {tup : Bool} (h : H b = some (if tup then .tup xs else .lst xs)) : if tup then SqT K H b xs else SqL K H b xs := by
  cases tup with
  | true => exact SqT.of h
  | false => exact SqL.of h
theorem row_val {N i : Nat} {b : S} (h : i < N) : atI (rowOf N b) (i : Int) = some (.int (b i)) := atI_nat (row_get h)
theorem row_at {N i : Nat} {b : S} (h : i < N) : ixN (rowOf N b).length (i : Int) = some i := by
  unfold ixN
  rw [if_pos (by omega), row_len, if_pos (by omega)]
  simp
theorem take_at {ns : List Int} {m i : Nat} (hi : i < (ns.take m).length) : ((ns.take m).map V.int)[i]? = some (.int (fnL ns i)) := by
  rw [List.length_take] at hi
  rw [List.getElem?_map, List.getElem?_take, if_pos (by omega)]
  unfold fnL
  rw [List.getD_eq_getElem?_getD]
  have h2 : i < ns.length := by omega
  simp [h2]
/-- a list or a tuple of these numbers -/
def SeqI (H : Hp) (a : Addr) (ns : List Int) : Prop := H a = some (.lst (ns.map V.int)) ∨ H a = some (.tup (ns.map V.int))
theorem SeqI.same {H H' : Hp} {a : Addr} {ns : List Int} (h : SeqI H a ns) (s : Same H H') : SeqI H' a ns := h.imp (s _ _) (s _ _)
theorem SeqI.ne {H : Hp} {a p : Addr} {ns : List Int} (h : SeqI H a ns) (n : H p = none) : a ≠ p := by
  rcases h with e | e
  · exact ne_of_none e n
  · exact ne_of_none e n
theorem SeqI.len {K : PySem.W.Frag} {H : Hp} {a : Addr} {ns : List Int} (h : SeqI H a ns) : LenV K (.ref a) H (ns.map V.int).length := by
  rcases h with e | e
  · exact .inl ⟨_, SqL.of e, rfl⟩
  · exact .inr ⟨_, SqT.of e, rfl⟩
/-- xs[:n] of a list or a tuple -/
def rHead : V → Option Int → Option Int → Hp → VK → Prop := fun x l u H Q => ∃ (a : Addr) (ns : List Int) (n : Nat), x = .ref a ∧ l = none ∧ u = some (n : Int) ∧ SeqI H a ns ∧
  ∀ (tup : Bool) (b : Addr) (H2 : Hp), (b = a ∨ H b = none) → Same H H2 → H2 b = some (if tup then .tup ((ns.take n).map V.int) else .lst ((ns.take n).map V.int)) → Q (.ref b) H2
theorem sl_head {X : Cx} : SlR X rHead := by
  have main : ∀ {x : V} {lo hi : Option Int} {H : Hp} {Q : VK}, rHead x lo hi H Q → rSlL X.K x lo hi H Q ∨ rSlA X.K x lo hi H Q := by
    rintro x lo hi H Q ⟨a, ns, n, rfl, rfl, rfl, ha, k⟩
    have ecut : cutV (ns.map V.int) none (some (n : Int)) = (ns.take n).map V.int := by
      unfold cutV
      rw [HT.sIx_none, HT.sIx_nat, List.length_map, Nat.sub_zero, List.drop_zero, ← List.map_take]
      congr 1
      by_cases h : n ≤ ns.length
      · rw [Nat.min_eq_left h]
      · rw [Nat.min_eq_right (by omega), List.take_of_length_le (Nat.le_refl _), List.take_of_length_le (by omega)]
    rcases ha with e | e
    · refine .inl ⟨a, _, rfl, SqL.of e, fun p hp => ?_⟩
      rw [ecut]
      exact k false p _ (.inr hp) (same_new hp) upd_same
    · refine .inr ⟨a, _, rfl, SqT.of e, fun hw => ?_, fun _ p hp => ?_⟩
      · have e2 : (ns.take n).map V.int = ns.map V.int := by
          have z := hw.2
          rw [HT.sIx_nat, List.length_map] at z
          rw [List.take_of_length_le (by omega)]
        exact k true a H (.inl rfl) (fun _ _ q => q) (by rw [e2]; exact e)
      · rw [ecut]
        exact k true p _ (.inr hp) (same_new hp) upd_same
  intro pins s σ H x v vl vu lo hi sl Q I rx hs pl pu q
  exact SlR.or (X := X) sl_list sl_tupA pins s σ H x v vl vu lo hi sl Q I rx hs pl pu (main q)
end Gn

set_option Elab.async false
set_option linter.all false
set_option maxRecDepth 100000
set_option maxHeartbeats 4000000
set_option pp.maxSteps 3000
set_option exponentiation.threshold 500000
/-! what a law holds: the draw, the tables, its objects -/
namespace Gn
open PySem PySem.Spec PyProof.Rows L2 Dr Xv LamX Ps
structure Sta (Pt : Addr) (H : Hp) (d l c : Addr) (os : List (Addr × HO)) : Prop where
  W : Wd Pt H d l c
  O : ∀ x ∈ os, H x.1 = some x.2 ∧ x.1 ≠ d ∧ x.1 ≠ l ∧ x.1 ≠ c ∧ ∀ ps, x.2 ≠ .tbl ps
  P : os.Pairwise fun x y => x.1 ≠ y.1
namespace Sta
section
variable {Pt d l c p : Addr} {H H' : Hp} {o : HO} {os os' : List (Addr × HO)}
theorem same (S : Sta Pt H d l c os) (s : Same H H') : Sta Pt H' d l c os := ⟨S.W.same s, fun x hx => ⟨s _ _ (S.O x hx).1, (S.O x hx).2⟩, S.P⟩
theorem sx (S : Sta Pt H d l c os) (s : SameX d l H H') (D : Draw H' d l c) : Sta Pt H' d l c os := ⟨S.W.sx s D, fun x hx => ⟨s _ _ (S.O x hx).1 (S.O x hx).2.1 (S.O x hx).2.2.1, (S.O x hx).2⟩, S.P⟩
theorem ext (S : Sta Pt H d l c os) (s : ExtN H H') (T : Tabs [(Pt, qL)] H') : Sta Pt H' d l c os := ⟨⟨Draw.ext S.W.dr s, T⟩, fun x hx => ⟨s _ _ (S.O x hx).1 (S.O x hx).2.2.2.2, (S.O x hx).2⟩, S.P⟩
theorem res (S : Sta Pt H d l c os) (hp : H p = none) (s : Same H H') (e : H' p = some o) (nt : ∀ ps, o ≠ .tbl ps) : Sta Pt H' d l c ((p, o) :: os) := by
  have S' := S.same s
  have n := S.W.dr.ne hp
  refine ⟨S'.W, fun x hx => ?_, List.pairwise_cons.mpr ⟨fun x hx => (ne_of_none (S.O x hx).1 hp).symm, S.P⟩⟩
  rcases List.mem_cons.mp hx with rfl | hx
  · exact ⟨e, n.1, n.2.1, n.2.2, nt⟩
  · exact S'.O x hx
theorem new (S : Sta Pt H d l c os) (hp : H p = none) (nt : ∀ ps, o ≠ .tbl ps) : Sta Pt (upd H p o) d l c ((p, o) :: os) := S.res hp (same_new hp) upd_same nt
theorem newL {xs : List V} (S : Sta Pt H d l c os) (hp : H p = none) : Sta Pt (upd H p (.lst xs)) d l c ((p, .lst xs) :: os) := S.new hp (fun _ e => nomatch e)
theorem newT {xs : List V} (S : Sta Pt H d l c os) (hp : H p = none) : Sta Pt (upd H p (.tup xs)) d l c ((p, .tup xs) :: os) := S.new hp (fun _ e => nomatch e)
theorem resL {xs : List V} (S : Sta Pt H d l c os) (hp : H p = none) (s : Same H H') (e : H' p = some (.lst xs)) : Sta Pt H' d l c ((p, .lst xs) :: os) := S.res hp s e (fun _ e => nomatch e)
/-- a result of a drawing call -/
theorem resX {xs : List V} (S : Sta Pt H d l c os) (hp : H p = none) (s : SameX d l H H') (D : Draw H' d l c) (e : H' p = some (.lst xs)) : Sta Pt H' d l c ((p, .lst xs) :: os) := by
  have S' := S.sx s D
  have n := S.W.dr.ne hp
  refine ⟨S'.W, fun x hx => ?_, List.pairwise_cons.mpr ⟨fun x hx => (ne_of_none (S.O x hx).1 hp).symm, S.P⟩⟩
  rcases List.mem_cons.mp hx with rfl | hx
  · exact ⟨e, n.1, n.2.1, n.2.2, fun _ e => nomatch e⟩
  · exact S'.O x hx
theorem g (S : Sta Pt H d l c os) (i : Nat) {x : Addr × HO} (h : os[i]? = some x) : H x.1 = some x.2 := (S.O x (List.mem_of_getElem? h)).1
theorem gx (S : Sta Pt H d l c os) (i : Nat) {x : Addr × HO} (h : os[i]? = some x) (s : SameX d l H H') : H' x.1 = some x.2 := s _ _ (S.O x (List.mem_of_getElem? h)).1 (S.O x (List.mem_of_getElem? h)).2.1 (S.O x (List.mem_of_getElem? h)).2.2.1
theorem sub (S : Sta Pt H d l c os) (h : os'.Sublist os) : Sta Pt H d l c os' := ⟨S.W, fun x hx => S.O x (h.subset hx), S.P.sublist h⟩
theorem dr (S : Sta Pt H d l c os) : Draw H d l c := S.W.dr
theorem tb (S : Sta Pt H d l c os) : Tabs [(Pt, qL)] H := S.W.tb
/-- the list ahead is written -/
theorem put {xs ys : List V} (S : Sta Pt H d l c ((p, .lst xs) :: os)) : Sta Pt (upd H p (.lst ys)) d l c ((p, .lst ys) :: os) := by
  obtain ⟨h1, h2, h3, h4, h5⟩ := S.O _ (List.mem_cons_self ..)
  obtain ⟨q1, q2⟩ := List.pairwise_cons.mp S.P
  refine ⟨S.W.upd h1 h2 h3 h4, fun x hx => ?_, List.pairwise_cons.mpr ⟨q1, q2⟩⟩
  rcases List.mem_cons.mp hx with rfl | hx
  · exact ⟨upd_same, h2, h3, h4, fun _ e => nomatch e⟩
  · have z := S.O x (List.mem_cons_of_mem _ hx)
    exact ⟨by rw [upd_ne (q1 x hx).symm]; exact z.1, z.2⟩
theorem tl {x : Addr × HO} (S : Sta Pt H d l c (x :: os)) : Sta Pt H d l c os := S.sub (List.sublist_cons_self ..)
end
end Sta
/-- data of ints, equal -/
theorem eq_ints {a b : List Int} (h : a = b) : (!PyData.eqv (.list (intsD a)) (.list (intsD b))) = false := by
  subst h
  exact eq_no a
def intsOf (n : Nat) (b : S) : List Int := (List.range n).map b
theorem row_ofI {n : Nat} {b : S} : rowOf n b = (intsOf n b).map V.int := rfl
theorem fnL_ints {n : Nat} {b : S} {i : Nat} (h : i < n) : fnL (intsOf n b) i = b i := by
  unfold intsOf
  rw [fnL_row, if_pos h]
theorem len_ints {n : Nat} {b : S} : (intsOf n b).length = n := by
  unfold intsOf
  rw [List.length_map, List.length_range]
theorem fnL_snoc_le {ns : List Int} {z : Int} {c : Nat} (h : ∀ i, (fnL ns i).natAbs ≤ c) (hz : z.natAbs ≤ c) (i : Nat) : (fnL (ns ++ [z]) i).natAbs ≤ c := by
  have hi := h i
  unfold fnL at hi ⊢
  rw [List.getD_eq_getElem?_getD] at hi ⊢
  by_cases h1 : i < ns.length
  · rw [List.getElem?_append_left h1]
    exact hi
  · rw [List.getElem?_append_right (by omega)]
    by_cases h2 : i - ns.length = 0
    · rw [h2]
      exact hz
    · rw [List.getElem?_eq_none (by simp; omega)]
      exact Nat.zero_le _
theorem cut_full (ns : List Int) (m : Nat) : cutV (ns.map V.int ++ zer m) none (some (m : Int)) = rowOf m (fnL ns) := by
  have e : cutV (ns.map V.int ++ zer m) none (some (m : Int)) = (ns.map V.int ++ zer m).take m := by
    unfold cutV
    rw [HT.sIx_none, HT.sIx_nat, Nat.sub_zero, List.drop_zero, Nat.min_eq_left (by
      rw [List.length_append]
      unfold zer
      rw [List.length_replicate]
      omega)]
  rw [e]
  refine List.ext_getElem? fun i => ?_
  rw [List.getElem?_take]
  by_cases h : i < m
  · rw [if_pos h, row_get h]
    by_cases h2 : i < ns.length
    · rw [List.getElem?_append_left (by rw [List.length_map]; exact h2), List.getElem?_map]
      unfold fnL
      rw [List.getD_eq_getElem?_getD]
      simp [h2]
    · rw [List.getElem?_append_right (by rw [List.length_map]; omega), fnL_out (by omega), List.length_map]
      unfold zer
      rw [List.getElem?_replicate, if_pos (by omega)]
  · rw [if_neg h, List.getElem?_eq_none (by rw [row_len]; omega)]
end Gn

set_option Elab.async false
set_option linter.all false
set_option maxRecDepth 100000
set_option maxHeartbeats 4000000
set_option pp.maxSteps 3000
namespace Xv
open PySem PySem.Spec PyProof.Rows L2
/-! ### x *= e, isqrt -/
def ipIc (c : Int → Int → Prop) (f : Int → Int → Int) : TIp := fun x y H Q => ∃ i j, x = .int i ∧ y = .int j ∧ c i j ∧ Q (.int (f i j)) H
theorem ip_mulW {X : Cx} : PIp X .Mult (ipIc CMulW fun i j => i * j) := by
  intro pins s σ H x y v u Q I r1 r2 h
  obtain ⟨i, j, e1, e2, c, q⟩ := h
  subst e1; subst e2
  obtain ⟨t, rfl⟩ := r1
  obtain ⟨t', rfl⟩ := r2
  exact imul_int ⟨.int _, H, I.tok _, ⟨_, rfl⟩, q⟩ c.ok
def rIsqrt : List V → Hp → VK → Prop := fun vs H Q => ∃ a : Nat, vs = [.int (a : Int)] ∧ a < 2 ^ 64 ∧ ∀ r : Nat, r * r ≤ a → a < (r + 1) * (r + 1) → Q (.int (r : Int)) H
theorem cr_isqrt {X : Cx} : CallR X (.builtin "math.isqrt") rIsqrt := by
  intro pins s σ H vs us Q I r h
  obtain ⟨a, rfl, h1, q⟩ := h
  cases r with
  | cons r rr =>
    cases rr
    obtain ⟨t, rfl⟩ := r
    refine PySem.W.mg_isqrt (by omega) (by exact_mod_cast h1) ?_
    have sp := Float64.isqrt_spec ((a : Int)).toNat
    rw [Int.toNat_natCast] at sp ⊢
    exact ⟨.int _, H, I.tok _, ⟨_, rfl⟩, q _ sp.1 sp.2⟩
/-! ### a written dict from numbers to numbers -/
def ent1 (h : Int) (k v : Int) : Value → Value → Bool
  | .int k' _, .int v' _ => decide (k' = k) && (decide (v' = v) && decide (h = hashInt k))
  | _, _ => false
theorem ent1_ok {h k v : Int} {a b : Value} (e : ent1 h k v a b = true) : ∃ t u, a = .int k t ∧ b = .int v u ∧ h = hashInt k := by
  unfold ent1 at e
  split at e
  · rename_i k' t v' u
    rw [Bool.and_eq_true, Bool.and_eq_true, decide_eq_true_eq, decide_eq_true_eq, decide_eq_true_eq] at e
    obtain ⟨rfl, rfl, e3⟩ := e
    exact ⟨t, u, rfl, rfl, e3⟩
  · cases e
def entB : List DictEntry → List (Int × Int) → Bool
  | [], [] => true
  | e :: es, (k, v) :: r => ent1 e.hash k v e.key e.val && entB es r
  | _, _ => false
structure KDI (K : PySem.W.Frag) (a : Addr) (kvs : List (Int × Int)) : Prop where
  at_ : ∃ es n, K.lookup a = some ⟨.type "dict", none, .dict es n, #[]⟩ ∧ entB es.toList kvs = true
  nd : (kvs.map (·.1)).Nodup
  low : (a == sysModules) = false
def kdiB (K : PySem.W.Frag) (a : Addr) (kvs : List (Int × Int)) : Bool := (match K.lookup a with
  | some ⟨.type "dict", none, .dict es n, sl⟩ => decide (sl.toList = []) && entB es.toList kvs
  | _ => false) && (decide (kvs.map (·.1)).Nodup && !(a == sysModules))
theorem kdiB_ok {K : PySem.W.Frag} {a : Addr} {kvs : List (Int × Int)} (h : kdiB K a kvs = true) : KDI K a kvs := by
  unfold kdiB at h
  rw [Bool.and_eq_true, Bool.and_eq_true] at h
  obtain ⟨h1, h2, h3⟩ := h
  refine ⟨?_, of_decide_eq_true h2, by cases e : (a == sysModules) with
    | false => rfl
    | true => rw [e] at h3; cases h3⟩
  split at h1
  · rename_i es n sl e
    rw [Bool.and_eq_true, decide_eq_true_eq] at h1
    obtain ⟨l⟩ := sl
    obtain ⟨h4, h5⟩ := h1
    have h4' : l = [] := h4
    subst h4'
    exact ⟨es, n, e, h5⟩
  · cases h1
def valI (kvs : List (Int × Int)) (k : Int) : Option Int := (kvs.find? fun kv => kv.1 = k).map (·.2)
theorem ent_pairs {P : Program} {w : World} : ∀ {es : List DictEntry} {kvs : List (Int × Int)}, entB es kvs = true → ∃ vs : List (Key × Value), Pairs (mixKind P w) es vs ∧ vs.map (·.1) = kvs.map (fun kv => Sum.inl kv.1) ∧ (∀ e ∈ es, ∃ k, (mixKind P w).is k e.key = true ∧ e.hash = (mixKind P w).hash k) ∧
    ∀ k : Int, (valueAt vs (Sum.inl k) = none ∧ valI kvs k = none) ∨ ∃ t v, valueAt vs (Sum.inl k) = some (.int v t) ∧ valI kvs k = some v
  | [], [], _ => ⟨[], .nil, rfl, fun e he => (nomatch he), fun k => .inl ⟨rfl, rfl⟩⟩
  | [], _ :: _, h => by cases h
  | e :: es, [], h => by cases h
  | e :: es, (k, v) :: r, h => by
    obtain ⟨eh, ek, ev⟩ := e
    have h' : (ent1 eh k v ek ev && entB es r) = true := h
    rw [Bool.and_eq_true] at h'
    obtain ⟨h1, h2⟩ := h'
    obtain ⟨vs, p1, p2, p3, p4⟩ := ent_pairs (P := P) (w := w) h2
    obtain ⟨t', u', rfl, rfl, rfl⟩ := ent1_ok h1
    refine ⟨(Sum.inl k, .int v u') :: vs, .cons (mixKind_int P w _ _) rfl p1, by rw [List.map_cons, List.map_cons, p2], fun e he => ?_, fun k2 => ?_⟩
    · rcases List.mem_cons.mp he with rfl | he
      · exact ⟨Sum.inl k, mixKind_int P w _ _, rfl⟩
      · exact p3 e he
    · by_cases c : k = k2
      · subst c
        refine .inr ⟨u', v, ?_, ?_⟩
        · simp [valueAt]
        · simp [valI]
      · have c2 : ¬ (Sum.inl k : Key) = Sum.inl k2 := fun z => c (Sum.inl.inj z)
        have e1 : valueAt ((Sum.inl k, Value.int v u') :: vs) (Sum.inl k2) = valueAt vs (Sum.inl k2) := by simp [valueAt, List.find?_cons, c]
        have e2 : valI ((k, v) :: r) k2 = valI r k2 := by simp [valI, List.find?_cons, c]
        rw [e1, e2]
        exact p4 k2
theorem kdi_dict {X : Cx} {pins : List (Addr × Obj)} {σ : L2.St} {H : Hp} {s : Shared} {a : Addr} {kvs : List (Int × Int)} (I : Inv X pins σ H s) (D : KDI X.K a kvs) : ∃ vs : List (Key × Value), s.heap.DictOf (mixKind X.prog X.w) a vs ∧
    ∀ k : Int, (valueAt vs (Sum.inl k) = none ∧ valI kvs k = none) ∨ ∃ t v, valueAt vs (Sum.inl k) = some (.int v t) ∧ valI kvs k = some v := by
  obtain ⟨⟨es, n, hl, he⟩, nd, _⟩ := D
  obtain ⟨vs, p1, p2, p3, p4⟩ := ent_pairs (P := X.prog) (w := X.w) he
  refine ⟨vs, ⟨_, es, n, I.kIn _ _ hl, ⟨rfl, rfl, rfl⟩, rfl, fun e he => p3 e (Array.mem_toList_iff.mpr he), p1, ?_⟩, p4⟩
  rw [p2]
  have e : kvs.map (fun kv => (Sum.inl kv.1 : Key)) = (kvs.map (·.1)).map Sum.inl := by rw [List.map_map]; rfl
  rw [e]
  exact List.Pairwise.map Sum.inl (fun a b h z => h (Sum.inl.inj z)) nd
def rNotInKDI (K : PySem.W.Frag) : R2 := fun x y H Q => ∃ p kvs k, x = .int k ∧ y = .ref p ∧ KDI K p kvs ∧ Q (.bl (!(valI kvs k).isSome)) H
theorem op_notIn_kdi {X : Cx} : OpR X (compareOp .NotIn) (rNotInKDI X.K) := by
  intro pins s σ H x y v u Q I rx ry h
  obtain ⟨p, kvs, k, rfl, rfl, D, q⟩ := h
  obtain ⟨t, rfl⟩ := rx
  obtain rfl : u = Value.ref p := ry
  obtain ⟨vs, dd, hv⟩ := kdi_dict I D
  refine wpAny_notIn_of (mixKind_int X.prog X.w k t) D.low dd.mapOf ?_
  have e : (valueAt vs (Sum.inl k)).isSome = (valI kvs k).isSome := by
    rcases hv k with ⟨h1, h2⟩ | ⟨t, v, h1, h2⟩ <;> rw [h1, h2] <;> rfl
  rw [e]
  exact ⟨.bl _, H, I.tok _, rfl, q⟩
def rIxKDI (K : PySem.W.Frag) : R2 := fun x y H Q => ∃ p kvs k v, x = .ref p ∧ y = .int k ∧ KDI K p kvs ∧ valI kvs k = some v ∧ Q (.int v) H
theorem ix_kdi {X : Cx} : IxR X (rIxKDI X.K) := by
  intro value slice pins s σ H x y v u Q I rx ry h hs
  obtain ⟨p, kvs, k, z, rfl, rfl, D, e, q⟩ := h
  obtain rfl : v = Value.ref p := rx
  obtain ⟨t, rfl⟩ := ry
  obtain ⟨vs, dd, hv⟩ := kdi_dict I D
  rcases hv k with ⟨_, h2⟩ | ⟨t', v', h1, h2⟩
  · rw [h2] at e
    cases e
  · rw [h2] at e
    cases e
    exact tail_any dd.mapOf.typeIs slot_dict_getitem.lookup (wpAny_getItem_of (mixKind_int X.prog X.w k t) dd.mapOf h1 ⟨.int _, H, I.tok _, ⟨_, rfl⟩, q⟩) hs
end Xv

set_option Elab.async false
set_option linter.all false
set_option maxRecDepth 100000
set_option maxHeartbeats 4000000
set_option pp.deepTerms false
set_option pp.maxSteps 3000
namespace Dr
open PySem PySem.Spec PyProof.Rows L2
def top (i : Nat) : Stmt := PySem.Challenge.pw_etasure_k32_divisors_and_eisenstein.main.body.getD i (.Pass ⟨0, 0, 0, 0⟩)
abbrev sBegun : Stmt := top 22
abbrev sBlend : Stmt := top 23
abbrev sTake : Stmt := top 24
abbrev sPick : Stmt := top 25
section
variable {P : Program} {w : World} {K : PySem.W.Frag} {mg : Str → Option Value} {base : Heap} {f fB fT : Addr} {fd fdB fdT : FuncData}
theorem scBegun : FnScope ["script", "large", "cell"] ["script"] (defScope sBegun) := ⟨rfl, rfl, rfl, by decide +kernel, rfl, by decide +kernel, by decide +kernel⟩
theorem ok_begun (F : FnP K "_law_begun" sBegun f fd) (abs0 : mg "abs" = none) : FnOk P w K mg base CX0 1 f fd ["script"] (spBegun K) := by
  refine F.ok scBegun (fun vs H Q E h => ?_) (fun cdv A outer s H vs Q E hr h => ?_)
  · obtain ⟨a, ns, rfl, _⟩ := h
    rfl
  · obtain ⟨a, ns, rfl, hS, hlen, k⟩ := h
    refine ⟨_, PSs.nox (pss_cons (ps_setLc (i := 1) (own := [("cell", 2)]) (g := gName 2) rfl scBegun.nd rfl rfl (sw_true rfl rfl rfl (by decide +kernel)) (pi_list (pv 0)) (blkOk_by (own := [("cell", 2)]) (N := ["script", "large", "cell"]) (sc := defScope sBegun) (by decide +kernel))
        (fun _ _ _ _ _ => pg_name (i := 2) scBegun.nd rfl (Or.inl rfl)) (fun _ _ _ _ _ => pts_one (pt_cmpR op_ge (pe_callB call_abs (by rfl) abs0 boot_abs (pa_cons (pv 2) pa_nil)) (pe_op op_pow pe_int pe_int) (nomark _)))
        (fun _ _ _ _ _ => pe_op op_sub (pe_callB call_abs (by rfl) abs0 boot_abs (pa_cons (pv 2) pa_nil)) (pe_op op_pow pe_int pe_int)))
      (pss_one (ps_ret (pe_disp (pps_cons pe_str (pv 1) (pps_cons pe_str (pe_lc (own := [("cell", 2)]) (g := gName 2) rfl scBegun.nd (pi_list (pv 0)) (blkOk_by (own := [("cell", 2)]) (N := ["script", "large", "cell"]) (sc := defScope sBegun) (by decide +kernel))
        (fun _ _ _ _ _ => pg_name (i := 2) scBegun.nd rfl (Or.inl rfl)) (fun _ _ _ _ _ => pts_nil) (fun _ _ _ _ _ => pe_callB call_abs (by rfl) abs0 boot_abs (pa_cons (pv 2) pa_nil)))
        (pps_cons pe_str pe_int (pps_cons pe_str pe_int pps_nil)))) (by rfl) (by rfl) (fun z => by cases z) (by decide))))), ?_⟩
    refine ⟨_, rfl, a, rfl, ⟨_, hS⟩, fun D hD => lc_list (K := K) (a := a) (xs := ns.map V.int) (fun i H' => ∃ out : List Int, H' D = some (.lst (out.map V.int)) ∧ out.length ≤ i ∧ Same H H')
      ⟨[], upd_same, Nat.le_refl _, same_new hD⟩ (fun i H' _ ⟨_, _, _, s⟩ => s.seq hS) ?_ ?_⟩
    · rintro i x H' hi ⟨out, h1, h2, s⟩
      obtain ⟨z, hz, rfl⟩ := int_at hi
      have hlt : i < ns.length := by
        by_cases q : i < ns.length
        · exact q
        · rw [List.getElem?_eq_none (by omega)] at hz
          cases hz
      refine ⟨rfl, _, rfl, _, rfl, _, _, rfl, rfl, ⟨by decide, by decide, by decide⟩, _, _, rfl, rfl, _, rfl, ?_⟩
      refine ite2 (fun _ => ?_) (fun _ => ?_)
      · refine ⟨_, rfl, _, rfl, _, _, rfl, rfl, ⟨by decide, by decide, by decide⟩, _, _, rfl, rfl, _, h1, ?_, ?_⟩
        · rw [List.length_map]
          exact small1000 (by omega)
        · exact ⟨out ++ [(if z < 0 then -z else z) - 10 ^ (18 : Int).toNat], by rw [upd_same, List.map_append]; rfl, by rw [List.length_append]; show out.length + 1 ≤ i + 1; omega, fun b o e => by rw [upd_ne (ne_of_none e hD)]; exact s b o e⟩
      · exact ⟨out, h1, by omega, s⟩
    · rintro H1 ⟨out, h1, h2, s⟩
      intro p hp
      refine ⟨_, rfl, _, rfl, a, rfl, ⟨ns.map V.int, ?_⟩, fun D2 hD2 => lc_list (K := K) (a := a) (xs := ns.map V.int) (fun i H' => ∃ out : List Int, H' D2 = some (.lst (out.map V.int)) ∧ out.length ≤ i ∧ Same (upd H1 p (.dK [])) H')
        ⟨[], upd_same, Nat.le_refl _, same_new hD2⟩ (fun i H' _ ⟨_, _, _, s2⟩ => (s.trans ((same_new hp).trans s2)).seq hS) ?_ ?_⟩
      · exact ((same_new hp).seq (s.seq hS))
      · rintro i x H' hi ⟨out2, g1, g2, s2⟩
        obtain ⟨z, hz, rfl⟩ := int_at hi
        have hlt : i < ns.length := by
          by_cases q : i < ns.length
          · exact q
          · rw [List.getElem?_eq_none (by omega)] at hz
            cases hz
        refine ⟨rfl, yesT ?_⟩
        refine ⟨_, rfl, _, rfl, _, g1, ?_, ?_⟩
        · rw [List.length_map]
          exact small1000 (by omega)
        · exact ⟨out2 ++ [(if z < 0 then -z else z)], by rw [upd_same, List.map_append]; rfl, by rw [List.length_append]; show out2.length + 1 ≤ i + 1; omega, fun b o e => by rw [upd_ne (ne_of_none e hD2)]; exact s2 b o e⟩
      · rintro H2 ⟨out2, g1, g2, s2⟩
        have hp2 : H2 p = some (.dK []) := s2 _ _ upd_same
        refine ⟨hp2, drK D D2 0 0, rfl, (by show 4 ≤ 15; decide), ?_⟩
        have nD : D ≠ p := ne_of_none h1 hp
        have nD2 : D2 ≠ p := (ne_of_none upd_same hD2).symm
        have e1 : H2 D = some (.lst (out.map V.int)) := s2 _ _ (by rw [upd_ne nD]; exact h1)
        have nDD : D ≠ D2 := ne_of_none (o := .lst (out.map V.int)) (by rw [upd_ne nD]; exact h1) hD2
        have em : mergeK [] (drK D D2 0 0) = drK D D2 0 0 := merge_dr
        rw [em]
        refine k p D D2 _ (s.free hp) hD ((s.trans (same_new hp)).free hD2) (fun b o e => ?_) ⟨out, out2, 0, 0, upd_same, by rw [upd_ne nD]; exact e1, by rw [upd_ne nD2]; exact g1, nDD⟩
        have nb : b ≠ p := ne_of_none (s b o e) hp
        rw [upd_ne nb]
        exact s2 b o (by rw [upd_ne nb]; exact s b o e)
theorem scBlend : FnScope ["draw", "turn", "found", "prime", "stirred", "cell"] ["draw"] (defScope sBlend) := ⟨rfl, rfl, rfl, by decide +kernel, rfl, by decide +kernel, by decide +kernel⟩
theorem ok_blend (F : FnP K "_law_blend" sBlend f fd) (int0 : mg "int" = none) : FnOk P w K mg base CX0 1 f fd ["draw"] spBlend := by
  refine F.ok scBlend (fun vs H Q E h => ?_) (fun cdv A outer s H vs Q E hr h => ?_)
  · obtain ⟨d, l, c, ls, cs, r, t, rfl, _⟩ := h
    rfl
  · obtain ⟨d, l, c, ls, cs, r, t, rfl, D, k⟩ := h
    have hu := hu_of hr
    refine ⟨_, PSs.nox (pss_cons (ps_par (i := 1) (j := 2) (by rfl) scBlend.nd rfl rfl (by decide) rfl rfl (pa_cons (pe_op op_add (pe_dget hu (pv 0) pe_str (fun _ _ => rfl)) pe_int) (pa_cons pe_int pa_nil)) (by rfl))
      (pss_cons (ps_dput hu (pv 0) pe_str (pv 1) rfl)
      (pss_cons (ps_for PassesOwn.never rfl (pi_list (pe_lst (pa_cons pe_int (pa_cons pe_int (pa_cons pe_int pa_nil))))) (pg_name (i := 3) scBlend.nd rfl (Or.inl rfl))
        (pss_cons (ps_set (i := 4) scBlend.nd rfl (Or.inl rfl) (pe_op op_mod (pe_callTy call_int1 (by rfl) int0 boot_int (pa_cons (pe_op op_add (pe_op op_mul (pv 1) pe_int) (pe_op op_fdiv (pv 3) pe_int)) pa_nil)) (pv 3)))
        (pss_cons (ps_for PassesOwn.never rfl (pi_list (pe_dget hu (pv 0) pe_str (fun _ _ => rfl))) (pg_name (i := 5) scBlend.nd rfl (Or.inl rfl))
          (pss_one (ps_set (i := 4) scBlend.nd rfl (Or.inl rfl) (pe_op op_mod (pe_callTy call_int1 (by rfl) int0 boot_int (pa_cons (pe_op op_add (pe_op op_add (pe_op op_mul (pv 4) pe_int) (pe_callTy call_int1 (by rfl) int0 boot_int (pa_cons (pv 5) pa_nil))) pe_int) pa_nil)) (pv 3)))))
        (pss_one (ps_set (i := 2) scBlend.nd rfl (Or.inl rfl) (pe_op op_add (pe_op op_mul (pv 2) pe_int) (pe_op op_mod (pe_callTy call_int1 (by rfl) int0 boot_int (pa_cons (pe_op op_pow (pv 4) pe_int) pa_nil)) (pv 3))))))))
      (pss_one (ps_ret (pv 2)))))), ?_⟩
    refine ⟨_, rfl, d, _, rfl, D.gTurn, _, _, rfl, rfl, _, _, rfl, ?_⟩
    refine ⟨_, rfl, _, rfl, d, _, rfl, D.pTurn _, ?_⟩
    have D1 := D.turn (t + 1)
    refine ⟨(by show 3 ≤ sizeLine; decide), fun p hp => ?_⟩
    have D2 := D1.same (same_new (o := .lst ([2147483629, 2147483587, 2147483579].map V.int)) hp)
    refine ⟨p, rfl, ⟨[2147483629, 2147483587, 2147483579].map V.int, SqL.of upd_same⟩, for_list (K := K) (a := p) (xs := [2147483629, 2147483587, 2147483579].map V.int)
      (fun i σ H2 => ∃ (v : Int) (x3 x4 x5 : Option V), σ = [some (.ref d), some (.int (t + 1)), some (.int v), x3, x4, x5] ∧ H2 = upd (upd H d (.dK (drK l c r (t + 1)))) p (.lst ([2147483629, 2147483587, 2147483579].map V.int)))
      ⟨0, none, none, none, rfl, rfl⟩ (fun i σ H2 _ ⟨_, _, _, _, _, e⟩ => by rw [e]; exact SqL.of upd_same) ?_ ?_⟩
    · rintro i x σ H2 hi ⟨v, x3, x4, x5, rfl, rfl⟩
      obtain ⟨q, hq, rfl⟩ := int_at hi
      have hq2 : 0 < q ∧ q ≤ 2147483648 := by
        rcases i with _ | _ | _ | i
        · cases hq; exact ⟨by decide, by decide⟩
        · cases hq; exact ⟨by decide, by decide⟩
        · cases hq; exact ⟨by decide, by decide⟩
        · cases hq
      refine ⟨_, rfl, _, _, rfl, rfl, .inr ⟨by decide, by decide⟩, _, rfl, _, _, rfl, rfl, ⟨by decide, by decide⟩, _, _, rfl, rfl, .inl ⟨_, rfl, _, rfl, _, _, rfl, rfl, hq2.1, ?_⟩⟩
      refine ⟨_, rfl, d, _, rfl, D2.gCells, c, rfl, ⟨cs.map V.int, SqL.of D2.dc⟩, for_list (K := K) (a := c) (xs := cs.map V.int)
        (fun j σ H2 => ∃ (z : Int) (y5 : Option V), σ = [some (.ref d), some (.int (t + 1)), some (.int v), some (.int q), some (.int z), y5] ∧ 0 ≤ z ∧ z < q ∧ H2 = upd (upd H d (.dK (drK l c r (t + 1)))) p (.lst ([2147483629, 2147483587, 2147483579].map V.int)))
        ⟨_, x5, rfl, Int.emod_nonneg _ (by omega), Int.emod_lt_of_pos _ hq2.1, rfl⟩ (fun j σ H2 _ ⟨_, _, _, _, _, e⟩ => by rw [e]; exact SqL.of D2.dc) ?_ ?_⟩
      · rintro j x σ H2 hj ⟨z, y5, rfl, z0, z1, rfl⟩
        obtain ⟨u, hu2, rfl⟩ := int_at hj
        refine ⟨_, rfl, _, _, rfl, rfl, .inr ⟨by decide, by decide⟩, _, rfl, .inl ⟨_, rfl, _, _, rfl, rfl, _, _, rfl, rfl, .inl ⟨_, rfl, _, rfl, _, _, rfl, rfl, hq2.1, ?_⟩⟩⟩
        exact ⟨_, some (.int u), rfl, Int.emod_nonneg _ (by omega), Int.emod_lt_of_pos _ hq2.1, rfl⟩
      · rintro σ H2 ⟨z, y5, rfl, z0, z1, rfl⟩
        refine ⟨_, rfl, _, _, rfl, rfl, .inr ⟨by decide, by decide⟩, _, rfl, _, _, rfl, rfl, pow_small z0 z1 hq2.2, .inl ⟨_, rfl, _, rfl, _, _, rfl, rfl, hq2.1, _, _, rfl, rfl, ?_⟩⟩
        exact ⟨_, some (.int q), some (.int z), y5, rfl, rfl⟩
    · rintro σ H2 ⟨v, x3, x4, x5, rfl, rfl⟩
      exact ⟨_, rfl, k v (t + 1) _ D2 (sameX_d.trans (sameX_new hp))⟩
theorem scTake : FnScope ["draw", "size", "found"] ["draw", "size"] (defScope sTake) := ⟨rfl, rfl, rfl, by decide +kernel, rfl, by decide +kernel, by decide +kernel⟩
theorem ok_take (F : FnP K "_law_take" sTake f fd) (int0 : mg "int" = none) (FB : FnP K "_law_blend" sBlend fB fdB) (gB : mg "_law_blend" = some (.ref fB)) : FnOk P w K mg base CX0 2 f fd ["draw", "size"] spTake := by
  have GB : FnOk P w K mg base CX0 1 fB fdB ["draw"] spBlend := ok_blend FB int0
  have bB : Binds K fdB ["draw"] [] := FB.bindsN fun _ _ _ _ _ _ us hl => match us, hl with | [_], _ => rfl
  refine F.ok scTake (fun vs H Q E h => ?_) (fun cdv A outer s H vs Q E hr h => ?_)
  · obtain ⟨d, l, c, n, rfl, _⟩ := h
    rfl
  · obtain ⟨d, l, c, n, rfl, ⟨ls, cs, r, t, D⟩, n0, n1, k⟩ := h
    have hu := hu_of hr
    refine ⟨_, PSs.nox (pss_cons (ps_while PassesOwn.never (PW.pt (pw_and (pt_cmpR op_eq (pe_dget hu (pv 0) pe_str (fun _ _ => rfl)) pe_int (nomark _)) (pw_and1 (pt_cmpR (op_neD hr.units) (pe_dget hu (pv 0) pe_str (fun _ _ => rfl)) (pe_lst pa_nil) (nomark _)))))
        (pss_one (ps_dput hu (pv 0) pe_str (pe_bm PySem.F.plainAttrs_list PySem.F.slot_list_pop PySem.F.type_list_pop mt_popAt (pe_dget hu (pv 0) pe_str (fun _ _ => rfl)) (pa_cons pe_int pa_nil)) rfl)))
      (pss_cons (ps_if (pt_cmpR op_eq (pe_dget hu (pv 0) pe_str (fun _ _ => rfl)) pe_int (nomark _))
          (pss_one (ps_dput hu (pv 0) pe_str (pe_call GB hr rfl gB FB.kp bB .nil pass0 (pa_cons (pv 0) pa_nil)) rfl)) pss_nil)
      (pss_cons (ps_set (i := 2) scTake.nd rfl (Or.inl rfl) (pe_op op_mod (pe_callTy call_int1 (by rfl) int0 boot_int (pa_cons (pe_dget hu (pv 0) pe_str (fun _ _ => rfl)) pa_nil)) (pv 1)))
      (pss_cons (ps_dput hu (pv 0) pe_str (pe_op op_fdivW (pe_callTy call_int1 (by rfl) int0 boot_int (pa_cons (pe_dget hu (pv 0) pe_str (fun _ _ => rfl)) pa_nil)) (pv 1)) rfl)
      (pss_one (ps_ret (pv 2))))))), ?_⟩
    refine ⟨fun m σ H' => ∃ (ls' : List Int) (r' : Int), σ = [some (.ref d), some (.int n), none] ∧ DrawAt H' d l c ls' cs r' t ∧ SameX d l H H' ∧ m = ls'.length, ⟨_, ls, r, rfl, D, SameX.refl _ _ _, rfl⟩, ?_⟩
    rintro m σ H1 ⟨ls1, r1, rfl, D1, s1, rfl⟩
    refine ⟨_, rfl, d, _, rfl, D1.gRest, rfl, _, rfl, ?_⟩
    refine ite2 (fun e0 => ?_) (fun e0 => ?_)
    · refine ⟨_, rfl, d, _, rfl, D1.gLarge, ?_⟩
      refine ⟨(by show 0 ≤ sizeLine; decide), fun p hp => ?_⟩
      have D2 := D1.same (same_new (o := .lst []) hp)
      have s2 := s1.trans (sameX_new (o := .lst []) hp)
      refine ⟨.list (intsD ls1), .list [], .lst (SqL.of D2.dl) (ints_dp _), .lst (SqL.of upd_same) .nil, ints_shaped _, rfl, _, rfl, ?_⟩
      cases ls1 with
      | nil =>
        refine iteF ?_
        have D1 := D2
        have s1 := s2
        refine ⟨_, rfl, d, _, rfl, D1.gRest, rfl, _, rfl, ?_⟩
        refine ite2 (fun _ => ?_) (fun _ => ?_)
        · refine ⟨_, rfl, d, l, c, _, cs, _, t, rfl, D1, fun v t' H2 D2 s2 => ?_⟩
          have DD := D2.rest v
          have SS := (s1.trans s2).trans (sameX_d (o := .dK (drK l c v t')))
          refine ⟨_, rfl, d, _, rfl, D2.pRest v, ?_⟩
          refine ⟨_, rfl, d, _, rfl, DD.gRest, .inl ⟨_, rfl, _, rfl, _, _, rfl, rfl, n0, ?_⟩⟩
          refine ⟨_, rfl, d, _, rfl, DD.gRest, .inl ⟨_, rfl, _, rfl, _, _, rfl, rfl, ⟨n0, n1⟩, _, rfl, d, _, rfl, DD.pRest _, _, rfl, ?_⟩⟩
          exact k _ _ (Int.emod_nonneg _ (by omega)) (Int.emod_lt_of_pos _ n0) ⟨_, cs, _, _, DD.rest _⟩ (SS.trans sameX_d)
        · have DD := D1
          have SS := s1
          refine ⟨_, rfl, d, _, rfl, DD.gRest, .inl ⟨_, rfl, _, rfl, _, _, rfl, rfl, n0, ?_⟩⟩
          refine ⟨_, rfl, d, _, rfl, DD.gRest, .inl ⟨_, rfl, _, rfl, _, _, rfl, rfl, ⟨n0, n1⟩, _, rfl, d, _, rfl, DD.pRest _, _, rfl, ?_⟩⟩
          exact k _ _ (Int.emod_nonneg _ (by omega)) (Int.emod_lt_of_pos _ n0) ⟨_, cs, _, _, DD.rest _⟩ (SS.trans sameX_d)
      | cons z zs =>
        refine iteT ⟨_, fun σ' H' e => e, ?_⟩
        refine ⟨_, rfl, d, _, rfl, D2.gLarge, .inl ⟨rfl, _, SqL.of D2.dl⟩, ?_⟩
        refine ⟨l, _, _, 0, V.int z, rfl, rfl, D2.dl, by decide, by decide, pop_ix _, rfl, ?_⟩
        have D3 := D2.pop (ls' := zs)
        refine ⟨_, rfl, d, _, rfl, D3.pRest _, ?_⟩
        exact ⟨zs.length, Nat.lt_succ_self _, zs, z, rfl, D3.rest z, (s2.trans sameX_l).trans sameX_d, rfl⟩
    · refine iteF ?_
      refine ⟨_, rfl, d, _, rfl, D1.gRest, rfl, _, rfl, ?_⟩
      refine ite2 (fun _ => ?_) (fun _ => ?_)
      · refine ⟨_, rfl, d, l, c, _, cs, _, t, rfl, D1, fun v t' H2 D2 s2 => ?_⟩
        have DD := D2.rest v
        have SS := (s1.trans s2).trans (sameX_d (o := .dK (drK l c v t')))
        refine ⟨_, rfl, d, _, rfl, D2.pRest v, ?_⟩
        refine ⟨_, rfl, d, _, rfl, DD.gRest, .inl ⟨_, rfl, _, rfl, _, _, rfl, rfl, n0, ?_⟩⟩
        refine ⟨_, rfl, d, _, rfl, DD.gRest, .inl ⟨_, rfl, _, rfl, _, _, rfl, rfl, ⟨n0, n1⟩, _, rfl, d, _, rfl, DD.pRest _, _, rfl, ?_⟩⟩
        exact k _ _ (Int.emod_nonneg _ (by omega)) (Int.emod_lt_of_pos _ n0) ⟨_, cs, _, _, DD.rest _⟩ (SS.trans sameX_d)
      · have DD := D1
        have SS := s1
        refine ⟨_, rfl, d, _, rfl, DD.gRest, .inl ⟨_, rfl, _, rfl, _, _, rfl, rfl, n0, ?_⟩⟩
        refine ⟨_, rfl, d, _, rfl, DD.gRest, .inl ⟨_, rfl, _, rfl, _, _, rfl, rfl, ⟨n0, n1⟩, _, rfl, d, _, rfl, DD.pRest _, _, rfl, ?_⟩⟩
        exact k _ _ (Int.emod_nonneg _ (by omega)) (Int.emod_lt_of_pos _ n0) ⟨_, cs, _, _, DD.rest _⟩ (SS.trans sameX_d)
/-! ### _law_pick -/
theorem scPick : FnScope ["draw", "some"] ["draw", "some"] (defScope sPick) := ⟨rfl, rfl, rfl, by decide +kernel, rfl, by decide +kernel, by decide +kernel⟩
theorem ok_pick (F : FnP K "_law_pick" sPick f fd) (len0 : mg "len" = none) (GT : FnOk P w K mg base CX0 2 fT fdT ["draw", "size"] spTake) (bT : Binds K fdT ["draw", "size"] []) (gT : mg "_law_take" = some (.ref fT)) (kT : PySem.W.keepIn K (.ref fT) = true) :
    FnOk P w K mg base CX0 3 f fd ["draw", "some"] (spPick K) := by
  refine F.ok scPick (fun vs H Q E h => ?_) (fun cdv A outer s H vs Q E hr h => ?_)
  · obtain ⟨d, l, c, a, xs, rfl, _⟩ := h
    rfl
  · obtain ⟨d, l, c, a, xs, rfl, D, hA, hne, hlen, q⟩ := h
    refine ⟨_, PSs.nox (pss_one (ps_ret (pe_ix ix_list (pv 1) (pe_call GT hr rfl gT kT bT .nil pass0 (pa_cons (pv 0) (pa_cons (pe_callB call_len (by rfl) len0 PySem.boot_len (pa_cons (pv 1) pa_nil)) pa_nil))) (fun _ _ => rfl)))), ?_⟩
    have h0 : 0 < xs.length := List.length_pos_iff.mpr hne
    refine ⟨_, rfl, _, rfl, _, rfl, _, xs.length, rfl, .inl ⟨_, hA H (SameX.refl _ _ _), rfl⟩, d, l, c, _, rfl, D, by omega, log_small hlen, fun v H' v0 v1 D' s' => ?_⟩
    obtain ⟨i, rfl⟩ : ∃ i : Nat, v = (i : Int) := ⟨v.toNat, by omega⟩
    have hi : i < xs.length := by omega
    refine ⟨a, xs, _, xs[i], rfl, rfl, hA H' s', atI_nat (by simp [hi]), ?_⟩
    exact q _ _ (List.getElem_mem hi) D' s'
end
end Dr

set_option Elab.async false
set_option linter.all false
set_option maxRecDepth 100000
set_option maxHeartbeats 4000000
set_option pp.maxSteps 3000
set_option exponentiation.threshold 500000
namespace K32
open PySem PySem.Spec PyProof.Rows L2 Dr Xv LamX Ps Gn
abbrev s_divisors_of : Stmt := top 2
abbrev s_power_of : Stmt := top 3
abbrev s_is_number : Stmt := top 11
abbrev s_is_within : Stmt := top 12
abbrev s_check_most : Stmt := top 13
abbrev s_divisor_sum : Stmt := top 18
abbrev s_eisenstein_row : Stmt := top 19
abbrev s_eisenstein_series : Stmt := top 20
abbrev s__law_begun : Stmt := top 22
abbrev s__law_blend : Stmt := top 23
abbrev s__law_take : Stmt := top 24
abbrev s__law_pick : Stmt := top 25
abbrev s__law_caught : Stmt := top 26
abbrev s__law_sigma : Stmt := top 27
abbrev s__law_times : Stmt := top 28
abbrev s__law_by_pairs : Stmt := top 29
abbrev s_law : Stmt := top 30
abbrev N_divisors_of : List Str := List.map Str.ofString ["n", "small", "d"]
theorem sc_divisors_of : FnScope N_divisors_of ["n"] (defScope s_divisors_of) := ⟨rfl, rfl, rfl, by decide +kernel, rfl, by decide +kernel, by decide +kernel⟩
abbrev N_power_of : List Str := List.map Str.ofString ["base", "exponent", "power", "_"]
theorem sc_power_of : FnScope N_power_of ["base", "exponent"] (defScope s_power_of) := ⟨rfl, rfl, rfl, by decide +kernel, rfl, by decide +kernel, by decide +kernel⟩
abbrev N_is_number : List Str := List.map Str.ofString ["thing"]
theorem sc_is_number : FnScope N_is_number ["thing"] (defScope s_is_number) := ⟨rfl, rfl, rfl, by decide +kernel, rfl, by decide +kernel, by decide +kernel⟩
abbrev N_is_within : List Str := List.map Str.ofString ["thing", "least", "greatest"]
theorem sc_is_within : FnScope N_is_within ["thing", "least", "greatest"] (defScope s_is_within) := ⟨rfl, rfl, rfl, by decide +kernel, rfl, by decide +kernel, by decide +kernel⟩
abbrev N_check_most : List Str := List.map Str.ofString ["most"]
theorem sc_check_most : FnScope N_check_most ["most"] (defScope s_check_most) := ⟨rfl, rfl, rfl, by decide +kernel, rfl, by decide +kernel, by decide +kernel⟩
abbrev N_divisor_sum : List Str := List.map Str.ofString ["n", "k", "d"]
theorem sc_divisor_sum : FnScope N_divisor_sum ["n", "k"] (defScope s_divisor_sum) := ⟨rfl, rfl, rfl, by decide +kernel, rfl, by decide +kernel, by decide +kernel⟩
abbrev N_eisenstein_row : List Str := List.map Str.ofString ["weight", "most"]
theorem sc_eisenstein_row : FnScope N_eisenstein_row ["weight", "most"] (defScope s_eisenstein_row) := ⟨rfl, rfl, rfl, by decide +kernel, rfl, by decide +kernel, by decide +kernel⟩
abbrev N_eisenstein_series : List Str := List.map Str.ofString ["weight", "size", "series", "d", "term", "n"]
theorem sc_eisenstein_series : FnScope N_eisenstein_series ["weight", "size"] (defScope s_eisenstein_series) := ⟨rfl, rfl, rfl, by decide +kernel, rfl, by decide +kernel, by decide +kernel⟩
abbrev N__law_caught : List Str := List.map Str.ofString ["work", "caught", "error"]
theorem sc__law_caught : FnScope N__law_caught ["work"] (defScope s__law_caught) := ⟨rfl, rfl, rfl, by decide +kernel, rfl, by decide +kernel, by decide +kernel⟩
abbrev N__law_sigma : List Str := List.map Str.ofString ["n", "k", "found", "d", "worth", "lap"]
theorem sc__law_sigma : FnScope N__law_sigma ["n", "k"] (defScope s__law_sigma) := ⟨rfl, rfl, rfl, by decide +kernel, rfl, by decide +kernel, by decide +kernel⟩
abbrev N__law_times : List Str := List.map Str.ofString ["one", "other", "most", "found", "i", "here", "j", "there", "n"]
theorem sc__law_times : FnScope N__law_times ["one", "other", "most"] (defScope s__law_times) := ⟨rfl, rfl, rfl, by decide +kernel, rfl, by decide +kernel, by decide +kernel⟩
abbrev N__law_by_pairs : List Str := List.map Str.ofString ["n", "k", "found", "d", "one", "worth", "lap"]
theorem sc__law_by_pairs : FnScope N__law_by_pairs ["n", "k"] (defScope s__law_by_pairs) := ⟨rfl, rfl, rfl, by decide +kernel, rfl, by decide +kernel, by decide +kernel⟩
abbrev N_law : List Str := List.map Str.ofString ["script", "draw", "lap", "n", "k", "most", "rows", "weight", "factor", "eight", "ten", "odd", "far", "checks", "wrong", "none"]
theorem sc_law : FnScope N_law ["script"] (defScope s_law) := ⟨rfl, rfl, rfl, by decide +kernel, rfl, by decide +kernel, by decide +kernel⟩
/-- what the top has left -/
structure Mod (P : Program) (w : World) (K : PySem.W.Frag) (mg : Str → Option Value) (base : Heap) : Type where
  (f_divisors_of f_power_of f_is_number f_is_within f_check_most f_divisor_sum f_eisenstein_row f_eisenstein_series f__law_begun f__law_blend f__law_take f__law_pick f__law_caught f__law_sigma f__law_times f__law_by_pairs f_law : Addr)
  (d_divisors_of d_power_of d_is_number d_is_within d_check_most d_divisor_sum d_eisenstein_row d_eisenstein_series d__law_begun d__law_blend d__law_take d__law_pick d__law_caught d__law_sigma d__law_times d__law_by_pairs d_law : FuncData)
  (a_SeriesError a_BadMost a_BadNumber a_BadWeight a_FACTORS : Addr)
  (t_GREATEST_MOST t_GREATEST_DIVIDED t_GREATEST_DIVISOR_POWER : Tok)
  F_divisors_of : FnP K "divisors_of" s_divisors_of f_divisors_of d_divisors_of
  g_divisors_of : mg "divisors_of" = some (.ref f_divisors_of)
  F_power_of : FnP K "power_of" s_power_of f_power_of d_power_of
  g_power_of : mg "power_of" = some (.ref f_power_of)
  F_is_number : FnP K "is_number" s_is_number f_is_number d_is_number
  g_is_number : mg "is_number" = some (.ref f_is_number)
  F_is_within : FnP K "is_within" s_is_within f_is_within d_is_within
  g_is_within : mg "is_within" = some (.ref f_is_within)
  F_check_most : FnP K "check_most" s_check_most f_check_most d_check_most
  g_check_most : mg "check_most" = some (.ref f_check_most)
  F_divisor_sum : FnP K "divisor_sum" s_divisor_sum f_divisor_sum d_divisor_sum
  g_divisor_sum : mg "divisor_sum" = some (.ref f_divisor_sum)
  F_eisenstein_row : FnP K "eisenstein_row" s_eisenstein_row f_eisenstein_row d_eisenstein_row
  g_eisenstein_row : mg "eisenstein_row" = some (.ref f_eisenstein_row)
  F_eisenstein_series : FnP K "eisenstein_series" s_eisenstein_series f_eisenstein_series d_eisenstein_series
  g_eisenstein_series : mg "eisenstein_series" = some (.ref f_eisenstein_series)
  F__law_begun : FnP K "_law_begun" s__law_begun f__law_begun d__law_begun
  g__law_begun : mg "_law_begun" = some (.ref f__law_begun)
  F__law_blend : FnP K "_law_blend" s__law_blend f__law_blend d__law_blend
  g__law_blend : mg "_law_blend" = some (.ref f__law_blend)
  F__law_take : FnP K "_law_take" s__law_take f__law_take d__law_take
  g__law_take : mg "_law_take" = some (.ref f__law_take)
  F__law_pick : FnP K "_law_pick" s__law_pick f__law_pick d__law_pick
  g__law_pick : mg "_law_pick" = some (.ref f__law_pick)
  F__law_caught : FnP K "_law_caught" s__law_caught f__law_caught d__law_caught
  g__law_caught : mg "_law_caught" = some (.ref f__law_caught)
  F__law_sigma : FnP K "_law_sigma" s__law_sigma f__law_sigma d__law_sigma
  g__law_sigma : mg "_law_sigma" = some (.ref f__law_sigma)
  F__law_times : FnP K "_law_times" s__law_times f__law_times d__law_times
  g__law_times : mg "_law_times" = some (.ref f__law_times)
  F__law_by_pairs : FnP K "_law_by_pairs" s__law_by_pairs f__law_by_pairs d__law_by_pairs
  g__law_by_pairs : mg "_law_by_pairs" = some (.ref f__law_by_pairs)
  F_law : FnP K "law" s_law f_law d_law
  g_law : mg "law" = some (.ref f_law)
  c_GREATEST_MOST : mg "GREATEST_MOST" = some (.int 3000 t_GREATEST_MOST)
  c_GREATEST_DIVIDED : mg "GREATEST_DIVIDED" = some (.int 999999 t_GREATEST_DIVIDED)
  c_GREATEST_DIVISOR_POWER : mg "GREATEST_DIVISOR_POWER" = some (.int 11 t_GREATEST_DIVISOR_POWER)
  g_SeriesError : mg "SeriesError" = some (.ref a_SeriesError)
  g_BadMost : mg "BadMost" = some (.ref a_BadMost)
  g_BadNumber : mg "BadNumber" = some (.ref a_BadNumber)
  g_BadWeight : mg "BadWeight" = some (.ref a_BadWeight)
  g_FACTORS : mg "FACTORS" = some (.ref a_FACTORS)
  K_FACTORS : KDI K a_FACTORS [(2, -24), (4, 240), (6, -504)]
  i_isqrt : mg "isqrt" = some (.builtin "math.isqrt")
  E_BadMost : ErrT K a_BadMost a_SeriesError
  E_BadNumber : ErrT K a_BadNumber a_SeriesError
  E_BadWeight : ErrT K a_BadWeight a_SeriesError
  abs0 : mg "abs" = none
  bool0 : mg "bool" = none
  enumerate0 : mg "enumerate" = none
  int0 : mg "int" = none
  isinstance0 : mg "isinstance" = none
  len0 : mg "len" = none
  min0 : mg "min" = none
  range0 : mg "range" = none
  sum0 : mg "sum" = none
namespace Mod
variable {P : Program} {w : World} {K : PySem.W.Frag} {mg : Str → Option Value} {base : Heap} (M : Mod P w K mg base)
theorem k_divisors_of : PySem.W.keepIn K (.ref M.f_divisors_of) = true := M.F_divisors_of.kp
theorem b_divisors_of : L2.Binds K M.d_divisors_of ["n"] [] := M.F_divisors_of.bindsN fun _ _ _ _ _ _ us hl => match us, hl with | [_], _ => rfl
theorem k_power_of : PySem.W.keepIn K (.ref M.f_power_of) = true := M.F_power_of.kp
theorem b_power_of : L2.Binds K M.d_power_of ["base", "exponent"] [] := M.F_power_of.bindsN fun _ _ _ _ _ _ us hl => match us, hl with | [_, _], _ => rfl
theorem k_is_number : PySem.W.keepIn K (.ref M.f_is_number) = true := M.F_is_number.kp
theorem b_is_number : L2.Binds K M.d_is_number ["thing"] [] := M.F_is_number.bindsN fun _ _ _ _ _ _ us hl => match us, hl with | [_], _ => rfl
theorem k_is_within : PySem.W.keepIn K (.ref M.f_is_within) = true := M.F_is_within.kp
theorem b_is_within : L2.Binds K M.d_is_within ["thing", "least", "greatest"] [] := M.F_is_within.bindsN fun _ _ _ _ _ _ us hl => match us, hl with | [_, _, _], _ => rfl
theorem k_check_most : PySem.W.keepIn K (.ref M.f_check_most) = true := M.F_check_most.kp
theorem b_check_most : L2.Binds K M.d_check_most ["most"] [] := M.F_check_most.bindsN fun _ _ _ _ _ _ us hl => match us, hl with | [_], _ => rfl
theorem k_divisor_sum : PySem.W.keepIn K (.ref M.f_divisor_sum) = true := M.F_divisor_sum.kp
theorem b_divisor_sum : L2.Binds K M.d_divisor_sum ["n", "k"] [] := M.F_divisor_sum.bindsN fun _ _ _ _ _ _ us hl => match us, hl with | [_, _], _ => rfl
theorem k_eisenstein_row : PySem.W.keepIn K (.ref M.f_eisenstein_row) = true := M.F_eisenstein_row.kp
theorem b_eisenstein_row : L2.Binds K M.d_eisenstein_row ["weight", "most"] [] := M.F_eisenstein_row.bindsN fun _ _ _ _ _ _ us hl => match us, hl with | [_, _], _ => rfl
theorem k_eisenstein_series : PySem.W.keepIn K (.ref M.f_eisenstein_series) = true := M.F_eisenstein_series.kp
theorem b_eisenstein_series : L2.Binds K M.d_eisenstein_series ["weight", "size"] [] := M.F_eisenstein_series.bindsN fun _ _ _ _ _ _ us hl => match us, hl with | [_, _], _ => rfl
theorem k__law_begun : PySem.W.keepIn K (.ref M.f__law_begun) = true := M.F__law_begun.kp
theorem b__law_begun : L2.Binds K M.d__law_begun ["script"] [] := M.F__law_begun.bindsN fun _ _ _ _ _ _ us hl => match us, hl with | [_], _ => rfl
theorem k__law_blend : PySem.W.keepIn K (.ref M.f__law_blend) = true := M.F__law_blend.kp
theorem b__law_blend : L2.Binds K M.d__law_blend ["draw"] [] := M.F__law_blend.bindsN fun _ _ _ _ _ _ us hl => match us, hl with | [_], _ => rfl
theorem k__law_take : PySem.W.keepIn K (.ref M.f__law_take) = true := M.F__law_take.kp
theorem b__law_take : L2.Binds K M.d__law_take ["draw", "size"] [] := M.F__law_take.bindsN fun _ _ _ _ _ _ us hl => match us, hl with | [_, _], _ => rfl
theorem k__law_pick : PySem.W.keepIn K (.ref M.f__law_pick) = true := M.F__law_pick.kp
theorem b__law_pick : L2.Binds K M.d__law_pick ["draw", "some"] [] := M.F__law_pick.bindsN fun _ _ _ _ _ _ us hl => match us, hl with | [_, _], _ => rfl
theorem k__law_caught : PySem.W.keepIn K (.ref M.f__law_caught) = true := M.F__law_caught.kp
theorem b__law_caught : L2.Binds K M.d__law_caught ["work"] [] := M.F__law_caught.bindsN fun _ _ _ _ _ _ us hl => match us, hl with | [_], _ => rfl
theorem k__law_sigma : PySem.W.keepIn K (.ref M.f__law_sigma) = true := M.F__law_sigma.kp
theorem b__law_sigma : L2.Binds K M.d__law_sigma ["n", "k"] [] := M.F__law_sigma.bindsN fun _ _ _ _ _ _ us hl => match us, hl with | [_, _], _ => rfl
theorem k__law_times : PySem.W.keepIn K (.ref M.f__law_times) = true := M.F__law_times.kp
theorem b__law_times : L2.Binds K M.d__law_times ["one", "other", "most"] [] := M.F__law_times.bindsN fun _ _ _ _ _ _ us hl => match us, hl with | [_, _, _], _ => rfl
theorem k__law_by_pairs : PySem.W.keepIn K (.ref M.f__law_by_pairs) = true := M.F__law_by_pairs.kp
theorem b__law_by_pairs : L2.Binds K M.d__law_by_pairs ["n", "k"] [] := M.F__law_by_pairs.bindsN fun _ _ _ _ _ _ us hl => match us, hl with | [_, _], _ => rfl
theorem k_law : PySem.W.keepIn K (.ref M.f_law) = true := M.F_law.kp
theorem b_law : L2.Binds K M.d_law ["script"] [] := M.F_law.bindsN fun _ _ _ _ _ _ us hl => match us, hl with | [_], _ => rfl
theorem h_divisor_sum : KBinds K M.d_divisor_sum ["n", "k"] ["k", "n"] gR gR := kbR M.F_divisor_sum (by decide) fun _ _ _ _ _ _ ws hl => match ws, hl with | [_, _], _ => rfl
theorem h_eisenstein_row : KBinds K M.d_eisenstein_row ["weight", "most"] ["most", "weight"] gR gR := kbR M.F_eisenstein_row (by decide) fun _ _ _ _ _ _ ws hl => match ws, hl with | [_, _], _ => rfl
end Mod
section
variable {P : Program} {w : World} {K : PySem.W.Frag} {mg : Str → Option Value} {base : Heap}
theorem ok__law_begun (M : Mod P w K mg base) : FnOk P w K mg base CX0 1 M.f__law_begun M.d__law_begun ["script"] (spBegun K) := ok_begun M.F__law_begun M.abs0
theorem ok__law_take (M : Mod P w K mg base) : FnOk P w K mg base CX0 2 M.f__law_take M.d__law_take ["draw", "size"] spTake := ok_take M.F__law_take M.int0 M.F__law_blend M.g__law_blend
theorem ok__law_pick (M : Mod P w K mg base) : FnOk P w K mg base CX0 3 M.f__law_pick M.d__law_pick ["draw", "some"] (spPick K) := ok_pick M.F__law_pick M.len0 (ok__law_take M) M.b__law_take M.g__law_take M.k__law_take
def sp_is_number : Sp := fun vs H Q _ => ∃ x, vs = [x] ∧ PV H x ∧ Q (.bl (isNum x)) H
theorem ok_is_number (M : Mod P w K mg base) : FnOk P w K mg base CX0 1 M.f_is_number M.d_is_number ["thing"] sp_is_number := by
  refine M.F_is_number.ok sc_is_number (fun vs H Q E h => ?_) (fun cdv A outer s H vs Q E hr h => ?_)
  · obtain ⟨x, rfl, _⟩ := h
    rfl
  · obtain ⟨x, rfl, hx, q⟩ := h
    refine ⟨_, PSs.nox (pss_one (ps_ret (pe_and (pe_callB call_isi (by rfl) M.isinstance0 boot_isinstance (pa_cons (pv 0) (pa_cons (pe_bltn (v := .ty "int") rfl M.int0 (by decide +kernel) rfl) pa_nil))) (pe_one (pe_not (pe_callB call_isi (by rfl) M.isinstance0 boot_isinstance (pa_cons (pv 0) (pa_cons (pe_bltn (v := .ty "bool") rfl M.bool0 (by decide +kernel) rfl) pa_nil)))))))), ?_⟩
    obtain ⟨t, ty, k1, k2⟩ := hx.ty (K := K)
    refine ⟨_, rfl, x, _, t, _, _, rfl, .ty "int", ty, k1, kInt x, rfl, ?_⟩
    have e := kInt_num x
    cases hk : kInt x with
    | true =>
      refine iteT ⟨_, rfl, x, _, t, _, _, rfl, .ty "bool", ty, k2, kBool x, rfl, ?_⟩
      rw [hk, Bool.true_and] at e
      rw [e]
      exact q
    | false =>
      refine iteF ?_
      rw [hk, Bool.false_and] at e
      rw [e]
      exact q
def sp_is_within : Sp := fun vs H Q _ => ∃ (x : V) (lo hi : Int), vs = [x, .int lo, .int hi] ∧ PV H x ∧ Q (.bl (within x lo hi)) H
theorem ok_is_within (M : Mod P w K mg base) : FnOk P w K mg base CX0 2 M.f_is_within M.d_is_within ["thing", "least", "greatest"] sp_is_within := by
  refine M.F_is_within.ok sc_is_within (fun vs H Q E h => ?_) (fun cdv A outer s H vs Q E hr h => ?_)
  · obtain ⟨x, lo, hi, rfl, _⟩ := h
    rfl
  · obtain ⟨x, lo, hi, rfl, hx, q⟩ := h
    refine ⟨_, PSs.nox (pss_one (ps_ret (pe_and (pe_call (ok_is_number M) (hr.mono (by decide)) rfl M.g_is_number M.k_is_number M.b_is_number .nil pass0 (pa_cons (pv 0) pa_nil)) (pe_one (pe_chain op_le op_le (pv 1) (pv 0) (pv 2)))))), ?_⟩
    refine ⟨_, rfl, x, rfl, hx, isNum x, rfl, ?_⟩
    cases x with
    | int i =>
      refine iteT ⟨_, rfl, _, rfl, _, _, rfl, rfl, _, rfl, ?_⟩
      have e : within (.int i) lo hi = (decide (lo ≤ i) && decide (i ≤ hi)) := rfl
      rw [e] at q
      by_cases c : lo ≤ i
      · rw [decide_eq_true c, Bool.true_and] at q
        rw [decide_eq_true c]
        exact iteT ⟨_, rfl, _, _, rfl, rfl, q⟩
      · rw [decide_eq_false c, Bool.false_and] at q
        rw [decide_eq_false c]
        exact iteF q
    | _ => exact iteF q
def sp_check_most (cM : Addr) : Sp := fun vs H Q E => ∃ x : V, vs = [x] ∧ PV H x ∧ (within x 0 3000 = true → Q .non H) ∧ (within x 0 3000 = false → E (.ref cM) none H)
theorem ok_check_most (M : Mod P w K mg base) : FnOk P w K mg base (L2.CX P w) 3 M.f_check_most M.d_check_most ["most"] (sp_check_most M.a_BadMost) := by
  refine M.F_check_most.ok sc_check_most (fun vs H Q E h => ?_) (fun cdv A outer s H vs Q E hr h => ?_)
  · obtain ⟨x, rfl, _⟩ := h
    rfl
  · obtain ⟨x, rfl, hx, q1, q2⟩ := h
    refine ⟨_, (pss_one (ps_if (pt_not (pt_val (pe_call (ok_is_within M) (hr.mono (by decide)) rfl M.g_is_within M.k_is_within M.b_is_within .nil pass0 (pa_cons (pv 0) (pa_cons pe_int (pa_cons (pe_glob (v := .int 3000) rfl M.c_GREATEST_MOST ⟨_, rfl⟩) pa_nil)))))) 
        (pss_one (ps_raise rfl (takes_of rfl rfl rfl rfl) (pmk_own PySem.F.excBase_ValueError M.E_BadMost.x M.g_BadMost M.E_BadMost.k (raises_own M.E_BadMost.b M.E_BadMost.t) rfl))) pss_nil)), ?_⟩
    refine ⟨_, rfl, x, 0, 3000, rfl, hx, within x 0 3000, rfl, ?_⟩
    cases h : within x 0 3000 with
    | true => exact iteF (q1 h)
    | false => exact iteT (q2 h)

end
end K32

set_option Elab.async false
set_option linter.all false
set_option maxRecDepth 100000
set_option maxHeartbeats 4000000
set_option pp.maxSteps 3000
set_option exponentiation.threshold 500000
namespace K32
open PySem PySem.Spec PyProof.Rows L2 Dr Xv LamX Ps Gn
section
variable {P : Program} {w : World} {K : PySem.W.Frag} {mg : Str → Option Value} {base : Heap}
def sp__law_times : Sp := fun vs H Q _ => ∃ (a b : Addr) (ns ms : List Int) (N : Nat), vs = [.ref a, .ref b, .int ((N : Int) - 1)] ∧ H a = some (.lst (ns.map V.int)) ∧ H b = some (.lst (ms.map V.int)) ∧ 1 ≤ N ∧ N ≤ 3001 ∧ N ≤ ns.length ∧ N ≤ ms.length ∧ (∀ i, (fnL ns i).natAbs < 2 ^ 400000) ∧ (∀ i, (fnL ms i).natAbs < 2 ^ 400000) ∧
  ∀ (p : Addr) (H' : Hp), H p = none → Same H H' → H' p = some (.lst (rowOf N (cv (fnL ns) (fnL ms)))) → Q (.ref p) H'
theorem ok__law_times (M : Mod P w K mg base) : FnOk P w K mg base CX0 1 M.f__law_times M.d__law_times ["one", "other", "most"] sp__law_times := by
  refine M.F__law_times.ok sc__law_times (fun vs H Q E h => ?_) (fun cdv A outer s H vs Q E hr h => ?_)
  · obtain ⟨a, b, ns, ms, N, rfl, _⟩ := h
    rfl
  · obtain ⟨a, b, ns, ms, N, rfl, ha, hb, n1, n2, n3, n4, bf, bg, q⟩ := h
    refine ⟨_, PSs.nox (C8.pss_cut (ps_setLc (i := 3) (own := [("n", 8)]) (g := (gName 8)) (by rfl) sc__law_times.nd rfl rfl (sw_true rfl rfl rfl (by decide +kernel)) (pi_range1 (by rfl) M.range0 (pa_cons (pe_op op_add (pv 2) pe_int) pa_nil)) (blkOk_by (own := [("n", 8)]) (N := N__law_times) (sc := defScope s__law_times) (by decide +kernel))
        (fun _ _ _ _ _ => (pg_name (i := 8) sc__law_times.nd rfl (Or.inl rfl))) (fun _ _ _ _ _ => pts_nil) (fun _ _ _ _ _ => pe_int))
      (pss_cons (ps_for PassesOwn.never rfl (pi_enumT (by rfl) M.enumerate0 (pa_cons (pe_slice sl_list (pv 0) po_none (po_some (pe_op op_add (pv 2) pe_int))) pa_nil)) (pg_tup rfl (pgs_cons (pg_name (i := 4) sc__law_times.nd rfl (Or.inl rfl)) (pgs_cons (pg_name (i := 5) sc__law_times.nd rfl (Or.inl rfl)) pgs_nil))) 
        (pss_one (ps_if (pt_cmpR op_ne (pv 5) pe_int (nomark _)) 
          (pss_one (ps_for PassesOwn.never rfl (pi_enumT (by rfl) M.enumerate0 (pa_cons (pe_slice sl_list (pv 1) po_none (po_some (pe_op op_sub (pe_op op_add (pv 2) pe_int) (pv 4)))) pa_nil)) (pg_tup rfl (pgs_cons (pg_name (i := 6) sc__law_times.nd rfl (Or.inl rfl)) (pgs_cons (pg_name (i := 7) sc__law_times.nd rfl (Or.inl rfl)) pgs_nil))) 
            (pss_one (ps_asg (pe_op op_add (pe_ix ix_list (pv 3) (pe_op op_add (pv 4) (pv 6)) (fun _ _ => rfl)) (pe_op op_mulW (pv 5) (pv 7))) (pg_sub (pv 3) (pe_op op_add (pv 4) (pv 6)) set_list))))) pss_nil)))
      (pss_one (ps_ret (pv 3))))), ?_⟩
    have eN : (N : Int) - 1 + 1 = (N : Int) := by omega
    refine ⟨fun σ H' => ∃ D, σ = [some (.ref a), some (.ref b), some (.int ((N : Int) - 1)), some (.ref D), none, none, none, none, none] ∧ H D = none ∧ Same H H' ∧ H' D = some (.lst (rowOf N (accS (fnL ns) (fnL ms) 0))), ?_, ?_⟩
    · refine ⟨_, rfl, _, _, rfl, rfl, _, rfl, by omega, by omega, fun D hD => lc_range (lo := 0) (n := ((N : Int) - 1 + 1).toNat) (fun i H' => H' D = some (.lst (rowOf i (accS (fnL ns) (fnL ms) 0))) ∧ Same H H') ⟨by rw [upd_same]; rfl, same_new hD⟩ ?_ ?_⟩
      · rintro i H4 hi ⟨h4, s5⟩
        refine ⟨rfl, yesT ⟨_, h4, ?_, ?_, ?_⟩⟩
        · rw [row_len, sizeLine_eq]
          omega
        · rw [upd_same, row_succ]
          rfl
        · intro b' o' e'
          rw [upd_ne (ne_of_none e' hD)]
          exact s5 _ _ e'
      · rintro H4 ⟨h4, s5⟩
        rw [eN, Int.toNat_natCast] at h4
        exact ⟨D, rfl, hD, s5, h4⟩
    · rintro σ H1 ⟨D, rfl, hD, s1, h1⟩
      refine ⟨_, rfl, _, rfl, _, _, rfl, rfl, _, rfl, a, _, rfl, SqL.of (s1 _ _ ha), fun p1 hp1 => ?_⟩
      have hc1 : (upd H1 p1 (.lst (cutV (ns.map V.int) none (some ((N : Int) - 1 + 1))))) p1 = some (.lst ((ns.take N).map V.int)) := by
        rw [upd_same, eN, cut_head n3]
      have k1 := same_new (o := .lst (cutV (ns.map V.int) none (some ((N : Int) - 1 + 1)))) hp1
      have npD : p1 ≠ D := fun z => by
        rw [z, h1] at hp1
        cases hp1
      have hlen : ((ns.take N).map V.int).length = N := by
        rw [List.length_map, List.length_take]
        omega
      refine ⟨p1, _, rfl, .inl ⟨SqL.of hc1, for_it (walk_enum (xs := (ns.take N).map V.int)) (fun i σ H' => ∃ y4 y5 y6 y7, σ = [some (.ref a), some (.ref b), some (.int ((N : Int) - 1)), some (.ref D), y4, y5, y6, y7, none] ∧ Same H H' ∧ H' p1 = some (.lst ((ns.take N).map V.int)) ∧ H' D = some (.lst (rowOf N (accS (fnL ns) (fnL ms) i))))
        ⟨_, _, _, _, rfl, s1.trans k1, hc1, k1 _ _ h1⟩ (fun i σ H' _ ⟨_, _, _, _, _, _, hp, _⟩ => SqL.of hp) ?_ ?_⟩⟩
      · rintro i v σ H2 H3 hi ⟨y4, y5, y6, y7, rfl, s2, hp2, h2⟩ ⟨T', y1, y2, rfl, hT, rfl, e1, e2⟩
        cases Option.some.inj e1
        rw [hlen] at hi
        have g2 : y2 = .int (fnL ns i) := by
          have z : ((ns.take N).map V.int)[i]? = some y2 := e2
          rw [hat (by rw [List.length_take]; omega), fnL_take hi] at z
          exact (Option.some.inj z).symm
        subst g2
        have sT := same_new (o := .tup [.int (i : Nat), .int (fnL ns i)]) hT
        refine ⟨T', _, rfl, SqT.of upd_same, rfl, _, _, rfl, _, _, rfl, rfl, ?_⟩
        refine ⟨_, rfl, rfl, _, rfl, ?_⟩
        by_cases c : fnL ns i = 0
        · refine iteF' (by rw [c]; rfl) ?_
          refine ⟨_, _, _, _, rfl, s2.trans sT, sT _ _ hp2, ?_⟩
          rw [sT _ _ h2]
          congr 2
          refine row_ext fun n hn => ?_
          rw [Gn.acc_step, c, Int.zero_mul]
          split <;> omega
        · refine iteT' (by
            rw [decide_eq_false (fun z => c (by injection z))]
            rfl) ?_
          have eNi : (N : Int) - 1 + 1 - (i : Int) = ((N - i : Nat) : Int) := by omega
          have s3 := s2.trans sT
          refine ⟨_, rfl, _, rfl, _, _, rfl, rfl, _, rfl, _, _, rfl, rfl, _, rfl, b, _, rfl, SqL.of (s3 _ _ hb), fun p2 hp3 => ?_⟩
          have k2 := same_new (o := .lst (cutV (ms.map V.int) none (some ((N : Int) - 1 + 1 - (i : Int))))) hp3
          have hc2 : (upd (upd H2 T' (.tup [.int (i : Nat), .int (fnL ns i)])) p2 (.lst (cutV (ms.map V.int) none (some ((N : Int) - 1 + 1 - (i : Int)))))) p2 = some (.lst ((ms.take (N - i)).map V.int)) := by
            rw [upd_same, eNi, cut_head (by omega)]
          have hlen2 : ((ms.take (N - i)).map V.int).length = N - i := by
            rw [List.length_map, List.length_take]
            omega
          have np2 : p2 ≠ D := fun z => by
            rw [z, sT _ _ h2] at hp3
            cases hp3
          refine ⟨p2, _, rfl, .inl ⟨SqL.of hc2, for_it (walk_enum (xs := (ms.take (N - i)).map V.int)) (fun j σ H' => ∃ y6 y7, σ = [some (.ref a), some (.ref b), some (.int ((N : Int) - 1)), some (.ref D), some (.int (i : Nat)), some (.int (fnL ns i)), y6, y7, none] ∧ Same H H' ∧ H' p1 = some (.lst ((ns.take N).map V.int)) ∧ H' p2 = some (.lst ((ms.take (N - i)).map V.int)) ∧
              H' D = some (.lst (rowOf N (fun n => accS (fnL ns) (fnL ms) i n + (if i ≤ n ∧ n < i + j then fnL ns i * fnL ms (n - i) else 0)))))
            ⟨_, _, rfl, s3.trans k2, k2 _ _ (sT _ _ hp2), hc2, ?_⟩ (fun j σ H' _ ⟨_, _, _, _, _, hp, _⟩ => SqL.of hp) ?_ ?_⟩⟩
          · rw [k2 _ _ (sT _ _ h2)]
            congr 2
            refine row_ext fun n hn => ?_
            rw [if_neg (by omega)]
            omega
          · rintro j v σ H4 H5 hj ⟨y6, y7, rfl, s4, hp4, hp5, h4⟩ ⟨T2, z1, z2, rfl, hT2, rfl, e3, e4⟩
            cases Option.some.inj e3
            rw [hlen2] at hj
            have g3 : z2 = .int (fnL ms j) := by
              have z : ((ms.take (N - i)).map V.int)[j]? = some z2 := e4
              rw [hat (by rw [List.length_take]; omega), fnL_take hj] at z
              exact (Option.some.inj z).symm
            subst g3
            have sT2 := same_new (o := .tup [.int (j : Nat), .int (fnL ms j)]) hT2
            have eij : (i : Int) + (j : Int) = ((i + j : Nat) : Int) := by omega
            refine ⟨T2, _, rfl, SqT.of upd_same, rfl, _, _, rfl, _, _, rfl, rfl, ?_⟩
            have hval : (rowOf N (fun n => accS (fnL ns) (fnL ms) i n + (if i ≤ n ∧ n < i + j then fnL ns i * fnL ms (n - i) else 0)))[i + j]? = some (.int (accS (fnL ns) (fnL ms) i (i + j))) := by
              rw [row_get (by omega), if_neg (by omega), Int.add_zero]
            refine ⟨_, rfl, _, rfl, _, rfl, _, _, rfl, rfl, D, _, _, _, rfl, rfl, SqL.of (sT2 _ _ h4), by
              show atI _ ((i : Int) + (j : Int)) = _
              rw [eij]
              exact atI_nat hval, ?_⟩
            refine ⟨_, rfl, _, rfl, _, _, rfl, rfl, wide_mul (bf i) (bg j) (by decide) (by decide) (by decide), _, _, rfl, rfl, ?_⟩
            refine ⟨_, rfl, _, rfl, _, rfl, _, _, rfl, rfl, D, _, _, i + j, rfl, rfl, sT2 _ _ h4, ?_, ?_⟩
            · show ixN _ ((i : Int) + (j : Int)) = _
              rw [eij, row_len]
              unfold ixN
              rw [if_pos (Int.natCast_nonneg _), if_pos (by omega), Int.toNat_natCast]
            · refine ⟨_, _, rfl, fun b' o' e' => by rw [upd_ne (ne_of_none e' hD)]; exact sT2 _ _ (s4 _ _ e'), ?_, ?_, ?_⟩
              · rw [upd_ne npD]
                exact sT2 _ _ hp4
              · rw [upd_ne np2]
                exact sT2 _ _ hp5
              · rw [upd_same]
                congr 2
                refine row_set (by omega) ?_ fun n hn hne => ?_
                · rw [if_pos (by omega)]
                  have e9 : i + j - i = j := by omega
                  rw [e9]
                · show accS _ _ i n + _ = accS _ _ i n + _
                  congr 1
                  by_cases cc : i ≤ n ∧ n < i + j
                  · rw [if_pos cc, if_pos (by omega)]
                  · rw [if_neg cc, if_neg (by omega)]
          · rintro σ H4 ⟨y6, y7, rfl, s4, hp4, hp5, h4⟩
            refine ⟨_, _, _, _, rfl, s4, hp4, ?_⟩
            rw [h4, hlen2]
            congr 2
            refine row_ext fun n hn => ?_
            rw [Gn.acc_step]
            congr 1
            by_cases cc : i ≤ n
            · rw [if_pos cc, if_pos (by omega)]
            · rw [if_neg cc, if_neg (by omega)]
      · rintro σ H2 ⟨y4, y5, y6, y7, rfl, s2, hp2, h2⟩
        rw [hlen] at h2
        have e5 : rowOf N (accS (fnL ns) (fnL ms) N) = rowOf N (cv (fnL ns) (fnL ms)) := row_ext fun n hn => Gn.acc_end hn
        rw [e5] at h2
        exact ⟨_, rfl, q D H2 hD s2 h2⟩

/-! ### power_of -/
def sp_power_of : Sp := fun vs H Q _ => ∃ (b : Int) (e : Nat), vs = [.int b, .int (e : Int)] ∧ b.natAbs < 2 ^ 40 ∧ e ≤ 64 ∧ Q (.int (b ^ e)) H
theorem pow_wide {b : Int} (h : b.natAbs < 2 ^ 40) {j : Nat} (hj : j ≤ 64) : (b ^ j).natAbs < 2 ^ 2600 := by
  rw [Int.natAbs_pow]
  refine Nat.lt_of_le_of_lt (Nat.pow_le_pow_left (Nat.le_of_lt h) j) ?_
  rw [← Nat.pow_mul]
  exact Nat.pow_lt_pow_right (by decide) (by omega)
theorem ok_power_of (M : Mod P w K mg base) : FnOk P w K mg base CX0 1 M.f_power_of M.d_power_of ["base", "exponent"] sp_power_of := by
  refine M.F_power_of.ok sc_power_of (fun vs H Q E h => ?_) (fun cdv A outer s H vs Q E hr h => ?_)
  · obtain ⟨b, e, rfl, _⟩ := h
    rfl
  · obtain ⟨b, e, rfl, hb, he, q⟩ := h
    refine ⟨_, PSs.nox (pss_cons (ps_set (i := 2) sc_power_of.nd rfl (Or.inl rfl) pe_int)
      (pss_cons (ps_for PassesOwn.never rfl (pi_range1 (by rfl) M.range0 (pa_cons (pv 1) pa_nil)) (pg_name (i := 3) sc_power_of.nd rfl (Or.inl rfl)) 
        (pss_one (ps_aug (i := 2) sc_power_of.nd rfl (Or.inl rfl) (pv 0) ip_mulW)))
      (pss_one (ps_ret (pv 2))))), ?_⟩
    refine ⟨_, rfl, _, rfl, by omega, by omega, for_range (lo := 0) (n := (e : Int).toNat) (fun j σ H' => ∃ x3, σ = [some (.int b), some (.int (e : Int)), some (.int (b ^ j)), x3] ∧ H' = H) ⟨none, by rw [Int.pow_zero]; rfl, rfl⟩ ?_ ?_⟩
    · rintro j σ H1 hj ⟨x3, rfl, rfl⟩
      refine ⟨_, rfl, _, rfl, _, _, rfl, rfl, wide_mul (pow_wide hb (by omega)) hb (by decide) (by decide) (by decide), some (.int (0 + (j : Int))), ?_, rfl⟩
      rw [Int.pow_succ]
      rfl
    · rintro σ H1 ⟨x3, rfl, rfl⟩
      rw [Int.toNat_natCast]
      exact ⟨_, rfl, q⟩
/-! ### _law_sigma -/
def sp__law_sigma : Sp := fun vs H Q _ => ∃ (n k : Nat), vs = [.int (n : Int), .int (k : Int)] ∧ n ≤ 3000 ∧ k ≤ 64 ∧ Q (.int (sgm n k)) H
theorem fmod_dvd {n d : Nat} : ((n : Int)).fmod (d : Int) = 0 ↔ d ∣ n := by
  rw [Int.fmod_eq_emod_of_nonneg _ (by omega)]
  constructor
  · intro z
    exact_mod_cast Int.dvd_of_emod_eq_zero z
  · intro z
    exact Int.emod_eq_zero_of_dvd (by exact_mod_cast z)
theorem ok__law_sigma (M : Mod P w K mg base) : FnOk P w K mg base CX0 1 M.f__law_sigma M.d__law_sigma ["n", "k"] sp__law_sigma := by
  refine M.F__law_sigma.ok sc__law_sigma (fun vs H Q E h => ?_) (fun cdv A outer s H vs Q E hr h => ?_)
  · obtain ⟨n, k, rfl, _⟩ := h
    rfl
  · obtain ⟨n, k, rfl, hn, hk, q⟩ := h
    refine ⟨_, PSs.nox (pss_cons (ps_set (i := 2) sc__law_sigma.nd rfl (Or.inl rfl) pe_int)
      (pss_cons (ps_for PassesOwn.never rfl (pi_range2 (by rfl) M.range0 (pa_cons pe_int (pa_cons (pe_op op_add (pv 0) pe_int) pa_nil))) (pg_name (i := 3) sc__law_sigma.nd rfl (Or.inl rfl)) 
        (pss_one (ps_if (pt_cmpR op_eq (pe_op op_modN (pv 0) (pv 3)) pe_int (nomark _)) 
          (pss_cons (ps_set (i := 4) sc__law_sigma.nd rfl (Or.inl rfl) pe_int)
          (pss_cons (ps_for PassesOwn.never rfl (pi_range1 (by rfl) M.range0 (pa_cons (pv 1) pa_nil)) (pg_name (i := 5) sc__law_sigma.nd rfl (Or.inl rfl)) 
            (pss_one (ps_set (i := 4) sc__law_sigma.nd rfl (Or.inl rfl) (pe_op op_mulW (pv 4) (pv 3)))))
          (pss_one (ps_set (i := 2) sc__law_sigma.nd rfl (Or.inl rfl) (pe_op op_add (pv 2) (pv 4)))))) pss_nil)))
      (pss_one (ps_ret (pv 2))))), ?_⟩
    refine ⟨_, rfl, _, _, rfl, rfl, 1, _, rfl, ⟨by decide, by decide, by omega, by omega⟩, ?_⟩
    refine for_range (lo := 1) (n := ((n : Int) + 1 - 1).toNat) (fun j σ H' => ∃ x3 x4 x5, σ = [some (.int (n : Int)), some (.int (k : Int)), some (.int (sm (fun i => if (i + 1) ∣ n then ((i + 1 : Nat) : Int) ^ k else 0) j)), x3, x4, x5] ∧ H' = H) ⟨_, _, _, rfl, rfl⟩ ?_ ?_
    · rintro j σ H1 hj ⟨x3, x4, x5, rfl, rfl⟩
      have ej : (1 : Int) + (j : Int) = ((j + 1 : Nat) : Int) := by omega
      rw [ej]
      refine ⟨_, rfl, _, rfl, _, _, rfl, rfl, by omega, rfl, _, rfl, ?_⟩
      by_cases c : (j + 1) ∣ n
      · refine iteT' (decide_eq_true (congrArg V.int (fmod_dvd.mpr c))) ?_
        have hb : (((j + 1 : Nat) : Int)).natAbs < 2 ^ 40 := by
          have e40 : (2 : Nat) ^ 40 = 1099511627776 := by decide
          omega
        refine ⟨_, rfl, _, rfl, by omega, by omega, for_range (lo := 0) (n := (k : Int).toNat) (fun t σ H' => ∃ x5, σ = [some (.int (n : Int)), some (.int (k : Int)), some (.int (sm (fun i => if (i + 1) ∣ n then ((i + 1 : Nat) : Int) ^ k else 0) j)), some (.int ((j + 1 : Nat) : Int)), some (.int (((j + 1 : Nat) : Int) ^ t)), x5] ∧ H' = H1) ⟨_, rfl, rfl⟩ ?_ ?_⟩
        · rintro t σ H2 ht ⟨x5, rfl, rfl⟩
          refine ⟨_, rfl, _, rfl, _, _, rfl, rfl, wide_mul (pow_wide hb (by omega)) hb (by decide) (by decide) (by decide), some (.int (0 + (t : Int))), ?_, rfl⟩
          rw [Int.pow_succ]
          rfl
        · rintro σ H2 ⟨x5, rfl, rfl⟩
          rw [Int.toNat_natCast]
          have es : sm (fun i => if (i + 1) ∣ n then ((i + 1 : Nat) : Int) ^ k else 0) (j + 1) = sm (fun i => if (i + 1) ∣ n then ((i + 1 : Nat) : Int) ^ k else 0) j + ((j + 1 : Nat) : Int) ^ k := by
            show sm _ j + (if (j + 1) ∣ n then _ else 0) = _
            rw [if_pos c]
          refine ⟨_, rfl, _, rfl, _, _, rfl, rfl, ?_⟩
          show ∃ x3 x4 x5, _ = [_, _, some (V.int (sm (fun i => if (i + 1) ∣ n then ((i + 1 : Nat) : Int) ^ k else 0) (j + 1))), x3, x4, x5] ∧ _
          rw [es]
          exact ⟨_, _, _, rfl, rfl⟩
      · have es : sm (fun i => if (i + 1) ∣ n then ((i + 1 : Nat) : Int) ^ k else 0) (j + 1) = sm (fun i => if (i + 1) ∣ n then ((i + 1 : Nat) : Int) ^ k else 0) j := by
          show sm _ j + (if (j + 1) ∣ n then _ else 0) = _
          rw [if_neg c, Int.add_zero]
        refine iteF' (decide_eq_false fun z => c (fmod_dvd.mp (by injection z))) ?_
        show ∃ x3 x4 x5, _ = [_, _, some (V.int (sm (fun i => if (i + 1) ∣ n then ((i + 1 : Nat) : Int) ^ k else 0) (j + 1))), x3, x4, x5] ∧ _
        rw [es]
        exact ⟨_, _, _, rfl, rfl⟩
    · rintro σ H1 ⟨x3, x4, x5, rfl, rfl⟩
      have e : ((n : Int) + 1 - 1).toNat = n := by omega
      rw [e]
      exact ⟨_, rfl, q⟩
/-! ### divisors_of, divisor_sum -/
def sp_divisors_of : Sp := fun vs H Q _ => ∃ n : Nat, vs = [.int (n : Int)] ∧ 1 ≤ n ∧ n ≤ 1000000 ∧
  ∀ (p : Addr) (H' : Hp), H p = none → Same H H' → H' p = some (.lst ((sml n (rt n) ++ lrgOf n (sml n (rt n)).reverse).map V.int)) → Q (.ref p) H'
theorem rt_le {n : Nat} (h : n ≤ 1000000) : rt n ≤ 1000 := by
  have s := PySem.Float64.isqrt_spec n
  have s1 : rt n * rt n ≤ n := s.1
  refine Nat.le_of_not_lt fun z => ?_
  have := Nat.mul_le_mul z z
  omega
theorem ok_divisors_of (M : Mod P w K mg base) : FnOk P w K mg base CX0 1 M.f_divisors_of M.d_divisors_of ["n"] sp_divisors_of := by
  refine M.F_divisors_of.ok sc_divisors_of (fun vs H Q E h => ?_) (fun cdv A outer s H vs Q E hr h => ?_)
  · obtain ⟨n, rfl, _⟩ := h
    rfl
  · obtain ⟨n, rfl, n1, n2, q⟩ := h
    refine ⟨_, PSs.nox (pss_cons (ps_setLc (i := 1) (own := [("d", 2)]) (g := (gName 2)) (by rfl) sc_divisors_of.nd rfl rfl (sw_true rfl rfl rfl (by decide +kernel)) (pi_range2 (by rfl) M.range0 (pa_cons pe_int (pa_cons (pe_op op_add (pe_callBfun cr_isqrt rfl M.i_isqrt (pa_cons (pv 0) pa_nil)) pe_int) pa_nil))) (blkOk_by (own := [("d", 2)]) (N := N_divisors_of) (sc := defScope s_divisors_of) (by decide +kernel))
        (fun _ _ _ _ _ => (pg_name (i := 2) sc_divisors_of.nd rfl (Or.inl rfl))) (fun _ _ _ _ _ => (pts_one (pt_cmpR op_eq (pe_op op_modN (pv 0) (pv 2)) pe_int (nomark _)))) (fun _ _ _ _ _ => (pv 2)))
      (pss_one (ps_ret (pe_op op_cat (pv 1) (pe_lc (own := [("d", 2)]) (g := (gName 2)) (by rfl) sc_divisors_of.nd (pi_list (pe_revL (pv 1))) (blkOk_by (own := [("d", 2)]) (N := N_divisors_of) (sc := defScope s_divisors_of) (by decide +kernel))
        (fun _ _ _ _ _ => (pg_name (i := 2) sc_divisors_of.nd rfl (Or.inl rfl))) (fun _ _ _ _ _ => (pts_one (pt_cmpR op_ne (pe_op op_mul (pv 2) (pv 2)) (pv 0) (nomark _)))) (fun _ _ _ _ _ => (pe_op op_fdivB (pv 0) (pv 2)))))))), ?_⟩
    refine ⟨_, rfl, n, rfl, by omega, fun r r1 r2 => ?_⟩
    have er := rt_eq r1 r2
    subst er
    have hr := rt_le n2
    refine ⟨_, _, rfl, rfl, 1, _, rfl, ⟨by decide, by decide, by omega, by omega⟩, fun D hD => ?_⟩
    refine lc_range (lo := 1) (n := (((rt n : Nat) : Int) + 1 - 1).toNat) (fun j H' => H' D = some (.lst ((sml n j).map V.int)) ∧ Same H H') ⟨upd_same, same_new hD⟩ ?_ ?_
    · rintro j H1 hj ⟨h1, s1⟩
      have ej : (1 : Int) + (j : Int) = ((j + 1 : Nat) : Int) := by omega
      rw [ej]
      refine ⟨rfl, _, rfl, _, rfl, _, _, rfl, rfl, by omega, rfl, _, rfl, ?_⟩
      by_cases c : (j + 1) ∣ n
      · refine iteT' (decide_eq_true (congrArg V.int (fmod_dvd.mpr c))) ?_
        refine ⟨_, rfl, _, h1, ?_, ?_, fun b o e => by rw [upd_ne (ne_of_none e hD)]; exact s1 _ _ e⟩
        · rw [List.length_map, sizeLine_eq]
          have := sml_len n j
          omega
        · rw [upd_same]
          show _ = some (HO.lst ((sml n j ++ (if (j + 1) ∣ n then [((j + 1 : Nat) : Int)] else [])).map V.int))
          rw [if_pos c, List.map_append]
          rfl
      · refine iteF' (decide_eq_false fun z => c (fmod_dvd.mp (by injection z))) ⟨?_, s1⟩
        show _ = some (HO.lst ((sml n j ++ (if (j + 1) ∣ n then [((j + 1 : Nat) : Int)] else [])).map V.int))
        rw [if_neg c, List.append_nil]
        exact h1
    · rintro H1 ⟨h1, s1⟩
      have e : (((rt n : Nat) : Int) + 1 - 1).toNat = rt n := by omega
      rw [e] at h1
      have ll := sml_len n (rt n)
      obtain ⟨L, eL⟩ : ∃ L, L = (sml n (rt n)).reverse := ⟨_, rfl⟩
      refine ⟨_, rfl, _, rfl, D, _, rfl, SqL.of h1, fun p2 h2 => ?_⟩
      rw [← List.map_reverse, ← eL]
      have s2 := same_new (o := .lst (L.map V.int)) h2
      have e2 : (upd H1 p2 (.lst (L.map V.int))) p2 = some (.lst (L.map V.int)) := upd_same
      generalize upd H1 p2 (.lst (L.map V.int)) = H2 at s2 e2 ⊢
      have lL : L.length ≤ rt n := by rw [eL, List.length_reverse]; exact ll
      refine ⟨p2, rfl, ⟨_, SqL.of e2⟩, fun D2 hD2 => lc_list (K := K) (a := p2) (xs := L.map V.int) (fun i H' => H' D2 = some (.lst ((lrgOf n (L.take i)).map V.int)) ∧ Same H2 H') ⟨upd_same, same_new hD2⟩ (fun i H' _ ⟨_, s⟩ => SqL.of (s _ _ e2)) ?_ ?_⟩
      · rintro i x H3 hi ⟨h3, s3⟩
        obtain ⟨z, hz, rfl⟩ := int_at hi
        obtain ⟨d, rfl, d1, d2, d3⟩ := sml_mem n (rt n) z (by
          have := List.mem_of_getElem? hz
          rw [eL, List.mem_reverse] at this
          exact this)
        have et : L.take (i + 1) = L.take i ++ [(d : Int)] := by rw [List.take_succ, hz]; rfl
        have hil := (List.getElem?_eq_some_iff.mp hz).1
        have l3 : (lrgOf n (L.take i)).length ≤ i := by
          unfold lrgOf
          rw [List.length_map]
          refine Nat.le_trans (List.length_filter_le _ _) ?_
          rw [List.length_take]
          omega
        refine ⟨rfl, _, rfl, _, rfl, _, _, rfl, rfl, .inl ⟨by omega, by omega⟩, _, rfl, rfl, _, rfl, ?_⟩
        by_cases c : (d : Int) * (d : Int) = (n : Int)
        · refine iteF' (by rw [decide_eq_true (congrArg V.int c)]; rfl) ⟨?_, s3⟩
          rw [et]
          unfold lrgOf at h3 ⊢
          rw [List.filter_append, List.filter_cons_of_neg (fun z => (of_decide_eq_true z) c)]
          rw [List.filter_nil, List.append_nil]
          exact h3
        · refine iteT' (by rw [decide_eq_false (fun z => c (by injection z))]; rfl) ?_
          refine ⟨_, rfl, _, rfl, _, _, rfl, rfl, ⟨by omega, log_small2 (by omega)⟩, _, h3, ?_, ?_, fun b o e => by rw [upd_ne (ne_of_none e hD2)]; exact s3 _ _ e⟩
          · rw [List.length_map, sizeLine_eq]
            omega
          · rw [upd_same, et]
            unfold lrgOf
            have ef : List.filter (fun d => decide (d * d ≠ (n : Int))) [(d : Int)] = [(d : Int)] := by
              rw [List.filter_cons_of_pos (by exact decide_eq_true c)]
              rfl
            rw [List.filter_append, ef, List.map_append, List.map_append]
            rfl
      · rintro H3 ⟨h3, s3⟩
        rw [List.length_map, List.take_length] at h3
        have l4 : (lrgOf n L).length ≤ L.length := by
          unfold lrgOf
          rw [List.length_map]
          exact List.length_filter_le _ _
        refine ⟨D, D2, _, _, rfl, rfl, s3 _ _ (s2 _ _ h1), h3, ?_, fun p hp => ?_⟩
        · rw [List.length_map, List.length_map, sizeLine_eq]
          omega
        · refine q p _ ((s1.trans (s2.trans s3)).free hp) ((s1.trans (s2.trans s3)).trans (same_new hp)) ?_
          rw [upd_same, List.map_append, eL]
end
end K32

set_option Elab.async false
set_option linter.all false
set_option maxRecDepth 100000
set_option maxHeartbeats 4000000
set_option pp.maxSteps 3000
set_option exponentiation.threshold 500000
namespace K32
open PySem PySem.Spec PyProof.Rows L2 Dr Xv LamX Ps Gn
section
variable {P : Program} {w : World} {K : PySem.W.Frag} {mg : Str → Option Value} {base : Heap}
/-! ### divisor_sum -/
def sp_divisor_sum (cN : Addr) : Sp := fun vs H Q E => ∃ x y : V, vs = [x, y] ∧ PV H x ∧ PV H y ∧ (within x 1 999999 = false → E (.ref cN) none H) ∧ (within x 1 999999 = true → within y 0 11 = false → E (.ref cN) none H) ∧
  (∀ n k : Nat, x = .int (n : Int) → y = .int (k : Int) → 1 ≤ n → n ≤ 999999 → k ≤ 11 → ∀ H', Same H H' → Q (.int (DV n k)) H')
theorem lrg_mem {n : Nat} {z : Int} (hn : n ≤ 1000000) (h : z ∈ lrgOf n (sml n (rt n)).reverse) : z.natAbs < 2 ^ 40 := by
  unfold lrgOf at h
  obtain ⟨d, hd, rfl⟩ := List.mem_map.mp h
  have hd2 := List.mem_reverse.mp (List.mem_filter.mp hd).1
  obtain ⟨e, rfl, e1, e2, _⟩ := sml_mem n (rt n) d hd2
  rw [Int.fdiv_eq_ediv_of_nonneg _ (by omega), ← Int.natCast_ediv, Int.natAbs_natCast]
  exact Nat.lt_of_le_of_lt (Nat.le_trans (Nat.div_le_self n e) hn) (by decide)
theorem ok_divisor_sum (M : Mod P w K mg base) : FnOk P w K mg base (L2.CX P w) 3 M.f_divisor_sum M.d_divisor_sum ["n", "k"] (sp_divisor_sum M.a_BadNumber) := by
  refine M.F_divisor_sum.ok sc_divisor_sum (fun vs H Q E h => ?_) (fun cdv A outer s H vs Q E hr h => ?_)
  · obtain ⟨x, y, rfl, _⟩ := h
    rfl
  · obtain ⟨x, y, rfl, hx, hy, q1, q2, q3⟩ := h
    refine ⟨_, (C8.pss_cut (ps_if (pt_not (pt_val (pe_call (ok_is_within M) (hr.mono (by decide)) rfl M.g_is_within M.k_is_within M.b_is_within .nil pass0 (pa_cons (pv 0) (pa_cons pe_int (pa_cons (pe_glob (v := .int 999999) rfl M.c_GREATEST_DIVIDED ⟨_, rfl⟩) pa_nil)))))) 
        (pss_one (ps_raise rfl (takes_of rfl rfl rfl rfl) (pmk_own PySem.F.excBase_ValueError M.E_BadNumber.x M.g_BadNumber M.E_BadNumber.k (raises_own M.E_BadNumber.b M.E_BadNumber.t) rfl))) pss_nil)
      (C8.pss_cut (ps_if (pt_not (pt_val (pe_call (ok_is_within M) (hr.mono (by decide)) rfl M.g_is_within M.k_is_within M.b_is_within .nil pass0 (pa_cons (pv 1) (pa_cons pe_int (pa_cons (pe_glob (v := .int 11) rfl M.c_GREATEST_DIVISOR_POWER ⟨_, rfl⟩) pa_nil)))))) 
        (pss_one (ps_raise rfl (takes_of rfl rfl rfl rfl) (pmk_own PySem.F.excBase_ValueError M.E_BadNumber.x M.g_BadNumber M.E_BadNumber.k (raises_own M.E_BadNumber.b M.E_BadNumber.t) rfl))) pss_nil)
      (PSs.nox 
      (pss_one (ps_ret (pe_callB (cr_sum rfl) (by rfl) M.sum0 (by decide +kernel) (pa_cons (pe_lc (own := [("d", 2)]) (g := (gName 2)) (by rfl) sc_divisor_sum.nd (pi_list (pe_call (ok_divisors_of M) (hr.mono (by decide)) rfl M.g_divisors_of M.k_divisors_of M.b_divisors_of .nil pass0 (pa_cons (pv 0) pa_nil))) (blkOk_by (own := [("d", 2)]) (N := N_divisor_sum) (sc := defScope s_divisor_sum) (by decide +kernel))
        (fun _ _ _ _ _ => (pg_name (i := 2) sc_divisor_sum.nd rfl (Or.inl rfl))) (fun _ _ _ _ _ => pts_nil) (fun _ _ _ _ _ => (pe_call (ok_power_of M) (hr.mono (by decide)) rfl M.g_power_of M.k_power_of M.b_power_of .nil pass0 (pa_cons (pv 2) (pa_cons (pv 1) pa_nil))))) pa_nil))))))), ?_⟩
    refine ⟨fun σ' H' => σ' = [some x, some y, none] ∧ H' = H ∧ within x 1 999999 = true, ?_, ?_⟩
    · refine ⟨_, rfl, x, 1, 999999, rfl, hx, within x 1 999999, rfl, ?_⟩
      cases h : within x 1 999999 with
      | true => exact iteF ⟨rfl, rfl, rfl⟩
      | false => exact iteT (q1 h)
    · rintro σ1 H1 ⟨rfl, rfl, hw⟩
      refine ⟨fun σ' H' => σ' = [some x, some y, none] ∧ H' = H1 ∧ within y 0 11 = true, ?_, ?_⟩
      · refine ⟨_, rfl, y, 0, 11, rfl, hy, within y 0 11, rfl, ?_⟩
        cases h : within y 0 11 with
        | true => exact iteF ⟨rfl, rfl, rfl⟩
        | false => exact iteT (q2 hw h)
      · rintro σ2 H2 ⟨rfl, rfl, hw2⟩
        obtain ⟨a, rfl, a0, a1⟩ := within_int hw
        obtain ⟨b, rfl, b0, b1⟩ := within_int hw2
        obtain ⟨n, rfl⟩ : ∃ n : Nat, a = (n : Int) := ⟨a.toNat, by omega⟩
        obtain ⟨k, rfl⟩ : ∃ k : Nat, b = (k : Int) := ⟨b.toNat, by omega⟩
        refine ⟨_, rfl, n, rfl, by omega, by omega, fun p H3 hp s3 e3 => ?_⟩
        obtain ⟨L, eL⟩ : ∃ L, L = sml n (rt n) ++ lrgOf n (sml n (rt n)).reverse := ⟨_, rfl⟩
        rw [← eL] at e3
        have hr := rt_le (n := n) (by omega)
        have lL : L.length ≤ 2000 := by
          have h1 := sml_len n (rt n)
          have h2 : (lrgOf n (sml n (rt n)).reverse).length ≤ (sml n (rt n)).length := by
            unfold lrgOf
            rw [List.length_map]
            refine Nat.le_trans (List.length_filter_le _ _) ?_
            rw [List.length_reverse]
            exact Nat.le_refl _
          rw [eL, List.length_append]
          omega
        have bL : ∀ z ∈ L, z.natAbs < 2 ^ 40 := fun z hz => by
          rw [eL] at hz
          rcases List.mem_append.mp hz with hz | hz
          · obtain ⟨d, rfl, d1, d2, _⟩ := sml_mem n (rt n) z hz
            have e40 : (2 : Nat) ^ 40 = 1099511627776 := by decide
            omega
          · exact lrg_mem (by omega) hz
        refine ⟨p, rfl, ⟨_, SqL.of e3⟩, fun D hD => lc_list (K := K) (a := p) (xs := L.map V.int) (fun i H' => H' D = some (.lst (((L.take i).map (· ^ k)).map V.int)) ∧ Same H3 H') ⟨upd_same, same_new hD⟩ (fun i H' _ ⟨_, s⟩ => SqL.of (s _ _ e3)) ?_ ?_⟩
        · rintro i x H4 hi ⟨h4, s4⟩
          obtain ⟨z, hz, rfl⟩ := int_at hi
          refine ⟨rfl, yesT ⟨_, rfl, _, rfl, z, k, rfl, bL z (List.mem_of_getElem? hz), by omega, _, h4, ?_, ?_, fun b o e => by rw [upd_ne (ne_of_none e hD)]; exact s4 _ _ e⟩⟩
          · rw [List.length_map, List.length_map, List.length_take, sizeLine_eq]
            omega
          · rw [upd_same, List.take_succ, hz, List.map_append, List.map_append]
            rfl
        · rintro H4 ⟨h4, s4⟩
          rw [List.length_map, List.take_length] at h4
          refine ⟨D, _, rfl, SqL.of h4, ?_⟩
          have es : (L.map (· ^ k)).sum = DV n k := by
            rw [eL, List.map_append, List.sum_append, pvS_sum]
            rfl
          rw [es]
          exact q3 n k rfl rfl (by omega) (by omega) (by omega) _ (s3.trans s4)
/-! ### _law_by_pairs -/
def sp__law_by_pairs : Sp := fun vs H Q _ => ∃ n k : Nat, vs = [.int (n : Int), .int (k : Int)] ∧ 1 ≤ n ∧ n ≤ 1000000 ∧ k ≤ 64 ∧ ∀ H', Same H H' → Q (.int (DV n k)) H'
theorem ok__law_by_pairs (M : Mod P w K mg base) : FnOk P w K mg base CX0 1 M.f__law_by_pairs M.d__law_by_pairs ["n", "k"] sp__law_by_pairs := by
  refine M.F__law_by_pairs.ok sc__law_by_pairs (fun vs H Q E h => ?_) (fun cdv A outer s H vs Q E hr h => ?_)
  · obtain ⟨n, k, rfl, _⟩ := h
    rfl
  · obtain ⟨n, k, rfl, n1, n2, hk, q⟩ := h
    refine ⟨_, PSs.nox (pss_cons (ps_asg (pe_tup (pa_cons pe_int (pa_cons pe_int pa_nil))) (pg_tup rfl (pgs_cons (pg_name (i := 2) sc__law_by_pairs.nd rfl (Or.inl rfl)) (pgs_cons (pg_name (i := 3) sc__law_by_pairs.nd rfl (Or.inl rfl)) pgs_nil))))
      (pss_cons (ps_while PassesOwn.never (pt_cmpR op_le (pe_op op_mul (pv 3) (pv 3)) (pv 0) (nomark _)) 
        (C8.pss_cut (ps_if (pt_cmpR op_eq (pe_op op_modN (pv 0) (pv 3)) pe_int (nomark _)) 
          (pss_one (ps_for PassesOwn.never rfl (pi_list (pe_ifExp (pt_cmpR op_eq (pe_op op_mul (pv 3) (pv 3)) (pv 0) (nomark _)) (pe_lst (pa_cons (pv 3) pa_nil)) (pe_lst (pa_cons (pv 3) (pa_cons (pe_op op_fdivB (pv 0) (pv 3)) pa_nil))))) (pg_name (i := 4) sc__law_by_pairs.nd rfl (Or.inl rfl)) 
            (pss_cons (ps_set (i := 5) sc__law_by_pairs.nd rfl (Or.inl rfl) pe_int)
            (pss_cons (ps_for PassesOwn.never rfl (pi_range1 (by rfl) M.range0 (pa_cons (pv 1) pa_nil)) (pg_name (i := 6) sc__law_by_pairs.nd rfl (Or.inl rfl)) 
              (pss_one (ps_set (i := 5) sc__law_by_pairs.nd rfl (Or.inl rfl) (pe_op op_mulW (pv 5) (pv 4)))))
            (pss_one (ps_set (i := 2) sc__law_by_pairs.nd rfl (Or.inl rfl) (pe_op op_add (pv 2) (pv 5)))))))) pss_nil)
        (pss_one (ps_set (i := 3) sc__law_by_pairs.nd rfl (Or.inl rfl) (pe_op op_add (pv 3) pe_int)))))
      (pss_one (ps_ret (pv 2))))), ?_⟩
    refine ⟨(by show 2 ≤ sizeLine; decide), fun tp htp => ⟨tp, _, rfl, SqT.of upd_same, rfl, _, _, rfl, _, _, rfl, rfl, ?_⟩⟩
    have s0 := same_new (o := .tup [.int 0, .int 1]) htp
    have hr := rt_le n2
    have sp := PySem.Float64.isqrt_spec n
    have sp1 : rt n * rt n ≤ n := sp.1
    have sp2 : n < (rt n + 1) * (rt n + 1) := sp.2
    refine ⟨fun m σ H' => ∃ (j : Nat) (x4 x5 x6 : Option V), σ = [some (.int (n : Int)), some (.int (k : Int)), some (.int (pvS n k j)), some (.int ((j + 1 : Nat) : Int)), x4, x5, x6] ∧ Same H H' ∧ j ≤ rt n ∧ m = rt n - j, ⟨_, 0, none, none, none, rfl, s0, Nat.zero_le _, rfl⟩, ?_⟩
    rintro m σ H1 ⟨j, x4, x5, x6, rfl, s1, hj, rfl⟩
    refine ⟨_, rfl, _, rfl, _, _, rfl, rfl, .inl ⟨by omega, by omega⟩, _, rfl, _, _, rfl, rfl, _, rfl, ?_⟩
    have ejj : ((j + 1 : Nat) : Int) * ((j + 1 : Nat) : Int) = (((j + 1) * (j + 1) : Nat) : Int) := by push_cast; rfl
    by_cases c : (j + 1) * (j + 1) ≤ n
    · have hj2 : j + 1 ≤ rt n := by
        refine Nat.le_of_not_lt fun z => ?_
        have z2 : (rt n + 1) * (rt n + 1) ≤ (j + 1) * (j + 1) := Nat.mul_le_mul (by omega) (by omega)
        omega
      refine iteT' (decide_eq_true (by rw [ejj]; exact_mod_cast c)) ⟨_, fun σ' H' e => e, ?_⟩
      refine ⟨fun σ' H' => ∃ x4 x5 x6, σ' = [some (.int (n : Int)), some (.int (k : Int)), some (.int (pvS n k (j + 1))), some (.int ((j + 1 : Nat) : Int)), x4, x5, x6] ∧ Same H H', ?_, ?_⟩
      · refine ⟨_, rfl, _, rfl, _, _, rfl, rfl, by omega, rfl, _, rfl, ?_⟩
        by_cases d : (j + 1) ∣ n
        · have es : pvS n k (j + 1) = pvS n k j + pr1 n k (j + 1) := by
            show sm _ j + (if (j + 1) ∣ n then _ else 0) = _
            rw [if_pos d]
            rfl
          refine iteT' (decide_eq_true (congrArg V.int (fmod_dvd.mpr d))) ?_
          refine ⟨_, rfl, _, rfl, _, _, rfl, rfl, .inl ⟨by omega, by omega⟩, _, rfl, rfl, _, rfl, ?_⟩
          by_cases e : (j + 1) * (j + 1) = n
          case' pos =>
            refine iteT' (decide_eq_true (congrArg V.int (by rw [ejj, e]))) ?_
            refine ⟨_, rfl, (by show 1 ≤ sizeLine; decide), fun p hp => ?_⟩
            obtain ⟨L, eL⟩ : ∃ L : List Int, L = [((j + 1 : Nat) : Int)] := ⟨_, rfl⟩
            have hL : (L.map (· ^ k)).sum = pr1 n k (j + 1) := by
              rw [eL]
              unfold pr1
              rw [if_pos e]
              rfl
            have bL : ∀ z ∈ L, z.natAbs < 2 ^ 40 := fun z hz => by
              rw [eL] at hz
              have e40 : (2 : Nat) ^ 40 = 1099511627776 := by decide
              rw [List.mem_singleton.mp hz]
              omega
            have e2 : (upd H1 p (.lst [V.int ((j + 1 : Nat) : Int)])) p = some (.lst (L.map V.int)) := by
              rw [upd_same, eL]
              rfl
            have s2 := s1.trans (same_new (o := .lst [V.int ((j + 1 : Nat) : Int)]) hp)
            generalize upd H1 p (.lst [V.int ((j + 1 : Nat) : Int)]) = H2 at e2 s2 ⊢
          case' neg =>
            refine iteF' (decide_eq_false fun z => e (by
              have z2 : ((j + 1 : Nat) : Int) * ((j + 1 : Nat) : Int) = (n : Int) := by injection z
              rw [ejj] at z2
              exact_mod_cast z2)) ?_
            have ed : ((n : Int)).fdiv ((j + 1 : Nat) : Int) = ((n / (j + 1) : Nat) : Int) := by
              rw [Int.fdiv_eq_ediv_of_nonneg _ (by omega), Int.natCast_ediv]
            refine ⟨_, rfl, _, rfl, _, rfl, _, _, rfl, rfl, ⟨by omega, log_small2 (by omega)⟩, (by show 2 ≤ sizeLine; decide), fun p hp => ?_⟩
            obtain ⟨L, eL⟩ : ∃ L : List Int, L = [((j + 1 : Nat) : Int), ((n / (j + 1) : Nat) : Int)] := ⟨_, rfl⟩
            have hL : (L.map (· ^ k)).sum = pr1 n k (j + 1) := by
              rw [eL]
              unfold pr1
              rw [if_neg e]
              show _ + (_ + 0) = _
              rw [Int.add_zero]
            have bL : ∀ z ∈ L, z.natAbs < 2 ^ 40 := fun z hz => by
              rw [eL] at hz
              rcases List.mem_cons.mp hz with rfl | hz
              · have e40 : (2 : Nat) ^ 40 = 1099511627776 := by decide
                omega
              · rw [List.mem_singleton.mp hz, Int.natAbs_natCast]
                exact Nat.lt_of_le_of_lt (Nat.le_trans (Nat.div_le_self n (j + 1)) n2) (by decide)
            have e2 : (upd H1 p (.lst [V.int ((j + 1 : Nat) : Int), V.int (((n : Int)).fdiv ((j + 1 : Nat) : Int))])) p = some (.lst (L.map V.int)) := by
              rw [upd_same, eL, ed]
              rfl
            have s2 := s1.trans (same_new (o := .lst [V.int ((j + 1 : Nat) : Int), V.int (((n : Int)).fdiv ((j + 1 : Nat) : Int))]) hp)
            generalize upd H1 p (.lst [V.int ((j + 1 : Nat) : Int), V.int (((n : Int)).fdiv ((j + 1 : Nat) : Int))]) = H2 at e2 s2 ⊢
          all_goals
            refine ⟨p, rfl, ⟨_, SqL.of e2⟩, for_list (K := K) (a := p) (xs := L.map V.int) (fun i σ H' => ∃ x4 x5 x6, σ = [some (.int (n : Int)), some (.int (k : Int)), some (.int (pvS n k j + ((L.take i).map (· ^ k)).sum)), some (.int ((j + 1 : Nat) : Int)), x4, x5, x6] ∧ H' = H2) ⟨_, _, _, by rw [show ((L.take 0).map (· ^ k)).sum = 0 from rfl, Int.add_zero], rfl⟩ (fun i σ H' _ ⟨_, _, _, _, eH⟩ => by rw [eH]; exact SqL.of e2) ?_ ?_⟩
            · rintro i x σ H3 hi ⟨x4, x5, x6, rfl, rfl⟩
              obtain ⟨z, hz, rfl⟩ := int_at hi
              have hb := bL z (List.mem_of_getElem? hz)
              refine ⟨_, rfl, _, rfl, by omega, by omega, for_range (lo := 0) (n := (k : Int).toNat) (fun t σ H' => ∃ x6, σ = [some (.int (n : Int)), some (.int (k : Int)), some (.int (pvS n k j + ((L.take i).map (· ^ k)).sum)), some (.int ((j + 1 : Nat) : Int)), some (.int z), some (.int (z ^ t)), x6] ∧ H' = H3) ⟨x6, by rw [Int.pow_zero]; rfl, rfl⟩ ?_ ?_⟩
              · rintro t σ H4 ht ⟨y6, rfl, rfl⟩
                refine ⟨_, rfl, _, rfl, _, _, rfl, rfl, wide_mul (pow_wide hb (by omega)) hb (by decide) (by decide) (by decide), some (.int (0 + (t : Int))), ?_, rfl⟩
                rw [Int.pow_succ]
                rfl
              · rintro σ H4 ⟨y6, rfl, rfl⟩
                rw [Int.toNat_natCast]
                refine ⟨_, rfl, _, rfl, _, _, rfl, rfl, ?_⟩
                have e5 : ((L.take (i + 1)).map (· ^ k)).sum = ((L.take i).map (· ^ k)).sum + z ^ k := by
                  rw [List.take_succ, hz, List.map_append, List.sum_append]
                  show _ + (z ^ k + 0) = _
                  rw [Int.add_zero]
                show ∃ x4 x5 x6, _ = [_, _, some (V.int (pvS n k j + ((L.take (i + 1)).map (· ^ k)).sum)), _, x4, x5, x6] ∧ _
                rw [e5, ← Int.add_assoc]
                exact ⟨_, _, _, rfl, rfl⟩
            · rintro σ H3 ⟨x4, x5, x6, rfl, rfl⟩
              rw [List.length_map, List.take_length, hL, ← es]
              exact ⟨_, _, _, rfl, s2⟩
        · have es : pvS n k (j + 1) = pvS n k j := by
            show sm _ j + (if (j + 1) ∣ n then _ else 0) = _
            rw [if_neg d, Int.add_zero]
            rfl
          rw [es]
          exact iteF' (decide_eq_false fun z => d (fmod_dvd.mp (by injection z))) ⟨_, _, _, rfl, s1⟩
      · rintro σ2 H2 ⟨x4, x5, x6, rfl, s2⟩
        refine ⟨_, rfl, _, _, rfl, rfl, rt n - (j + 1), by omega, j + 1, x4, x5, x6, ?_, s2, by omega, rfl⟩
        have e1 : ((j + 1 : Nat) : Int) + 1 = ((j + 1 + 1 : Nat) : Int) := by omega
        show [_, _, _, some (V.int (((j + 1 : Nat) : Int) + 1)), _, _, _] = _
        rw [e1]
    · have hj2 : j = rt n := by
        refine Nat.le_antisymm hj (Nat.le_of_not_lt fun z => c ?_)
        have z2 : (j + 1) * (j + 1) ≤ rt n * rt n := Nat.mul_le_mul (by omega) (by omega)
        omega
      subst hj2
      refine iteF' (decide_eq_false fun z => c (by rw [ejj] at z; exact_mod_cast z)) ?_
      exact ⟨_, rfl, q _ s1⟩
end
end K32

set_option Elab.async false
set_option linter.all false
set_option maxRecDepth 100000
set_option maxHeartbeats 4000000
set_option pp.maxSteps 3000
set_option exponentiation.threshold 500000
namespace K32
open PySem PySem.Spec PyProof.Rows L2 Dr Xv LamX Ps Gn
section
variable {P : Program} {w : World} {K : PySem.W.Frag} {mg : Str → Option Value} {base : Heap}
def facs : List (Int × Int) := [(2, -24), (4, 240), (6, -504)]
/-! ### eisenstein_series -/
def sp_eisenstein_series : Sp := fun vs H Q _ => ∃ (w0 c : Int) (e N : Nat), vs = [.int w0, .int (N : Int)] ∧ valI facs w0 = some c ∧ w0 = (e : Int) + 1 ∧ e ≤ 5 ∧ c.natAbs ≤ 1000 ∧ 1 ≤ N ∧ N ≤ 3001 ∧
  ∀ (p : Addr) (H' : Hp), H p = none → Same H H' → H' p = some (.lst (rowOf N (eS c e (N - 1)))) → Q (.ref p) H'
theorem Ev_low' {n k : Nat} (h : k < n) : Ev n k = 0 := by
  unfold Ev
  rw [if_neg]
  rintro ⟨z, d⟩
  have := Nat.le_of_dvd (by omega) d
  omega
theorem ok_eisenstein_series (M : Mod P w K mg base) : FnOk P w K mg base CX0 2 M.f_eisenstein_series M.d_eisenstein_series ["weight", "size"] sp_eisenstein_series := by
  refine M.F_eisenstein_series.ok sc_eisenstein_series (fun vs H Q E h => ?_) (fun cdv A outer s H vs Q E hr h => ?_)
  · obtain ⟨w0, c, e, N, rfl, _⟩ := h
    rfl
  · obtain ⟨w0, c, e, N, rfl, hf, ew, he, hc, N1, N2, q⟩ := h
    refine ⟨_, PSs.nox (pss_cons (ps_set (i := 2) sc_eisenstein_series.nd rfl (Or.inl rfl) (pe_op op_cat (pe_lst (pa_cons pe_int pa_nil)) (pe_op op_rep (pe_lst (pa_cons pe_int pa_nil)) (pe_op op_sub (pv 1) pe_int))))
      (pss_cons (ps_for PassesOwn.never rfl (pi_range2 (by rfl) M.range0 (pa_cons pe_int (pa_cons (pv 1) pa_nil))) (pg_name (i := 3) sc_eisenstein_series.nd rfl (Or.inl rfl)) 
        (pss_cons (ps_set (i := 4) sc_eisenstein_series.nd rfl (Or.inl rfl) (pe_op op_mul (pe_ix ix_kdi (pe_glob (v := .ref M.a_FACTORS) rfl M.g_FACTORS rfl) (pv 0) (fun _ _ => rfl)) (pe_call (ok_power_of M) (hr.mono (by decide)) rfl M.g_power_of M.k_power_of M.b_power_of .nil pass0 (pa_cons (pv 3) (pa_cons (pe_op op_sub (pv 0) pe_int) pa_nil)))))
        (pss_one (ps_for PassesOwn.never rfl (pi_range3 (by rfl) M.range0 (pa_cons (pv 3) (pa_cons (pv 1) (pa_cons (pv 3) pa_nil)))) (pg_name (i := 5) sc_eisenstein_series.nd rfl (Or.inl rfl)) 
          (pss_one (ps_augS (pv 2) (pv 5) get_list (pv 4) ip_add set_list))))))
      (pss_one (ps_ret (pv 2))))), ?_⟩
    have eN : (N : Int) - 1 = ((N - 1 : Nat) : Int) := by omega
    refine ⟨(by show 1 ≤ sizeLine; decide), fun p1 h1 => ⟨(by show 1 ≤ sizeLine; decide), fun p2 h2 => ?_⟩⟩
    have k1 := same_new (o := .lst [V.int 1]) h1
    have k2 := same_new (o := .lst [V.int 0]) h2
    refine ⟨_, rfl, _, _, rfl, rfl, p2, _, _, rfl, rfl, upd_same, by omega, by omega, ?_, fun p3 h3 => ?_⟩
    · show 1 * _ ≤ sizeLine
      rw [sizeLine_eq]
      omega
    have k3 := same_new (o := .lst (List.replicate ((N : Int) - 1).toNat [V.int 0]).flatten) h3
    refine ⟨p1, p3, [V.int 1], zer (N - 1), rfl, rfl, (k2.trans k3) _ _ upd_same, ?_, ?_, fun p4 h4 => ?_⟩
    · show (upd _ p3 (.lst (List.replicate ((N : Int) - 1).toNat [V.int 0]).flatten)) p3 = _
      rw [upd_same, rep1, eN, Int.toNat_natCast]
      rfl
    · show 1 + (List.replicate _ _).length ≤ sizeLine
      rw [List.length_replicate, sizeLine_eq]
      omega
    have s0 := k1.trans (k2.trans k3)
    have hp4 : H p4 = none := s0.free h4
    have s4 := s0.trans (same_new (o := .lst ([V.int 1] ++ zer (N - 1))) h4)
    have e4 : (upd (upd (upd (upd H p1 (.lst [V.int 1])) p2 (.lst [V.int 0])) p3 (.lst (List.replicate ((N : Int) - 1).toNat [V.int 0]).flatten)) p4 (.lst ([V.int 1] ++ zer (N - 1)))) p4 = some (.lst (rowOf N (eS c e 0))) := by
      rw [upd_same]
      have ez : eS c e 0 = one := by
        funext n
        show one n + 0 = one n
        omega
      rw [ez, row_one N1]
      rfl
    generalize upd (upd (upd (upd H p1 (.lst [V.int 1])) p2 (.lst [V.int 0])) p3 (.lst (List.replicate ((N : Int) - 1).toNat [V.int 0]).flatten)) p4 (.lst ([V.int 1] ++ zer (N - 1))) = H4 at s4 e4 ⊢
    clear h1 h2 h3 h4 k1 k2 k3 s0
    refine ⟨_, rfl, 1, (N : Int), rfl, ⟨by decide, by decide, by omega, by omega⟩, ?_⟩
    refine for_range (lo := 1) (n := ((N : Int) - 1).toNat) (fun i σ H' => ∃ x3 x4 x5, σ = [some (.int w0), some (.int (N : Int)), some (.ref p4), x3, x4, x5] ∧ H' p4 = some (.lst (rowOf N (eS c e i))) ∧ SameO p4 H4 H') ⟨_, _, _, rfl, e4, SameO.refl⟩ ?_ ?_
    · rintro i σ H5 hi ⟨x3, x4, x5, rfl, h5, so⟩
      have ec : (1 + (i : Int)) = ((i + 1 : Nat) : Int) := by omega
      rw [ec]
      have hb : (((i + 1 : Nat) : Int)).natAbs < 2 ^ 40 := by
        have e40 : (2 : Nat) ^ 40 = 1099511627776 := by decide
        omega
      refine ⟨_, rfl, M.a_FACTORS, facs, w0, c, rfl, rfl, M.K_FACTORS, hf, ?_⟩
      refine ⟨_, rfl, _, rfl, _, _, rfl, rfl, ((i + 1 : Nat) : Int), e, ?_, hb, by omega, _, _, rfl, rfl, .inl ⟨by omega, by omega⟩, ?_⟩
      · show [_, V.int (w0 - 1)] = _
        rw [ew]
        congr 3
        omega
      refine ⟨_, rfl, _, rfl, _, rfl, _, _, _, _, rfl, rg_up (a := i + 1) (b := N) (d := i + 1) (by omega) (by omega) (by omega) (by omega), ?_⟩
      obtain ⟨v, ev⟩ : ∃ v, v = c * ((i + 1 : Nat) : Int) ^ e := ⟨_, rfl⟩
      have estep : ∀ k, eS c e (i + 1) k = eS c e i k + v * Ev (i + 1) k := fun k => by
        show one k + (sm _ i + c * ((i + 1 : Nat) : Int) ^ e * Ev (i + 1) k) = _
        rw [ev, ← Int.add_assoc]
        rfl
      refine for_rangeC (fun j σ H' => ∃ x5, σ = [some (.int w0), some (.int (N : Int)), some (.ref p4), some (.int ((i + 1 : Nat) : Int)), some (.int v), x5] ∧
          H' p4 = some (.lst (rowOf N fun k => eS c e i k + (if k < (i + 1) + j * (i + 1) then v * Ev (i + 1) k else 0))) ∧ SameO p4 H4 H') ⟨x5, by rw [ev]; rfl, ?_, so⟩ ?_ ?_
      · rw [h5]
        congr 2
        refine row_ext fun k _ => ?_
        split
        · rw [Ev_low' (by omega), Int.mul_zero, Int.add_zero]
        · rw [Int.add_zero]
      · rintro j σ H6 hj ⟨x5, rfl, h6, so6⟩
        have hj2 := (lt_upN (by omega)).mp hj
        obtain ⟨n, en⟩ : ∃ n, n = (i + 1) + j * (i + 1) := ⟨_, rfl⟩
        have ei : ((i + 1 : Nat) : Int) + (j : Int) * ((i + 1 : Nat) : Int) = (n : Int) := by
          rw [en]
          push_cast
          rfl
        rw [ei]
        rw [← en] at hj2
        refine ⟨_, rfl, _, rfl, p4, _, _, _, rfl, rfl, SqL.of h6, row_val hj2, _, rfl, _, _, rfl, rfl, p4, _, _, _, rfl, rfl, h6, row_at hj2, _, rfl, ?_, so6.trans .put⟩
        rw [upd_same]
        congr 2
        have dn : (i + 1) ∣ n := ⟨1 + j, by rw [en, Nat.add_comm 1 j, Nat.mul_comm (i + 1) (j + 1), Nat.add_mul j 1, Nat.one_mul]; exact Nat.add_comm _ _⟩
        refine row_set hj2 ?_ fun k hk hne => ?_
        · show _ + (if n < (i + 1) + (j + 1) * (i + 1) then _ else 0) = _
          rw [if_pos (by rw [Nat.add_mul]; omega), ← en, if_neg (Nat.lt_irrefl _)]
          have z : Ev (i + 1) n = 1 := by
            unfold Ev
            rw [if_pos ⟨by omega, dn⟩]
          rw [z, Int.mul_one, Int.add_zero]
        · show _ + (if k < (i + 1) + (j + 1) * (i + 1) then _ else 0) = _ + (if k < (i + 1) + j * (i + 1) then _ else 0)
          by_cases q1 : k < (i + 1) + j * (i + 1)
          · rw [if_pos q1, if_pos (by rw [Nat.add_mul]; omega)]
          · rw [if_neg q1]
            by_cases q2 : k < (i + 1) + (j + 1) * (i + 1)
            · rw [if_pos q2]
              have z : Ev (i + 1) k = 0 := by
                unfold Ev
                rw [if_neg]
                rintro ⟨_, dk⟩
                have d2 := Nat.dvd_sub dk dn
                have := Nat.le_of_dvd (by omega) d2
                rw [Nat.add_mul] at q2
                omega
              rw [z, Int.mul_zero]
            · rw [if_neg q2]
      · rintro σ H6 ⟨x5, rfl, h6, so6⟩
        refine ⟨_, _, _, rfl, ?_, so6⟩
        rw [h6]
        congr 2
        refine row_ext fun k hk => ?_
        rw [estep, if_pos]
        have z : ¬ (i + 1 + upN (i + 1) N (i + 1) * (i + 1) < N) := fun z => Nat.lt_irrefl _ ((lt_upN (by omega)).mpr z)
        omega
    · rintro σ H5 ⟨x3, x4, x5, rfl, h5, so⟩
      have e9 : ((N : Int) - 1).toNat = N - 1 := by omega
      rw [e9] at h5
      exact ⟨_, rfl, q p4 H5 hp4 (so.back s4 hp4) h5⟩
/-! ### eisenstein_row -/
def okW (x : V) : Bool := match x with
  | .int i => (valI facs i).isSome
  | _ => false
def sp_eisenstein_row (cW cM : Addr) : Sp := fun vs H Q E => ∃ x y : V, vs = [x, y] ∧ PV H x ∧ PV H y ∧ (okW x = false → E (.ref cW) none H) ∧ (okW x = true → within y 0 3000 = false → E (.ref cM) none H) ∧
  (∀ (w0 c : Int) (e m : Nat), x = .int w0 → y = .int (m : Int) → valI facs w0 = some c → w0 = (e : Int) + 1 → e ≤ 5 → c.natAbs ≤ 1000 → m ≤ 3000 →
    ∀ (p : Addr) (H' : Hp), H p = none → Same H H' → H' p = some (.lst (rowOf (m + 1) (er c e))) → Q (.ref p) H')
theorem facs_some {i c : Int} (h : valI facs i = some c) : ∃ e : Nat, i = (e : Int) + 1 ∧ e ≤ 5 ∧ c.natAbs ≤ 1000 := by
  unfold valI facs at h
  rw [List.find?_cons] at h
  split at h
  · rename_i z
    have z2 := of_decide_eq_true z
    cases h
    exact ⟨1, z2.symm, by decide, by decide⟩
  rw [List.find?_cons] at h
  split at h
  · rename_i z
    have z2 := of_decide_eq_true z
    cases h
    exact ⟨3, z2.symm, by decide, by decide⟩
  rw [List.find?_cons] at h
  split at h
  · rename_i z
    have z2 := of_decide_eq_true z
    cases h
    exact ⟨5, z2.symm, by decide, by decide⟩
  cases h
theorem ok_eisenstein_row (M : Mod P w K mg base) : FnOk P w K mg base (L2.CX P w) 4 M.f_eisenstein_row M.d_eisenstein_row ["weight", "most"] (sp_eisenstein_row M.a_BadWeight M.a_BadMost) := by
  refine M.F_eisenstein_row.ok sc_eisenstein_row (fun vs H Q E h => ?_) (fun cdv A outer s H vs Q E hr h => ?_)
  · obtain ⟨x, y, rfl, _⟩ := h
    rfl
  · obtain ⟨x, y, rfl, hx, hy, q1, q2, q3⟩ := h
    refine ⟨_, (C8.pss_cut (ps_if (PW.pt (pw_or (pt_not (pt_val (pe_call (ok_is_number M) (hr.mono (by decide)) rfl M.g_is_number M.k_is_number M.b_is_number .nil pass0 (pa_cons (pv 0) pa_nil)))) (pw_or1 (pt_cmpR op_notIn_kdi (pv 0) (pe_glob (v := .ref M.a_FACTORS) rfl M.g_FACTORS rfl) (by rfl))))) 
        (pss_one (ps_raise rfl (takes_of rfl rfl rfl rfl) (pmk_own PySem.F.excBase_ValueError M.E_BadWeight.x M.g_BadWeight M.E_BadWeight.k (raises_own M.E_BadWeight.b M.E_BadWeight.t) rfl))) pss_nil)
      (pss_cons (ps_expr (pe_call (ok_check_most M) (hr.mono (by decide)) rfl M.g_check_most M.k_check_most M.b_check_most .nil (passes_call (takes_of rfl rfl rfl rfl) (fun _ _ _ _ h => h)) (pa_cons (pv 1) pa_nil)))
      (PSs.nox 
      (pss_one (ps_ret (pe_call (ok_eisenstein_series M) (hr.mono (by decide)) rfl M.g_eisenstein_series M.k_eisenstein_series M.b_eisenstein_series .nil pass0 (pa_cons (pv 0) (pa_cons (pe_op op_add (pv 1) pe_int) pa_nil)))))))), ?_⟩
    refine ⟨fun σ' H' => σ' = [some x, some y] ∧ H' = H ∧ okW x = true, ?_, ?_⟩
    · refine ⟨_, rfl, x, rfl, hx, isNum x, rfl, ?_⟩
      cases x with
      | int i =>
        refine iteF ?_
        refine ⟨_, rfl, M.a_FACTORS, facs, i, rfl, rfl, M.K_FACTORS, _, rfl, ?_⟩
        have e0 : okW (.int i) = (valI facs i).isSome := rfl
        cases hv : (valI facs i).isSome with
        | true => exact iteF ⟨rfl, rfl, by rw [e0, hv]⟩
        | false => exact iteT (q1 (by rw [e0, hv]))
      | _ => exact iteT (q1 rfl)
    · rintro σ1 H1 ⟨rfl, rfl, hw⟩
      refine ⟨_, rfl, y, rfl, hy, fun hwy => ?_, fun hwy => q2 hw hwy⟩
      have hi : ∃ i, x = .int i := by
        cases x with
        | int i => exact ⟨i, rfl⟩
        | _ => cases hw
      obtain ⟨i, rfl⟩ := hi
      have e0 : okW (.int i) = (valI facs i).isSome := rfl
      rw [e0] at hw
      obtain ⟨c, hc⟩ := Option.isSome_iff_exists.mp hw
      obtain ⟨e, he, he5, hc2⟩ := facs_some hc
      obtain ⟨z, rfl, z0, z1⟩ := within_int hwy
      obtain ⟨m, rfl⟩ : ∃ m : Nat, z = (m : Int) := ⟨z.toNat, by omega⟩
      refine ⟨_, rfl, _, rfl, _, _, rfl, rfl, i, c, e, m + 1, rfl, hc, he, he5, hc2, by omega, by omega, fun p H2 hp s2 e2 => ?_⟩
      refine q3 i c e m rfl rfl hc he he5 hc2 (by omega) p H2 hp s2 ?_
      rw [e2]
      congr 2
      exact row_ext fun k hk => eS_er c e _ k (by omega)
end
end K32

set_option Elab.async false
set_option linter.all false
set_option maxRecDepth 100000
set_option maxHeartbeats 4000000
set_option pp.maxSteps 3000
set_option exponentiation.threshold 500000
namespace K32
open PySem PySem.Spec PyProof.Rows L2 Dr Xv LamX Ps Gn
section
variable {P : Program} {w : World} {K : PySem.W.Frag} {mg : Str → Option Value} {base : Heap}
abbrev XL (P : Program) (w : World) (K : PySem.W.Frag) (mg : Str → Option Value) (base : Heap) (f c : Addr) (A : Around) (outer : List Env) (s : Shared) (H : Hp) (E : XK) : Cx := (cxOf CX0 P w K mg base N_law "law" (defScope s_law) f (.ref c) A outer s H E).nox
/-- _law_caught(lambda: body) -/
theorem pe_law {f c Pt : Addr} {A : Around} {outer : List Env} {s : Shared} {H : Hp} {E : XK} {body : Expr} {scope : Scope} {t : XK → TE} {k : Nat} {p lpos pos : Pos} (M : Mod P w K mg base) (TB : TabB base mg c Pt) (hr : Room (k + 2) (XL P w K mg base f c A outer s H E).A) (L : lamSB (defScope s_law) scope = true)
    (hg : Gl (XL P w K mg base f c A outer s H E) "_law_caught")
    (hbody : ∀ (A' : Around) (outer' : List Env) (s' : Shared) (H' : Hp) (E' : XK) (f' c' : Addr), Room k (A'.deeper (lamEnv (XL P w K mg base f c A outer s H E) scope s'.heap.objs.size f' c')) → PE (lamCx (XL P w K mg base f c A outer s H E) A' outer' s' H' E' scope f' c') body (t E')) :
    PE (XL P w K mg base f c A outer s H E) (.Call (.Name "_law_caught" p) [.Lambda noArgs body scope lpos] [] pos) (tLam [(Pt, qL)] (TCaught K M.a_SeriesError) t) := by
  obtain ⟨oc, od, dV, kV, doc, pm, an, cdv, ct, osl, e, lk, hcd, hD, hK⟩ := M.F__law_caught.ex
  have bC : L2.Binds K M.d__law_caught ["work"] [] := M.b__law_caught
  rw [e] at lk bC
  exact pe_lamcall (X := XL P w K mg base f c A outer s H E) (T := [(Pt, qL)]) (a := "work") hg M.g__law_caught M.k__law_caught lk hcd bC sc__law_caught rfl (Or.inl rfl)
    (caught_gives sc__law_caught rfl rfl rfl rfl M.g_SeriesError) TB rfl (List.mem_singleton.mpr rfl) (fun p hp _ => by rw [List.mem_singleton.mp hp]; rfl) hr (lamS_by L) rfl (fun _ _ _ _ _ => rfl) hbody

end
end K32

set_option Elab.async false
set_option linter.all false
set_option maxRecDepth 100000
set_option maxHeartbeats 4000000
set_option pp.maxSteps 3000
set_option exponentiation.threshold 500000
namespace K32
open PySem PySem.Spec PyProof.Rows L2 Dr Xv LamX Ps Gn
def forBody : Stmt → List Stmt
  | .For _ _ b _ _ => b
  | _ => []
abbrev lapB : List Stmt := forBody ((defBody s_law).getD 1 (.Pass ⟨0, 0, 0, 0⟩))
abbrev tailB : List Stmt := (defBody s_law).drop 2
/-- the law's slots: the draw is known -/
def Slots (a d : Addr) (σ : L2.St) : Prop := ∃ x2 x3 x4 x5 x6 x7 x8 x9 x10 x11 x12 x13 x14 x15, σ = [some (.ref a), some (.ref d), x2, x3, x4, x5, x6, x7, x8, x9, x10, x11, x12, x13, x14, x15]
theorem use_ds {cN : Addr} {H : Hp} {Q : VK} {E : XK} {n k : Nat} (h1 : 1 ≤ n) (h2 : n ≤ 999999) (h3 : k ≤ 11) (q : ∀ H', Same H H' → Q (.int (DV n k)) H') : sp_divisor_sum cN [.int (n : Int), .int (k : Int)] H Q E := by
  refine ⟨_, _, rfl, .int _, .int _, fun z => ?_, fun _ z => ?_, fun n' k' e1 e2 _ _ _ => ?_⟩
  · rw [within_yes (by omega) (by omega)] at z
    cases z
  · rw [within_yes (by omega) (by omega)] at z
    cases z
  · have a1 : n = n' := by
      injection e1 with e1
      omega
    have a2 : k = k' := by
      injection e2 with e2
      omega
    subst a1
    subst a2
    exact q
section
variable {P : Program} {w : World} {K : PySem.W.Frag} {mg : Str → Option Value} {base : Heap} {f c Pt : Addr} {A : Around} {outer : List Env} {s : Shared} {H : Hp} {E : XK}
theorem lap_ok (M : Mod P w K mg base) (TB : TabB base mg c Pt) (hr : Room 9 (XL P w K mg base f c A outer s H E).A) :
    ∃ t, PSs (XL P w K mg base f c A outer s H E) lapB t ∧ ∀ (D : Ends) (σ : L2.St) (H0 : Hp) (os : List (Addr × HO)) (a d l cc : Addr), Slots a d σ → Sta Pt H0 d l cc os → (∀ σ' H', Slots a d σ' → Sta Pt H' d l cc os → D.nx σ' H') → t D σ H0 := by
  have hrL : Room 8 (XL P w K mg base f c A outer s H E).A := hr.mono (by decide)
  have hx : ∀ {X : Cx}, Passes (L2.CX X.prog X.w) X (fun _ _ _ => False) := fun {X} => passes_call L2.takes0 (fun _ _ _ _ z => z)
  refine ⟨_, (pss_cons (ps_par (i := 3) (j := 4) (by rfl) sc_law.nd rfl rfl (by decide) rfl rfl (pa_cons (pe_op op_add pe_int (pe_call (ok__law_take M) (hr.mono (by decide)) rfl M.g__law_take M.k__law_take M.b__law_take .nil pass0 (pa_cons (pv 1) (pa_cons (pe_call (ok__law_pick M) (hr.mono (by decide)) rfl M.g__law_pick M.k__law_pick M.b__law_pick .nil pass0 (pa_cons (pv 1) (pa_cons (pe_lst (pa_cons pe_int (pa_cons pe_int (pa_cons pe_int pa_nil)))) pa_nil))) pa_nil)))) (pa_cons (pe_call (ok__law_take M) (hr.mono (by decide)) rfl M.g__law_take M.k__law_take M.b__law_take .nil pass0 (pa_cons (pv 1) (pa_cons pe_int pa_nil))) pa_nil)) (by rfl))
      (pss_one (ps_if (PW.pt (pw_or (pt_cmpR op_ne (pe_call (ok_divisor_sum M) (hr.mono (by decide)) rfl M.g_divisor_sum M.k_divisor_sum M.b_divisor_sum .nil hx (pa_cons (pv 3) (pa_cons (pv 4) pa_nil))) (pe_call (ok__law_by_pairs M) (hr.mono (by decide)) rfl M.g__law_by_pairs M.k__law_by_pairs M.b__law_by_pairs .nil pass0 (pa_cons (pv 3) (pa_cons (pv 4) pa_nil))) (nomark _)) (pw_or1 (pt_cmpR op_ne (pe_callK0 (ok_divisor_sum M) (hr.mono (by decide)) rfl M.g_divisor_sum M.k_divisor_sum M.h_divisor_sum hx (pk_cons (pv 4) (pk_cons (pv 3) pk_nil))) (pe_call (ok__law_by_pairs M) (hr.mono (by decide)) rfl M.g__law_by_pairs M.k__law_by_pairs M.b__law_by_pairs .nil pass0 (pa_cons (pv 3) (pa_cons (pv 4) pa_nil))) (nomark _))))) 
        (pss_one (ps_ret pe_bl)) pss_nil))), ?_⟩
  rintro D σ H0 os a d l cc ⟨x2, x3, x4, x5, x6, x7, x8, x9, x10, x11, x12, x13, x14, x15, rfl⟩ S0 fin
  have h3 : ∀ {v : V}, v ∈ [V.int 12, V.int 200, V.int 999999] → ∃ b : Int, v = .int b ∧ 0 < b ∧ b ≤ 999999 ∧ b.natAbs.log2 < 9000 := fun hv => by
    simp only [List.mem_cons, List.not_mem_nil, or_false] at hv
    rcases hv with rfl | rfl | rfl
    · exact ⟨_, rfl, by decide, by decide, by decide⟩
    · exact ⟨_, rfl, by decide, by decide, by decide⟩
    · exact ⟨_, rfl, by decide, by decide, by decide⟩
  refine ⟨_, rfl, _, rfl, (by show 3 ≤ sizeLine; decide), fun z hz => ?_⟩
  have S1 := S0.newL (xs := [.int 12, .int 200, .int 999999]) hz
  refine ⟨d, l, cc, z, [.int 12, .int 200, .int 999999], rfl, S1.dr, fun H' s' => SqL.of (S1.gx 0 rfl s'), by simp, (by show 3 ≤ 1000; decide), fun v H1 hv D1 s1 => ?_⟩
  have S2 := (S1.sx s1 D1).tl
  obtain ⟨b, rfl, b0, b1, b2⟩ := h3 hv
  refine ⟨d, l, cc, b, rfl, S2.dr, b0, b2, fun v H2 v0 v1 D2 s2 => ?_⟩
  have S3 := S2.sx s2 D2
  refine ⟨_, _, rfl, rfl, _, rfl, d, l, cc, 12, rfl, S3.dr, by decide, by decide, fun kk H3 k0 k1 D3 s3 => ?_⟩
  have S4 := S3.sx s3 D3
  clear S0 S1 S2 S3 hv hz s1 s2 s3 D1 D2 D3
  obtain ⟨n, en⟩ : ∃ n : Nat, 1 + v = (n : Int) := ⟨(1 + v).toNat, by omega⟩
  obtain ⟨k, rfl⟩ : ∃ k : Nat, kk = (k : Int) := ⟨kk.toNat, by omega⟩
  have n1 : 1 ≤ n := by omega
  have n2 : n ≤ 999999 := by omega
  have hk : k ≤ 11 := by omega
  refine ⟨_, _, rfl, ?_⟩
  dsimp only
  rw [en]
  refine ⟨_, rfl, _, rfl, tn <| use_ds n1 n2 hk fun H4 s4 => ?_⟩
  have S5 := S4.same s4
  refine ⟨_, rfl, _, rfl, n, k, rfl, n1, by omega, by omega, fun H5 s5 => ?_⟩
  have S6 := S5.same s5
  refine ⟨rfl, _, rfl, iteF' (by simp) ?_⟩
  refine ⟨_, rfl, _, rfl, tn <| use_ds n1 n2 hk fun H6 s6 => ?_⟩
  have S7 := S6.same s6
  refine ⟨_, rfl, _, rfl, n, k, rfl, n1, by omega, by omega, fun H7 s7 => ?_⟩
  have S8 := S7.same s7
  refine ⟨rfl, _, rfl, iteF' (by simp) ?_⟩
  exact fin _ _ ⟨_, _, _, _, _, _, _, _, _, _, _, _, _, _, rfl⟩ S8
end
end K32

set_option Elab.async false
set_option linter.all false
set_option maxRecDepth 1000000
set_option maxHeartbeats 0
namespace Ps
theorem eight_ok : ∀ n, n < 110 → 1 ≤ n → cv (er 240 3) (er 240 3) n = 480 * DV n 7 := by decide +kernel
theorem ten_ok : ∀ n, n < 110 → 1 ≤ n → cv (er 240 3) (er (-504) 5) n = -264 * DV n 9 := by decide +kernel
theorem er_b1 : ∀ n, n < 110 → (er 240 3 n).natAbs < 2 ^ 100 := by decide +kernel
theorem er_b2 : ∀ n, n < 110 → (er (-504) 5 n).natAbs < 2 ^ 100 := by decide +kernel
end Ps

set_option Elab.async false
set_option linter.all false
set_option maxRecDepth 100000
set_option maxHeartbeats 4000000
set_option pp.maxSteps 3000
set_option exponentiation.threshold 500000
namespace K32
open PySem PySem.Spec PyProof.Rows L2 Dr Xv LamX Ps Gn
abbrev rowB : List Stmt := forBody ((defBody s_law).getD 4 (.Pass ⟨0, 0, 0, 0⟩))
theorem use_sig {H : Hp} {Q : VK} {E : XK} {ni ki : Int} (n k : Nat) (e1 : ni = (n : Int)) (e2 : ki = (k : Int)) (h1 : n ≤ 3000) (h2 : k ≤ 64) (q : Q (.int (sgm n k)) H) : sp__law_sigma [.int ni, .int ki] H Q E := by
  subst e1
  subst e2
  exact ⟨n, k, rfl, h1, h2, q⟩
theorem use_er {cW cM : Addr} {H : Hp} {Q : VK} {E : XK} {w0 c : Int} {e m : Nat} (hv : valI facs w0 = some c) (ew : w0 = (e : Int) + 1) (he : e ≤ 5) (hc : c.natAbs ≤ 1000) (hm : m ≤ 3000)
    (q : ∀ (p : Addr) (H' : Hp), H p = none → Same H H' → H' p = some (.lst (rowOf (m + 1) (er c e))) → Q (.ref p) H') : sp_eisenstein_row cW cM [.int w0, .int (m : Int)] H Q E := by
  refine ⟨_, _, rfl, .int _, .int _, fun z => ?_, fun _ z => ?_, fun w' c' e' m' e1 e2 h1 h2 _ _ _ => ?_⟩
  · have z2 : okW (.int w0) = (valI facs w0).isSome := rfl
    rw [z2, hv] at z
    cases z
  · rw [within_yes (by omega) (by omega)] at z
    cases z
  · have a1 : w0 = w' := by
      injection e1
    have a2 : m = m' := by
      injection e2 with e2
      omega
    subst a1
    subst a2
    rw [hv] at h1
    have a3 : c = c' := by
      injection h1
    have a4 : e = e' := by omega
    subst a3
    subst a4
    exact q
theorem row_er (c : Int) (e m : Nat) : [V.int 1] ++ rowOf m (fun k => c * sgm (k + 1) e) = rowOf (m + 1) (er c e) := by
  unfold rowOf
  rw [List.range_succ_eq_map, List.map_cons, List.map_cons, List.map_map, List.map_map, List.map_map]
  rfl
theorem Sta.put' {Pt d l c p : Addr} {H : Hp} {kvs kvs' : List (Key × V)} {os : List (Addr × HO)} (S : Sta Pt H d l c ((p, .dK kvs) :: os)) : Sta Pt (upd H p (.dK kvs')) d l c ((p, .dK kvs') :: os) := by
  obtain ⟨h1, h2, h3, h4, h5⟩ := S.O _ (List.mem_cons_self ..)
  obtain ⟨q1, q2⟩ := List.pairwise_cons.mp S.P
  have W' : Wd Pt (upd H p (.dK kvs')) d l c := by
    have W := S.W
    refine ⟨W.dr.put h2 h3 h4, fun p hp => ?_⟩
    obtain ⟨ps, g1, g2, g3⟩ := W.tb p hp
    refine ⟨ps, by rw [upd_ne (ne_of g1 h1 (fun z => by cases z))]; exact g1, g2, fun pos cv hc => ?_⟩
    obtain ⟨k, e1, e2⟩ := g3 pos cv hc
    have nk : k ≠ _ := ne_of e2 h1 (fun z => by
      unfold CodeO at z
      cases z)
    exact ⟨k, e1, by rw [upd_ne nk]; exact e2⟩
  refine ⟨W', fun x hx => ?_, List.pairwise_cons.mpr ⟨q1, q2⟩⟩
  rcases List.mem_cons.mp hx with rfl | hx
  · exact ⟨upd_same, h2, h3, h4, fun _ z => nomatch z⟩
  · have z := S.O x (List.mem_cons_of_mem _ hx)
    exact ⟨by rw [upd_ne (q1 x hx).symm]; exact z.1, z.2⟩
theorem Sta.swap {Pt d l c : Addr} {H : Hp} {x y : Addr × HO} {os : List (Addr × HO)} (S : Sta Pt H d l c (x :: y :: os)) : Sta Pt H d l c (y :: x :: os) :=
  ⟨S.W, fun z hz => S.O z (by
    rcases List.mem_cons.mp hz with rfl | hz
    · exact List.mem_cons_of_mem _ (List.mem_cons_self ..)
    · rcases List.mem_cons.mp hz with rfl | hz
      · exact List.mem_cons_self ..
      · exact List.mem_cons_of_mem _ (List.mem_cons_of_mem _ hz)), by
    obtain ⟨q1, q2⟩ := List.pairwise_cons.mp S.P
    obtain ⟨q3, q4⟩ := List.pairwise_cons.mp q2
    exact List.pairwise_cons.mpr ⟨fun z hz => by
      rcases List.mem_cons.mp hz with rfl | hz
      · exact (q1 _ (List.mem_cons_self ..)).symm
      · exact q3 z hz, List.pairwise_cons.mpr ⟨fun z hz => q1 z (List.mem_cons_of_mem _ hz), q4⟩⟩⟩
section
variable {P : Program} {w : World} {K : PySem.W.Frag} {mg : Str → Option Value} {base : Heap} {f c Pt : Addr} {A : Around} {outer : List Env} {s : Shared} {H : Hp} {E : XK}
theorem row_ok (M : Mod P w K mg base) (TB : TabB base mg c Pt) (hr : Room 9 (XL P w K mg base f c A outer s H E).A) :
    ∃ t, PSs (XL P w K mg base f c A outer s H E) rowB t ∧ ∀ (D : Ends) (ra d l cc Dk : Addr) (m e : Nat) (w0 cf : Int) (kvs : List (Key × V)) (os : List (Addr × HO)) (H0 : Hp) (x2 x3 x4 x9 x10 x11 x12 x13 x14 x15 : Option V),
      valI facs w0 = some cf → w0 = (e : Int) + 1 → e ≤ 5 → cf.natAbs ≤ 1000 → m ≤ 109 → kvs.length ≤ 10 → (∀ v, valV (putK kvs (.inl w0) v) (.inl w0) = some v) → Sta Pt H0 d l cc ((Dk, .dK kvs) :: os) →
      (∀ x3 p H', Sta Pt H' d l cc ((Dk, .dK (putK kvs (.inl w0) (.ref p))) :: (p, .lst (rowOf (m + 1) (er cf e))) :: os) →
        D.nx [some (.ref ra), some (.ref d), x2, x3, x4, some (.int (m : Int)), some (.ref Dk), some (.int w0), some (.int cf), x9, x10, x11, x12, x13, x14, x15] H') →
      t D [some (.ref ra), some (.ref d), x2, x3, x4, some (.int (m : Int)), some (.ref Dk), some (.int w0), some (.int cf), x9, x10, x11, x12, x13, x14, x15] H0 := by
  have hrL : Room 8 (XL P w K mg base f c A outer s H E).A := hr.mono (by decide)
  have hx : ∀ {X : Cx}, Passes (L2.CX X.prog X.w) X (fun _ _ _ => False) := fun {X} => passes_call L2.takes0 (fun _ _ _ _ z => z)
  have hu := hu_of hr
  refine ⟨_, (pss_cons (ps_dput hu (pv 6) (pv 7) (pe_op op_cat (pe_lst (pa_cons pe_int pa_nil)) (pe_lc (own := [("n", 3)]) (g := (gName 3)) (by rfl) sc_law.nd (pi_range2 (by rfl) M.range0 (pa_cons pe_int (pa_cons (pe_op op_add (pv 5) pe_int) pa_nil))) (blkOk_by (own := [("n", 3)]) (N := N_law) (sc := defScope s_law) (by decide +kernel))
        (fun _ _ _ _ _ => (pg_name (i := 3) sc_law.nd rfl (Or.inl rfl))) (fun _ _ _ _ _ => pts_nil) (fun _ _ _ _ _ => (pe_op op_mul (pv 8) (pe_call (ok__law_sigma M) (hr.mono (by decide)) rfl M.g__law_sigma M.k__law_sigma M.b__law_sigma .nil pass0 (pa_cons (pv 3) (pa_cons (pe_op op_sub (pv 7) pe_int) pa_nil))))))) rfl)
      (pss_one (ps_if (PW.pt (pw_or (pt_cmpR (op_neD hr.units) (pe_call (ok_eisenstein_row M) (hr.mono (by decide)) rfl M.g_eisenstein_row M.k_eisenstein_row M.b_eisenstein_row .nil hx (pa_cons (pv 7) (pa_cons (pv 5) pa_nil))) (pe_dget hu (pv 6) (pv 7) (fun _ _ => rfl)) (nomark _)) (pw_or1 (pt_cmpR (op_neD hr.units) (pe_callK0 (ok_eisenstein_row M) (hr.mono (by decide)) rfl M.g_eisenstein_row M.k_eisenstein_row M.h_eisenstein_row hx (pk_cons (pv 5) (pk_cons (pv 7) pk_nil))) (pe_dget hu (pv 6) (pv 7) (fun _ _ => rfl)) (nomark _))))) 
        (pss_one (ps_ret pe_bl)) pss_nil))), ?_⟩
  rintro D ra d l cc Dk m e w0 cf kvs os H0 x2 x3 x4 x9 x10 x11 x12 x13 x14 x15 hv ew he hc hm hl hg S0 fin
  refine ⟨(by show 1 ≤ sizeLine; decide), fun p1 h1 => ⟨_, rfl, _, _, rfl, rfl, 1, _, rfl, ⟨by decide, by decide, by omega, by omega⟩, fun p2 h2 => ?_⟩⟩
  have S1 := S0.newL (xs := [V.int 1]) h1
  generalize upd H0 p1 (.lst [V.int 1]) = H1 at S1 h2 ⊢
  clear S0 h1
  refine lc_range (lo := 1) (n := ((m : Int) + 1 - 1).toNat) (fun i H' => H' p2 = some (.lst (rowOf i fun k => cf * sgm (k + 1) e)) ∧ Same H1 H') ⟨upd_same, same_new h2⟩ ?_ ?_
  · rintro i H2 hi ⟨e2, s2⟩
    refine ⟨rfl, yesT ⟨_, rfl, _, rfl, _, rfl, _, _, rfl, rfl, tn <| use_sig (i + 1) e (by omega) (by omega) (by omega) (by omega) ⟨_, _, rfl, rfl, .inl ⟨by omega, by omega⟩, _, e2, ?_, ?_, ?_⟩⟩⟩
    · rw [row_len, sizeLine_eq]
      omega
    · rw [upd_same, row_succ]
    · intro b' o' e'
      rw [upd_ne (ne_of_none e' h2)]
      exact s2 _ _ e'
  rintro H2 ⟨e2, s2⟩
  have em : ((m : Int) + 1 - 1).toNat = m := by omega
  rw [em] at e2
  have S2 := S1.resL h2 s2 e2
  refine ⟨p1, p2, _, _, rfl, rfl, S2.g 1 rfl, S2.g 0 rfl, ?_, fun p3 h3 => ?_⟩
  · rw [row_len, sizeLine_eq]
    show 1 + m ≤ _
    omega
  rw [row_er]
  have S3 := (((S2.newL (xs := rowOf (m + 1) (er cf e)) h3)).sub (os' := (p3, .lst (rowOf (m + 1) (er cf e))) :: (Dk, .dK kvs) :: os) (.cons₂ _ (.cons _ (.cons _ (List.Sublist.refl _)))))
  generalize upd H2 p3 (.lst (rowOf (m + 1) (er cf e))) = H3 at S3 ⊢
  clear S1 S2 h2 s2 e2 h3
  refine ⟨_, rfl, _, rfl, Dk, _, rfl, DPut.k (k := .inl w0) (S3.g 1 rfl) (by rw [sizeLine_eq]; omega), ?_⟩
  have S4 := Sta.put' (kvs' := putK kvs (.inl w0) (.ref p3)) (Sta.swap S3)
  generalize upd H3 Dk (.dK (putK kvs (.inl w0) (.ref p3))) = H4 at S4 ⊢
  clear S3
  have dg : ∀ {H' : Hp} {os' : List (Addr × HO)}, Sta Pt H' d l cc os' → (Dk, HO.dK (putK kvs (.inl w0) (.ref p3))) ∈ os' → DGet H' Dk (.int w0) (some (.ref p3)) := fun {H' os'} S h => by
    have z := DGet.k (k := .inl w0) (S.O _ h).1
    rw [hg] at z
    exact z
  refine ⟨_, rfl, _, rfl, tn <| use_er hv ew he hc (by omega) fun r H5 hr5 s5 h5 => ?_⟩
  have S5 := S4.resL hr5 s5 h5
  refine ⟨_, rfl, _, rfl, Dk, _, rfl, dg S5 (by simp), ?_⟩
  refine ⟨.list (intsD (intsOf (m + 1) (er cf e))), .list (intsD (intsOf (m + 1) (er cf e))), .lst (SqL.of (S5.g 0 rfl)) (ints_dp _), .lst (SqL.of (S5.g 2 rfl)) (ints_dp _), ints_shaped _, ints_shaped _, _, rfl, iteF' (eq_no _) ?_⟩
  refine ⟨_, rfl, _, rfl, tn <| use_er hv ew he hc (by omega) fun r6 H6 hr6 s6 h6 => ?_⟩
  have S6 := S5.resL hr6 s6 h6
  refine ⟨_, rfl, _, rfl, Dk, _, rfl, dg S6 (by simp), ?_⟩
  refine ⟨.list (intsD (intsOf (m + 1) (er cf e))), .list (intsD (intsOf (m + 1) (er cf e))), .lst (SqL.of (S6.g 0 rfl)) (ints_dp _), .lst (SqL.of (S6.g 3 rfl)) (ints_dp _), ints_shaped _, ints_shaped _, _, rfl, iteF' (eq_no _) ?_⟩
  exact fin _ _ _ S6.tl.tl
end
end K32

set_option Elab.async false
set_option linter.all false
set_option maxRecDepth 100000
set_option maxHeartbeats 4000000
set_option pp.maxSteps 3000
set_option exponentiation.threshold 500000
namespace K32
open PySem PySem.Spec PyProof.Rows L2 Dr Xv LamX Ps Gn
theorem Sta.front {Pt d l c : Addr} {H : Hp} {x : Addr × HO} {pre os : List (Addr × HO)} (S : Sta Pt H d l c (pre ++ x :: os)) : Sta Pt H d l c (x :: (pre ++ os)) :=
  ⟨S.W, fun z hz => S.O z (List.perm_middle.mem_iff.mpr hz), (List.perm_middle.pairwise_iff (fun h => Ne.symm h)).mp S.P⟩
inductive RowsI (m : Nat) : Nat → List (Key × V) → List (Addr × HO) → Prop
  | zero : RowsI m 0 [] []
  | one (p : Addr) : RowsI m 1 [(.inl 2, .ref p)] [(p, .lst (rowOf (m + 1) (er (-24) 1)))]
  | two (p q : Addr) : RowsI m 2 [(.inl 2, .ref p), (.inl 4, .ref q)] [(q, .lst (rowOf (m + 1) (er 240 3))), (p, .lst (rowOf (m + 1) (er (-24) 1)))]
  | thr (p q r : Addr) : RowsI m 3 [(.inl 2, .ref p), (.inl 4, .ref q), (.inl 6, .ref r)] [(r, .lst (rowOf (m + 1) (er (-504) 5))), (q, .lst (rowOf (m + 1) (er 240 3))), (p, .lst (rowOf (m + 1) (er (-24) 1)))]
theorem use_ds' {cN : Addr} {H : Hp} {Q : VK} {E : XK} {ni ki : Int} (n k : Nat) (e1 : ni = (n : Int)) (e2 : ki = (k : Int)) (h1 : 1 ≤ n) (h2 : n ≤ 999999) (h3 : k ≤ 11) (q : ∀ H', Same H H' → Q (.int (DV n k)) H') : sp_divisor_sum cN [.int ni, .int ki] H Q E := by
  subst e1
  subst e2
  exact use_ds h1 h2 h3 q
theorem use_tm {a b : Addr} {H : Hp} {Q : VK} {E : XK} {mi : Int} {N : Nat} {g h : S} (ha : H a = some (.lst (rowOf N g))) (hb : H b = some (.lst (rowOf N h))) (e : mi = (N : Int) - 1) (n1 : 1 ≤ N) (n2 : N ≤ 110)
    (bg : ∀ k, k < 110 → (g k).natAbs < 2 ^ 100) (bh : ∀ k, k < 110 → (h k).natAbs < 2 ^ 100) (q : ∀ (p : Addr) (H' : Hp), H p = none → Same H H' → H' p = some (.lst (rowOf N (cv g h))) → Q (.ref p) H') : sp__law_times [.ref a, .ref b, .int mi] H Q E := by
  subst e
  have bb : ∀ {g : S}, (∀ k, k < 110 → (g k).natAbs < 2 ^ 100) → ∀ i, (fnL (intsOf N g) i).natAbs < 2 ^ 400000 := fun {g} bg i => by
    by_cases h : i < N
    · rw [fnL_ints h]
      exact Nat.lt_of_lt_of_le (bg i (by omega)) (Nat.pow_le_pow_right (by decide) (by decide))
    · rw [fnL_out (by rw [len_ints]; omega)]
      exact Nat.pos_of_ne_zero (by simp)
  refine ⟨a, b, intsOf N g, intsOf N h, N, rfl, ha, hb, n1, by omega, by rw [len_ints]; exact Nat.le_refl _, by rw [len_ints]; exact Nat.le_refl _, bb bg, bb bh, fun p H' hp s h' => ?_⟩
  refine q p H' hp s ?_
  rw [h', row_ext (cv_congr (fun i hi => fnL_ints hi) (fun i hi => fnL_ints hi))]
section
variable {H : Hp} {cN cM : Addr} {Q : VK} {E : XK} {v m : V}
theorem ds_odd {y : Int} (pv : PV H v) (h : within v 1 999999 = false) (q : E (.ref cN) none H) : sp_divisor_sum cN [v, .int y] H Q E :=
  ⟨_, _, rfl, pv, .int _, fun _ => q, fun z => (by rw [h] at z; cases z), fun n k e _ h1 h2 => (by
    rw [e, within_yes (by omega) (by omega)] at h
    cases h)⟩
theorem ds_far {x : Int} (h0 : within (.int x) 1 999999 = true) (pv : PV H v) (h : within v 0 11 = false) (q : E (.ref cN) none H) : sp_divisor_sum cN [.int x, v] H Q E :=
  ⟨_, _, rfl, .int _, pv, fun z => (by rw [h0] at z; cases z), fun _ _ => q, fun n k _ e _ _ h3 => (by
    rw [e, within_yes (by omega) (by omega)] at h
    cases h)⟩
theorem er_bad {cW : Addr} (pv : PV H v) (pm : PV H m) (h : okW v = false) (q : E (.ref cW) none H) : sp_eisenstein_row cW cM [v, m] H Q E :=
  ⟨_, _, rfl, pv, pm, fun _ => q, fun z => (by rw [h] at z; cases z), fun w c e m e1 _ e2 => (by
    have z2 : okW (.int w) = (valI facs w).isSome := rfl
    rw [e1, z2, e2] at h
    cases h)⟩
theorem er_far {cW : Addr} {x : Int} (h0 : okW (.int x) = true) (pm : PV H m) (h : within m 0 3000 = false) (q : E (.ref cM) none H) : sp_eisenstein_row cW cM [.int x, m] H Q E :=
  ⟨_, _, rfl, .int _, pm, fun z => (by rw [h0] at z; cases z), fun _ _ => q, fun w c e k _ e1 _ _ _ _ h3 => (by
    rw [e1, within_yes (by omega) (by omega)] at h
    cases h)⟩
end
section
variable {P : Program} {w : World} {K : PySem.W.Frag} {mg : Str → Option Value} {base : Heap} {f c Pt : Addr} {A : Around} {outer : List Env} {s : Shared} {H : Hp} {E : XK}
theorem tail_ok (M : Mod P w K mg base) (TB : TabB base mg c Pt) (hr : Room 9 (XL P w K mg base f c A outer s H E).A) :
    ∃ t, PSs (XL P w K mg base f c A outer s H E) tailB t ∧ ∀ (D : Ends) (σ : L2.St) (H0 : Hp) (os : List (Addr × HO)) (xs : List V) (ra d l cc : Addr), Slots ra d σ → (∀ H', (∀ x ∈ os, H' x.1 = some x.2) → SqL K H' ra xs) → Sta Pt H0 d l cc os → (∀ H', D.rt (.bl true) H') → t D σ H0 := by
  have hrL : Room 8 (XL P w K mg base f c A outer s H E).A := hr.mono (by decide)
  have hx : ∀ {X : Cx}, Passes (L2.CX X.prog X.w) X (fun _ _ _ => False) := fun {X} => passes_call L2.takes0 (fun _ _ _ _ z => z)
  have hu := hu_of hr
  obtain ⟨tR, hR, rR⟩ := row_ok (f := f) (c := c) (A := A) (outer := outer) (s := s) (H := H) (E := E) M TB hr
  refine ⟨_, (pss_cons (ps_set (i := 5) sc_law.nd rfl (Or.inl rfl) (pe_call (ok__law_take M) (hr.mono (by decide)) rfl M.g__law_take M.k__law_take M.b__law_take .nil pass0 (pa_cons (pv 1) (pa_cons (pe_op op_add pe_int (pe_op op_mul pe_int (pe_callB (call_min2 rfl) (by rfl) M.min0 (by decide +kernel) (pa_cons (pe_callB call_len (by rfl) M.len0 PySem.boot_len (pa_cons (pv 0) pa_nil)) (pa_cons pe_int pa_nil))))) pa_nil))))
      (pss_cons (ps_set (i := 6) sc_law.nd rfl (Or.inl rfl) pe_dnewK)
      (pss_cons (ps_for PassesOwn.never rfl (pi_list (pe_lst (pa_cons (pe_tup (pa_cons pe_int (pa_cons (pe_un un_neg pe_int) pa_nil))) (pa_cons (pe_tup (pa_cons pe_int (pa_cons pe_int pa_nil))) (pa_cons (pe_tup (pa_cons pe_int (pa_cons (pe_un un_neg pe_int) pa_nil))) pa_nil))))) (pg_tup rfl (pgs_cons (pg_name (i := 7) sc_law.nd rfl (Or.inr rfl)) (pgs_cons (pg_name (i := 8) sc_law.nd rfl (Or.inr rfl)) pgs_nil))) hR)
      (pss_cons (ps_par (i := 9) (j := 10) (by rfl) sc_law.nd rfl rfl (by decide) rfl rfl (pa_cons (pe_call (ok__law_times M) (hr.mono (by decide)) rfl M.g__law_times M.k__law_times M.b__law_times .nil pass0 (pa_cons (pe_dget hu (pv 6) pe_int (fun _ _ => rfl)) (pa_cons (pe_dget hu (pv 6) pe_int (fun _ _ => rfl)) (pa_cons (pv 5) pa_nil)))) (pa_cons (pe_call (ok__law_times M) (hr.mono (by decide)) rfl M.g__law_times M.k__law_times M.b__law_times .nil pass0 (pa_cons (pe_dget hu (pv 6) pe_int (fun _ _ => rfl)) (pa_cons (pe_dget hu (pv 6) pe_int (fun _ _ => rfl)) (pa_cons (pv 5) pa_nil)))) pa_nil)) (by rfl))
      (pss_cons (ps_for PassesOwn.never rfl (pi_range2 (by rfl) M.range0 (pa_cons pe_int (pa_cons (pe_op op_add (pv 5) pe_int) pa_nil))) (pg_name (i := 3) sc_law.nd rfl (Or.inl rfl)) 
        (pss_one (ps_if (PW.pt (pw_or (pt_cmpR op_ne (pe_ix ix_list (pv 9) (pv 3) (fun _ _ => rfl)) (pe_op op_mul pe_int (pe_call (ok_divisor_sum M) (hr.mono (by decide)) rfl M.g_divisor_sum M.k_divisor_sum M.b_divisor_sum .nil hx (pa_cons (pv 3) (pa_cons pe_int pa_nil)))) (nomark _)) (pw_or1 (pt_cmpR op_ne (pe_ix ix_list (pv 10) (pv 3) (fun _ _ => rfl)) (pe_op op_mul (pe_un un_neg pe_int) (pe_call (ok_divisor_sum M) (hr.mono (by decide)) rfl M.g_divisor_sum M.k_divisor_sum M.b_divisor_sum .nil hx (pa_cons (pv 3) (pa_cons pe_int pa_nil)))) (nomark _))))) 
          (pss_one (ps_ret pe_bl)) pss_nil)))
      (pss_cons (ps_asg (pe_tup (pa_cons (pe_call (ok__law_pick M) (hr.mono (by decide)) rfl M.g__law_pick M.k__law_pick M.b__law_pick .nil pass0 (pa_cons (pv 1) (pa_cons (pe_lst (pa_cons pe_non (pa_cons pe_int (pa_cons (pe_un un_neg pe_int) (pa_cons pe_int (pa_cons pe_bl (pa_cons pe_str (pa_cons (pe_tup (pa_cons pe_int pa_nil)) pa_nil)))))))) pa_nil))) (pa_cons (pe_call (ok__law_pick M) (hr.mono (by decide)) rfl M.g__law_pick M.k__law_pick M.b__law_pick .nil pass0 (pa_cons (pv 1) (pa_cons (pe_lst (pa_cons pe_non (pa_cons (pe_un un_neg pe_int) (pa_cons pe_int (pa_cons pe_bl (pa_cons pe_str pa_nil)))))) pa_nil))) pa_nil))) (pg_tup rfl (pgs_cons (pg_name (i := 11) sc_law.nd rfl (Or.inr rfl)) (pgs_cons (pg_name (i := 12) sc_law.nd rfl (Or.inr rfl)) pgs_nil))))
      (pss_cons (ps_set (i := 13) sc_law.nd rfl (Or.inl rfl) (pe_lst (pa_cons (pe_callB call_isC (by rfl) M.isinstance0 boot_isinstance (pa_cons (pe_law (t := fun E' => (tCall (sp_divisor_sum M.a_BadNumber) [] E' (tCons (tVar 11) (tCons (tC (.int 1)) tNil)))) M TB hrL (by decide +kernel) rfl
          (fun A' outer' s' H' E' f' c' hr' => (pe_call (ok_divisor_sum M) (hr'.mono (by decide)) rfl M.g_divisor_sum M.k_divisor_sum M.b_divisor_sum .nil (passes_call (takes_of rfl rfl rfl rfl) (fun _ _ _ _ h => h)) (pa_cons (pv 11) (pa_cons pe_int pa_nil))))) (pa_cons (pe_glob (v := .ref M.a_BadNumber) rfl M.g_BadNumber rfl) pa_nil))) pa_nil)))
      (pss_cons (ps_expr (pe_bm PySem.F.plainAttrs_list PySem.F.slot_list_append PySem.F.type_list_append mt_append (pv 13) (pa_cons (pe_callB call_isC (by rfl) M.isinstance0 boot_isinstance (pa_cons (pe_law (t := fun E' => (tCall (sp_divisor_sum M.a_BadNumber) [] E' (tCons (tC (.int 5)) (tCons (tVar 12) tNil)))) M TB hrL (by decide +kernel) rfl
          (fun A' outer' s' H' E' f' c' hr' => (pe_call (ok_divisor_sum M) (hr'.mono (by decide)) rfl M.g_divisor_sum M.k_divisor_sum M.b_divisor_sum .nil (passes_call (takes_of rfl rfl rfl rfl) (fun _ _ _ _ h => h)) (pa_cons pe_int (pa_cons (pv 12) pa_nil))))) (pa_cons (pe_glob (v := .ref M.a_BadNumber) rfl M.g_BadNumber rfl) pa_nil))) pa_nil)))
      (pss_cons (ps_set (i := 14) sc_law.nd rfl (Or.inr rfl) (pe_call (ok__law_pick M) (hr.mono (by decide)) rfl M.g__law_pick M.k__law_pick M.b__law_pick .nil pass0 (pa_cons (pv 1) (pa_cons (pe_lst (pa_cons pe_non (pa_cons pe_int (pa_cons pe_int (pa_cons pe_int (pa_cons pe_int (pa_cons pe_int (pa_cons (pe_un un_neg pe_int) (pa_cons pe_bl (pa_cons pe_str pa_nil)))))))))) pa_nil))))
      (pss_cons (ps_expr (pe_bm PySem.F.plainAttrs_list PySem.F.slot_list_append PySem.F.type_list_append mt_append (pv 13) (pa_cons (pe_callB call_isC (by rfl) M.isinstance0 boot_isinstance (pa_cons (pe_law (t := fun E' => (tCall (sp_eisenstein_row M.a_BadWeight M.a_BadMost) [] E' (tCons (tVar 14) (tCons (tVar 11) tNil)))) M TB hrL (by decide +kernel) rfl
          (fun A' outer' s' H' E' f' c' hr' => (pe_call (ok_eisenstein_row M) (hr'.mono (by decide)) rfl M.g_eisenstein_row M.k_eisenstein_row M.b_eisenstein_row .nil (passes_call (takes_of rfl rfl rfl rfl) (fun _ _ _ _ h => h)) (pa_cons (pv 14) (pa_cons (pv 11) pa_nil))))) (pa_cons (pe_glob (v := .ref M.a_BadWeight) rfl M.g_BadWeight rfl) pa_nil))) pa_nil)))
      (pss_cons (ps_set (i := 15) sc_law.nd rfl (Or.inr rfl) (pe_call (ok__law_pick M) (hr.mono (by decide)) rfl M.g__law_pick M.k__law_pick M.b__law_pick .nil pass0 (pa_cons (pv 1) (pa_cons (pe_lst (pa_cons pe_non (pa_cons (pe_un un_neg pe_int) (pa_cons pe_int (pa_cons pe_bl (pa_cons pe_str pa_nil)))))) pa_nil))))
      (pss_cons (ps_expr (pe_bm PySem.F.plainAttrs_list PySem.F.slot_list_append PySem.F.type_list_append mt_append (pv 13) (pa_cons (pe_callB call_isC (by rfl) M.isinstance0 boot_isinstance (pa_cons (pe_law (t := fun E' => (tCall (sp_eisenstein_row M.a_BadWeight M.a_BadMost) [] E' (tCons (tC (.int 4)) (tCons (tVar 15) tNil)))) M TB hrL (by decide +kernel) rfl
          (fun A' outer' s' H' E' f' c' hr' => (pe_call (ok_eisenstein_row M) (hr'.mono (by decide)) rfl M.g_eisenstein_row M.k_eisenstein_row M.b_eisenstein_row .nil (passes_call (takes_of rfl rfl rfl rfl) (fun _ _ _ _ h => h)) (pa_cons pe_int (pa_cons (pv 15) pa_nil))))) (pa_cons (pe_glob (v := .ref M.a_BadMost) rfl M.g_BadMost rfl) pa_nil))) pa_nil)))
      (pss_one (ps_ret (pe_cmpR op_notIn_seq pe_bl (pv 13) (by rfl)))))))))))))))), ?_⟩
  rintro D σ H0 os xs ra d l cc ⟨x2, x3, x4, x5, x6, x7, x8, x9, x10, x11, x12, x13, x14, x15, rfl⟩ hS S0 q
  -- most
  have hb : ∀ n : Nat, 0 ≤ (if (5 : Int) < (n : Int) then (5 : Int) else (n : Int)) ∧ (if (5 : Int) < (n : Int) then (5 : Int) else (n : Int)) ≤ 5 := fun n => by
    by_cases h4 : (5 : Int) < (n : Int)
    · rw [if_pos h4]
      exact ⟨by decide, by decide⟩
    · rw [if_neg h4]
      omega
  obtain ⟨hb1, hb2⟩ := hb xs.length
  refine ⟨_, rfl, _, rfl, _, _, rfl, .inl ⟨_, hS _ fun x hx => (S0.O x hx).1, rfl⟩, _, _, rfl, _, _, rfl, rfl, .inl ⟨by decide, by decide⟩, _, _, rfl, rfl, d, l, cc, _, rfl, S0.dr, ?_, ?_, fun v H1 v0 v1 D1 s1 => ?_⟩
  · show 0 < 60 + 10 * _
    omega
  · show (60 + 10 * (if (5 : Int) < (xs.length : Int) then (5 : Int) else (xs.length : Int))).natAbs.log2 < 9000
    obtain ⟨n, en⟩ : ∃ n : Nat, 60 + 10 * (if (5 : Int) < (xs.length : Int) then (5 : Int) else (xs.length : Int)) = (n : Int) := ⟨(60 + 10 * (if (5 : Int) < (xs.length : Int) then (5 : Int) else (xs.length : Int))).toNat, by omega⟩
    rw [en]
    exact log_small (by omega)
  have v2 : v < 110 := by
    have z : v < 60 + 10 * (if (5 : Int) < (xs.length : Int) then (5 : Int) else (xs.length : Int)) := v1
    omega
  obtain ⟨m, rfl⟩ : ∃ m : Nat, v = (m : Int) := ⟨v.toNat, by omega⟩
  have hm : m ≤ 109 := by omega
  have S1 := S0.sx s1 D1
  clear v1 v0 s1 D1 S0 v2 hb hb1 hb2
  -- rows
  refine fun Dk hDk => ?_
  have S2 : Sta Pt (upd H1 Dk (.dK [])) d l cc ((Dk, .dK []) :: os) := S1.new hDk (fun _ z => nomatch z)
  generalize upd H1 Dk (.dK []) = H2 at S2 ⊢
  clear S1 hDk
  refine ⟨24, rfl, (by show 2 ≤ sizeLine; decide), fun t1 h1 => ⟨(by show 2 ≤ sizeLine; decide), fun t2 h2 => ⟨504, rfl, (by show 2 ≤ sizeLine; decide), fun t3 h3 => ⟨(by show 3 ≤ sizeLine; decide), fun z hz => ?_⟩⟩⟩⟩
  have S3 := (((S2.newT (xs := [V.int 2, V.int (-24)]) h1).newT (xs := [V.int 4, V.int 240]) h2).newT (xs := [V.int 6, V.int (-504)]) h3).newL (xs := [.ref t1, .ref t2, .ref t3]) hz
  generalize upd (upd (upd (upd H2 t1 _) t2 _) t3 _) z (.lst [.ref t1, .ref t2, .ref t3]) = H3 at S3 ⊢
  clear S2 h1 h2 h3 hz
  have S4 := Sta.front (pre := [_, _, _, _]) S3
  clear S3
  obtain ⟨Bs, eB⟩ : ∃ Bs : List (Addr × HO), Bs = [(z, HO.lst [V.ref t1, V.ref t2, V.ref t3]), (t3, HO.tup [V.int 6, V.int (-504)]), (t2, HO.tup [V.int 4, V.int 240]), (t1, HO.tup [V.int 2, V.int (-24)])] ++ os := ⟨_, rfl⟩
  rw [← eB] at S4
  have mz : (z, HO.lst [V.ref t1, V.ref t2, V.ref t3]) ∈ Bs := by rw [eB]; simp
  have m1 : (t1, HO.tup [V.int 2, V.int (-24)]) ∈ Bs := by rw [eB]; simp
  have m2 : (t2, HO.tup [V.int 4, V.int 240]) ∈ Bs := by rw [eB]; simp
  have m3 : (t3, HO.tup [V.int 6, V.int (-504)]) ∈ Bs := by rw [eB]; simp
  clear eB hS
  refine ⟨z, rfl, ⟨_, SqL.of (S4.O _ (List.mem_cons_of_mem _ mz)).1⟩, for_list (xs := [.ref t1, .ref t2, .ref t3]) (fun i σ H' => ∃ x3 x7 x8 kvs rs, σ = [some (.ref ra), some (.ref d), x2, x3, x4, some (.int (m : Int)), some (.ref Dk), x7, x8, x9, x10, x11, x12, x13, x14, x15] ∧ RowsI m i kvs rs ∧ Sta Pt H' d l cc ((Dk, .dK kvs) :: (rs ++ Bs))) ⟨_, _, _, _, _, rfl, .zero, S4⟩ ?_ ?_ ?_⟩
  · rintro i σ H' hi ⟨x3, x7, x8, kvs, rs, rfl, hR, S⟩
    exact SqL.of (S.O _ (List.mem_cons_of_mem _ (List.mem_append_right _ mz))).1
  · rintro i x σ H' hi ⟨x3, x7, x8, kvs, rs, rfl, hR, S⟩
    cases hR with
    | zero =>
      cases hi
      refine ⟨t1, _, rfl, SqT.of (S.O _ (List.mem_cons_of_mem _ (List.mem_append_right _ m1))).1, rfl, _, _, rfl, _, _, rfl, rfl, ?_⟩
      exact rR _ _ _ _ _ _ m 1 2 (-24) _ _ _ _ _ _ _ _ _ _ _ _ _ (by decide) (by decide) (by decide) (by decide) hm (by decide) (fun v => rfl) S fun x3 p H' S' => ⟨_, _, _, _, _, rfl, .one p, S'⟩
    | one p =>
      cases hi
      refine ⟨t2, _, rfl, SqT.of (S.O _ (List.mem_cons_of_mem _ (List.mem_append_right _ m2))).1, rfl, _, _, rfl, _, _, rfl, rfl, ?_⟩
      exact rR _ _ _ _ _ _ m 3 4 240 _ _ _ _ _ _ _ _ _ _ _ _ _ (by decide) (by decide) (by decide) (by decide) hm (by simp) (fun v => rfl) S fun x3 q H' S' => ⟨_, _, _, _, _, rfl, .two p q, S'⟩
    | two p q =>
      cases hi
      refine ⟨t3, _, rfl, SqT.of (S.O _ (List.mem_cons_of_mem _ (List.mem_append_right _ m3))).1, rfl, _, _, rfl, _, _, rfl, rfl, ?_⟩
      exact rR _ _ _ _ _ _ m 5 6 (-504) _ _ _ _ _ _ _ _ _ _ _ _ _ (by decide) (by decide) (by decide) (by decide) hm (by simp) (fun v => rfl) S fun x3 r H' S' => ⟨_, _, _, _, _, rfl, .thr p q r, S'⟩
    | thr p q r => cases hi
  rintro σ H5 ⟨x3, x7, x8, kvs, rs, rfl, hR, S5⟩
  generalize e3 : [V.ref t1, V.ref t2, V.ref t3].length = i3 at hR
  cases hR with
  | zero => cases e3
  | one _ => cases e3
  | two _ _ => cases e3
  | thr p2 p4 p6 =>
  clear e3 m1 m2 m3 mz S4 rR hR
  have S6 : Sta Pt H5 d l cc [(Dk, .dK [(.inl 2, .ref p2), (.inl 4, .ref p4), (.inl 6, .ref p6)]), (p6, .lst (rowOf (m + 1) (er (-504) 5))), (p4, .lst (rowOf (m + 1) (er 240 3)))] := S5.sub (.cons₂ _ (.cons₂ _ (.cons₂ _ (List.nil_sublist _))))
  clear S5
  have g4 : ∀ {H' : Hp} {os' : List (Addr × HO)}, Sta Pt H' d l cc os' → (Dk, HO.dK [(.inl 2, .ref p2), (.inl 4, .ref p4), (.inl 6, .ref p6)]) ∈ os' → DGet H' Dk (.int 4) (some (.ref p4)) := fun {H' os'} S h => DGet.k (k := .inl 4) (S.O _ h).1
  have g6 : ∀ {H' : Hp} {os' : List (Addr × HO)}, Sta Pt H' d l cc os' → (Dk, HO.dK [(.inl 2, .ref p2), (.inl 4, .ref p4), (.inl 6, .ref p6)]) ∈ os' → DGet H' Dk (.int 6) (some (.ref p6)) := fun {H' os'} S h => DGet.k (k := .inl 6) (S.O _ h).1
  -- eight, ten
  refine ⟨_, rfl, Dk, _, rfl, g4 S6 (by simp), _, rfl, Dk, _, rfl, g4 S6 (by simp), _, rfl, tn <| use_tm (N := m + 1) (S6.g 2 rfl) (S6.g 2 rfl) (by omega) (by omega) (by omega) er_b1 er_b1 fun e8 H6 he8 s6 h6 => ?_⟩
  have S7 := S6.resL he8 s6 h6
  refine ⟨_, rfl, Dk, _, rfl, g4 S7 (by simp), _, rfl, Dk, _, rfl, g6 S7 (by simp), _, rfl, tn <| use_tm (N := m + 1) (S7.g 3 rfl) (S7.g 2 rfl) (by omega) (by omega) (by omega) er_b1 er_b2 fun t10 H7 ht10 s7 h7 => ?_⟩
  have S8 := (S7.resL ht10 s7 h7).sub (os' := [(t10, _), (e8, _)]) (.cons₂ _ (.cons₂ _ (List.nil_sublist _)))
  clear S6 S7 he8 s6 h6 ht10 s7 h7 g4 g6
  refine ⟨_, _, rfl, ?_⟩
  -- for n
  refine ⟨_, rfl, _, _, rfl, rfl, 1, _, rfl, ⟨by decide, by decide, by omega, by omega⟩, ?_⟩
  refine for_range (lo := 1) (n := ((m : Int) + 1 - 1).toNat) (fun i σ H' => ∃ x3, σ = [some (.ref ra), some (.ref d), x2, x3, x4, some (.int (m : Int)), some (.ref Dk), x7, x8, some (.ref e8), some (.ref t10), x11, x12, x13, x14, x15] ∧ Sta Pt H' d l cc [(t10, .lst (rowOf (m + 1) (cv (er 240 3) (er (-504) 5)))), (e8, .lst (rowOf (m + 1) (cv (er 240 3) (er 240 3))))]) ⟨_, rfl, S8⟩ ?_ ?_
  · clear S8
    rintro i σ H8 hi ⟨x3, rfl, S8⟩
    have ei : (1 : Int) + (i : Int) = ((i + 1 : Nat) : Int) := by omega
    rw [ei]
    have b1 : i + 1 < m + 1 := by omega
    refine ⟨_, rfl, _, rfl, e8, _, _, _, rfl, rfl, SqL.of (S8.g 1 rfl), row_val b1, _, rfl, tn0 <| use_ds' (i + 1) 7 rfl rfl (by omega) (by omega) (by omega) fun H9 s9 => ?_⟩
    refine ⟨_, _, rfl, rfl, .inl ⟨by decide, by decide⟩, rfl, _, rfl, iteF' (by rw [eight_ok (i + 1) (by omega) (by omega)]; simp) ?_⟩
    have S9 := S8.same s9
    refine ⟨_, rfl, _, rfl, t10, _, _, _, rfl, rfl, SqL.of (S9.g 0 rfl), row_val b1, 264, rfl, _, rfl, tn0 <| use_ds' (i + 1) 9 rfl rfl (by omega) (by omega) (by omega) fun H10 s10 => ?_⟩
    refine ⟨_, _, rfl, rfl, .inl ⟨by decide, by decide⟩, rfl, _, rfl, iteF' (by rw [ten_ok (i + 1) (by omega) (by omega)]; simp) ?_⟩
    exact ⟨_, rfl, S9.same s10⟩
  clear S8
  rintro σ H8 ⟨x3, rfl, S8⟩
  have S9 := S8.sub (os' := []) (List.nil_sublist _)
  clear S8
  -- odd
  refine ⟨_, rfl, 1, rfl, (by show 1 ≤ sizeLine; decide), fun tp htp => ⟨(by show 7 ≤ sizeLine; decide), fun z hz => ?_⟩⟩
  have S10 := (S9.newT (xs := [V.int 4]) htp).newL (xs := [.non, .int 0, .int (-1), .int 1000000, .bl true, .str "2", .ref tp]) hz
  refine ⟨d, l, cc, z, [.non, .int 0, .int (-1), .int 1000000, .bl true, .str "2", .ref tp], rfl, S10.dr, fun H' s' => SqL.of (S10.gx 0 rfl s'), by simp, (by show 7 ≤ 1000; decide), fun odd H10 hodd D10 s10 => ?_⟩
  have S11 := (S10.sx s10 D10).tl
  have hO : (∀ H, H tp = some (.tup [.int 4]) → PV H odd) ∧ within odd 1 999999 = false := by
    simp only [List.mem_cons, List.not_mem_nil, or_false] at hodd
    rcases hodd with rfl | rfl | rfl | rfl | rfl | rfl | rfl
    · exact ⟨fun _ _ => .non, rfl⟩
    · exact ⟨fun _ _ => .int _, rfl⟩
    · exact ⟨fun _ _ => .int _, rfl⟩
    · exact ⟨fun _ _ => .int _, rfl⟩
    · exact ⟨fun _ _ => .bl _, rfl⟩
    · exact ⟨fun _ _ => .str _, rfl⟩
    · exact ⟨fun _ h => .tup h, rfl⟩
  clear S9 S10 s10 D10 hodd hz htp
  -- far
  refine ⟨_, rfl, 1, rfl, (by show 5 ≤ sizeLine; decide), fun z hz => ?_⟩
  have S12 := S11.newL (xs := [.non, .int (-1), .int 12, .bl true, .str "0"]) hz
  refine ⟨d, l, cc, z, [.non, .int (-1), .int 12, .bl true, .str "0"], rfl, S12.dr, fun H' s' => SqL.of (S12.gx 0 rfl s'), by simp, (by show 5 ≤ 1000; decide), fun far H12 hfar D12 s12 => ?_⟩
  have S13 := (S12.sx s12 D12).tl
  have hF : (∀ H, PV H far) ∧ within far 0 11 = false := by
    simp only [List.mem_cons, List.not_mem_nil, or_false] at hfar
    rcases hfar with rfl | rfl | rfl | rfl | rfl
    · exact ⟨fun _ => .non, rfl⟩
    · exact ⟨fun _ => .int _, rfl⟩
    · exact ⟨fun _ => .int _, rfl⟩
    · exact ⟨fun _ => .bl _, rfl⟩
    · exact ⟨fun _ => .str _, rfl⟩
  clear S11 S12 s12 D12 hfar hz
  refine ⟨(by show 2 ≤ sizeLine; decide), fun tq htq => ⟨tq, _, rfl, SqT.of upd_same, rfl, _, _, rfl, _, _, rfl, rfl, ?_⟩⟩
  have S14 := (S13.newT (xs := [odd, far]) htq).tl
  generalize upd H12 tq (.tup [odd, far]) = H13 at S14 ⊢
  clear S13 htq
  -- divisor_sum(odd, 1)
  refine ⟨S14.tb, fun H14 eN T14 => ?_⟩
  have S15 := S14.ext eN T14
  refine ⟨_, rfl, tn0 <| ds_odd (hO.1 _ (S15.g 0 rfl)) hO.2 ⟨M.E_BadNumber.m, fun a ha => ?_⟩⟩
  refine ⟨a, M.a_BadNumber, none, _, _, _, rfl, .inl ⟨rfl, upd_same⟩, M.E_BadNumber.e, fun u r => r, M.E_BadNumber.i, ?_⟩
  have S16 := S15.same (same_new (o := ErX (.ref M.a_BadNumber) none a) ha)
  refine ⟨(by show 1 ≤ sizeLine; decide), fun ck hck => ?_⟩
  have C0 := S16.newL (xs := [V.bl true]) hck
  clear S14 S15 S16 eN T14
  generalize upd (upd H14 a (ErX (.ref M.a_BadNumber) none a)) ck (.lst [.bl true]) = H16 at C0 ⊢
  clear ha hck
  have C1 : Sta Pt H16 d l cc [(ck, .lst (List.replicate 1 (.bl true))), (tp, .tup [.int 4])] := C0
  clear C0
  -- divisor_sum(5, far)
  refine ⟨_, rfl, .inl ⟨rfl, _, SqL.of (C1.g 0 rfl)⟩, C1.tb, fun H14 eN T14 => ?_⟩
  have C2 := C1.ext eN T14
  refine ⟨_, rfl, tn <| ds_far rfl (hF.1 _) hF.2 ⟨M.E_BadNumber.m, fun a ha => ?_⟩⟩
  refine ⟨a, M.a_BadNumber, none, _, _, _, rfl, .inl ⟨rfl, upd_same⟩, M.E_BadNumber.e, fun u r => r, M.E_BadNumber.i, ?_⟩
  have C3 := C2.same (same_new (o := ErX (.ref M.a_BadNumber) none a) ha)
  refine ⟨ck, _, _, rfl, rfl, C3.g 0 rfl, (by rw [List.length_replicate]; decide), ?_⟩
  have C4 := C3.put (ys := List.replicate 2 (.bl true))
  clear C1 C2 C3 ha eN T14
  -- wrong
  refine ⟨_, rfl, 2, rfl, (by show 9 ≤ sizeLine; decide), fun z hz => ?_⟩
  have C5 := C4.newL (xs := [.non, .int 0, .int 1, .int 3, .int 5, .int 8, .int (-2), .bl true, .str "4"]) hz
  refine ⟨d, l, cc, z, [.non, .int 0, .int 1, .int 3, .int 5, .int 8, .int (-2), .bl true, .str "4"], rfl, C5.dr, fun H' s' => SqL.of (C5.gx 0 rfl s'), by simp, (by show 9 ≤ 1000; decide), fun wrong H17 hw D17 s17 => ?_⟩
  have C6 := (C5.sx s17 D17).tl
  have hW : (∀ H, PV H wrong) ∧ okW wrong = false := by
    simp only [List.mem_cons, List.not_mem_nil, or_false] at hw
    rcases hw with rfl | rfl | rfl | rfl | rfl | rfl | rfl | rfl | rfl
    · exact ⟨fun _ => .non, rfl⟩
    · exact ⟨fun _ => .int _, by decide⟩
    · exact ⟨fun _ => .int _, by decide⟩
    · exact ⟨fun _ => .int _, by decide⟩
    · exact ⟨fun _ => .int _, by decide⟩
    · exact ⟨fun _ => .int _, by decide⟩
    · exact ⟨fun _ => .int _, by decide⟩
    · exact ⟨fun _ => .bl _, rfl⟩
    · exact ⟨fun _ => .str _, rfl⟩
  clear C4 C5 s17 D17 hw hz
  refine ⟨_, rfl, .inl ⟨rfl, _, SqL.of (C6.g 0 rfl)⟩, C6.tb, fun H14 eN T14 => ?_⟩
  have C7 := C6.ext eN T14
  refine ⟨_, rfl, _, rfl, tn <| er_bad (hW.1 _) (hO.1 _ (C7.g 1 rfl)) hW.2 ⟨M.E_BadWeight.m, fun a ha => ?_⟩⟩
  refine ⟨a, M.a_BadWeight, none, _, _, _, rfl, .inl ⟨rfl, upd_same⟩, M.E_BadWeight.e, fun u r => r, M.E_BadWeight.i, ?_⟩
  have C8 := C7.same (same_new (o := ErX (.ref M.a_BadWeight) none a) ha)
  refine ⟨ck, _, _, rfl, rfl, C8.g 0 rfl, (by rw [List.length_replicate]; decide), ?_⟩
  have C9 := C8.put (ys := List.replicate 3 (.bl true))
  clear C6 C7 C8 ha eN T14
  -- none
  refine ⟨_, rfl, 1, rfl, (by show 5 ≤ sizeLine; decide), fun z hz => ?_⟩
  have C10 := C9.newL (xs := [.non, .int (-1), .int 3001, .bl true, .str "2"]) hz
  refine ⟨d, l, cc, z, [.non, .int (-1), .int 3001, .bl true, .str "2"], rfl, C10.dr, fun H' s' => SqL.of (C10.gx 0 rfl s'), by simp, (by show 5 ≤ 1000; decide), fun non H18 hn D18 s18 => ?_⟩
  have C11 := (C10.sx s18 D18).tl
  have hN : (∀ H, PV H non) ∧ within non 0 3000 = false := by
    simp only [List.mem_cons, List.not_mem_nil, or_false] at hn
    rcases hn with rfl | rfl | rfl | rfl | rfl
    · exact ⟨fun _ => .non, rfl⟩
    · exact ⟨fun _ => .int _, rfl⟩
    · exact ⟨fun _ => .int _, rfl⟩
    · exact ⟨fun _ => .bl _, rfl⟩
    · exact ⟨fun _ => .str _, rfl⟩
  clear C9 C10 s18 D18 hn hz
  refine ⟨_, rfl, .inl ⟨rfl, _, SqL.of (C11.g 0 rfl)⟩, C11.tb, fun H14 eN T14 => ?_⟩
  have C12 := C11.ext eN T14
  refine ⟨_, rfl, tn <| er_far (by decide) (hN.1 _) hN.2 ⟨M.E_BadMost.m, fun a ha => ?_⟩⟩
  refine ⟨a, M.a_BadMost, none, _, _, _, rfl, .inl ⟨rfl, upd_same⟩, M.E_BadMost.e, fun u r => r, M.E_BadMost.i, ?_⟩
  have C13 := C12.same (same_new (o := ErX (.ref M.a_BadMost) none a) ha)
  refine ⟨ck, _, _, rfl, rfl, C13.g 0 rfl, (by rw [List.length_replicate]; decide), ?_⟩
  have C14 := C13.put (ys := List.replicate 4 (.bl true))
  clear C11 C12 C13 ha eN T14
  refine ⟨_, rfl, ck, _, rfl, .inl (SqL.of (C14.g 0 rfl)), rfl, rfl, ?_⟩
  exact q _
end
end K32

set_option Elab.async false
set_option linter.all false
set_option maxRecDepth 100000
set_option maxHeartbeats 0
set_option pp.maxSteps 3000
namespace K32
open PySem PySem.Spec PyProof.Rows L2 Dr Xv LamX Ps Gn
section
variable {P : Program} {w : World} {K : PySem.W.Frag} {mg : Str → Option Value} {base : Heap} {c Pt : Addr}
/-- the script as one of the law's objects (none where it is the module's) -/
theorem scr_own {H : Hp} {a d l cc : Addr} {xs : List V} (h : SqL K H a xs) (hd : H d = none) (hl : H l = none) (hc : H cc = none) : ∃ os : List (Addr × HO), os.length ≤ 1 ∧
    (∀ x ∈ os, H x.1 = some x.2 ∧ x.1 ≠ d ∧ x.1 ≠ l ∧ x.1 ≠ cc ∧ ∀ ps, x.2 ≠ .tbl ps) ∧ ∀ H', (∀ x ∈ os, H' x.1 = some x.2) → SqL K H' a xs := by
  have mk : ∀ o, H a = some o → (∀ ps, o ≠ .tbl ps) → (∀ H' : Hp, H' a = some o → SqL K H' a xs) → ∃ os : List (Addr × HO), os.length ≤ 1 ∧ (∀ x ∈ os, H x.1 = some x.2 ∧ x.1 ≠ d ∧ x.1 ≠ l ∧ x.1 ≠ cc ∧ ∀ ps, x.2 ≠ .tbl ps) ∧ ∀ H', (∀ x ∈ os, H' x.1 = some x.2) → SqL K H' a xs := fun o e nt k =>
    ⟨[(a, o)], Nat.le_refl _, fun x hx => by
      rw [List.mem_singleton.mp hx]
      exact ⟨e, ne_of_none e hd, ne_of_none e hl, ne_of_none e hc, nt⟩, fun H' h' => k H' (h' _ (List.mem_singleton.mpr rfl))⟩
  rcases h with (e | ⟨o, e⟩) | e
  · exact mk _ e (fun _ z => nomatch z) fun H' e' => .inl (.inl e')
  · exact mk _ e (fun _ z => nomatch z) fun H' e' => .inl (.inr ⟨o, e'⟩)
  · exact ⟨[], Nat.zero_le _, (fun x hx => absurd hx List.not_mem_nil), fun H' _ => Or.inr e⟩
def sp_law (K : PySem.W.Frag) (Pt : Addr) : Sp := fun vs H Q _ => ∃ (a : Addr) (ns : List Int), vs = [.ref a] ∧ SqL K H a (ns.map V.int) ∧ ns.length ≤ 1000 ∧ H Pt = some (.tbl #[]) ∧ ∀ H', Q (.bl true) H'
theorem ok_law (M : Mod P w K mg base) (hc : M.d_law.code = .ref c) (TB : TabB base mg c Pt) : FnOk P w K mg base CX0 10 M.f_law M.d_law ["script"] (sp_law K Pt) := by
  obtain ⟨oc, od, dV, kV, doc, pm, an, cdv, ct, osl, ed, lk, hcd, _, _⟩ := M.F_law.ex
  rw [ed] at hc lk ⊢
  have e : cdv = .ref c := hc
  subst e
  refine fn_of lk hcd sc_law (fun vs H Q E h => ?_) fun A outer s H vs Q E hr h => ?_
  · obtain ⟨a, ns, rfl, _⟩ := h
    rfl
  · obtain ⟨a, ns, rfl, hS, hlen, hT, q⟩ := h
    have hr' : Room 9 (XL P w K mg base M.f_law c A outer s H E).A := hr
    obtain ⟨tL, hL, rL⟩ := lap_ok (f := M.f_law) (c := c) (A := A) (outer := outer) (s := s) (H := H) (E := E) M TB hr'
    obtain ⟨tT, hTl, rT⟩ := tail_ok (f := M.f_law) (c := c) (A := A) (outer := outer) (s := s) (H := H) (E := E) M TB hr'
    refine ⟨_, PSs.nox (pss_cons (ps_set (i := 1) sc_law.nd rfl (Or.inl rfl) (pe_call (ok__law_begun M) (hr.mono (by decide)) rfl M.g__law_begun M.k__law_begun M.b__law_begun .nil pass0 (pa_cons (pv 0) pa_nil)))
      (pss_cons (ps_for PassesOwn.never rfl (pi_range1 (by rfl) M.range0 (pa_cons (pe_op op_add pe_int (pe_callB (call_min2 rfl) (by rfl) M.min0 (by decide +kernel) (pa_cons (pe_callB call_len (by rfl) M.len0 PySem.boot_len (pa_cons (pv 0) pa_nil)) (pa_cons pe_int pa_nil)))) pa_nil)) (pg_name (i := 2) sc_law.nd rfl (Or.inl rfl)) hL)
      hTl)), ?_⟩
    refine ⟨_, rfl, a, ns, rfl, hS, hlen, fun d l cc H1 hd hl hcc s1 D1 => ?_⟩
    have W0 : Wd Pt H1 d l cc := ⟨D1, fun p hp => by
      rw [List.mem_singleton.mp hp]
      exact TabS.nil (s1 _ _ hT)⟩
    obtain ⟨os, o1, o2, o3⟩ := scr_own hS hd hl hcc
    have W1 : Sta Pt H1 d l cc os := ⟨W0, fun x hx => ⟨s1 _ _ (o2 x hx).1, (o2 x hx).2⟩, by
      cases os with
      | nil => exact List.Pairwise.nil
      | cons x r =>
        cases r with
        | nil => exact List.pairwise_singleton _ _
        | cons y r =>
          simp at o1⟩
    have hb : ∀ n : Nat, 0 ≤ (if (4 : Int) < (n : Int) then (4 : Int) else (n : Int)) ∧ (if (4 : Int) < (n : Int) then (4 : Int) else (n : Int)) ≤ 4 := fun n => by
      by_cases h4 : (4 : Int) < (n : Int)
      · rw [if_pos h4]
        exact ⟨by decide, by decide⟩
      · rw [if_neg h4]
        omega
    obtain ⟨hb1, hb2⟩ := hb (ns.map V.int).length
    refine ⟨_, rfl, _, _, rfl, .inl ⟨_, s1.seq hS, rfl⟩, _, _, rfl, _, _, rfl, rfl, _, rfl, ?_, ?_, ?_⟩
    · show -(2 ^ 62) ≤ 4 + _
      omega
    · show 4 + _ < 2 ^ 62
      omega
    refine for_range (lo := 0) (n := _) (fun i σ H' => Slots a d σ ∧ Sta Pt H' d l cc os) ⟨⟨_, _, _, _, _, _, _, _, _, _, _, _, _, _, rfl⟩, W1⟩ ?_ ?_
    · rintro i σ H2 hi ⟨⟨x2, x3, x4, x5, x6, x7, x8, x9, x10, x11, x12, x13, x14, x15, rfl⟩, W2⟩
      exact rL _ _ _ os a d l cc ⟨_, _, _, _, _, _, _, _, _, _, _, _, _, _, rfl⟩ W2 fun σ' H' hs W' => ⟨hs, W'⟩
    · rintro σ H2 ⟨hs, W2⟩
      exact rT _ _ _ os _ a d l cc hs o3 W2 fun H' => q H'
end
end K32

set_option Elab.async false
set_option linter.all false
set_option maxRecDepth 100000
set_option maxHeartbeats 0
namespace K32
open PySem PySem.Spec PyProof.Rows L2 Dr Xv LamX Ps Gn
def dd (x : Str) (st : Stmt) : He.DefD := ⟨(x, none), x, x, defArgs st, defBody st, defScope st, [], []⟩
def fn : List He.DefD := [dd "law" s_law, dd "divisors_of" s_divisors_of, dd "power_of" s_power_of, dd "is_number" s_is_number, dd "is_within" s_is_within, dd "check_most" s_check_most, dd "divisor_sum" s_divisor_sum, dd "eisenstein_row" s_eisenstein_row, dd "eisenstein_series" s_eisenstein_series, dd "_law_begun" s__law_begun, dd "_law_blend" s__law_blend, dd "_law_take" s__law_take, dd "_law_pick" s__law_pick, dd "_law_caught" s__law_caught, dd "_law_sigma" s__law_sigma, dd "_law_times" s__law_times, dd "_law_by_pairs" s__law_by_pairs]
def fa : List He.Fa := [.glo "law", .glo "divisors_of", .glo "power_of", .glo "is_number", .glo "is_within", .glo "check_most", .glo "divisor_sum", .glo "eisenstein_row", .glo "eisenstein_series", .glo "_law_begun", .glo "_law_blend", .glo "_law_take", .glo "_law_pick", .glo "_law_caught", .glo "_law_sigma", .glo "_law_times", .glo "_law_by_pairs", .glo "SeriesError", .glo "BadMost", .glo "BadNumber", .glo "BadWeight", .glo "FACTORS", .int "GREATEST_MOST" 3000, .int "GREATEST_DIVIDED" 999999, .int "GREATEST_DIVISOR_POWER" 11, .free "abs", .free "bool", .free "enumerate", .free "int", .free "isinstance", .free "len", .free "min", .free "range", .free "sum"]
abbrev R : PySem.W.OpenRow := PySem.W.OpenLaw.row PySem.Challenge.rw_etasure_k32_divisors_and_eisenstein
abbrev ga (K : PySem.W.Frag) (x : Str) : Addr := He.ga K x
def up (K : PySem.W.Frag) (x : Str) : List Value := .ref (ga K x) :: .ref (ga K "SeriesError") :: veT
def upS (K : PySem.W.Frag) : List Value := .ref (ga K "SeriesError") :: veT
def ext (K : PySem.W.Frag) : Bool := clsB K (ga K "SeriesError") (upS K) && (clsB K (ga K "BadMost") (up K "BadMost") && (clsB K (ga K "BadNumber") (up K "BadNumber") && (clsB K (ga K "BadWeight") (up K "BadWeight") && (PySem.W.excIn K (ga K "BadMost") veT "ValueError.__new__" && (PySem.W.excIn K (ga K "BadNumber") veT "ValueError.__new__" && (PySem.W.excIn K (ga K "BadWeight") veT "ValueError.__new__" && (He.eqO (PySem.W.specialIn K (.builtin "object.__class__") "__get__") (some (some (.builtin "getset_descriptor.__get__"))) && (eqB (PySem.W.takesIn K (.builtin "object.__class__")) (some true) && (kdiB K (ga K "FACTORS") [(2, -24), (4, 240), (6, -504)] && (He.eqO (PySem.W.nsIn K mainGlobals "isqrt") (some (some (.builtin "math.isqrt")))))))))))))
def ob (s : PySem.W.SharedT) : AlE := obsE fa fn ext 4 (HandSHeadRun.getT s)
theorem ob_eq (s : PySem.W.SharedT) : ob s = (hookE fa fn ext 4).obs s.abs := by
  have e : HandSHeadRun.getT s = s.abs.heap.get? := funext (HandSHeadRun.getT_eq s)
  show obsE fa fn ext 4 (HandSHeadRun.getT s) = obsE fa fn ext 4 s.abs.heap.get?
  rw [e]
def loose : List PySem.Str := (List.map Str.ofString ["divisors_of", "power_of", "SeriesError", "BadMost", "BadNumber", "BadWeight", "GREATEST_MOST", "is_number", "is_within", "check_most", "GREATEST_DIVIDED", "GREATEST_DIVISOR_POWER", "FACTORS", "divisor_sum", "eisenstein_row", "eisenstein_series", "_law_begun", "_law_blend", "_law_take", "_law_pick", "_law_caught", "_law_sigma", "_law_times", "_law_by_pairs"])
theorem errs_of {K : PySem.W.Frag} (e : ext K = true) : ErrT K (ga K "BadMost") (ga K "SeriesError") ∧ ErrT K (ga K "BadNumber") (ga K "SeriesError") ∧ ErrT K (ga K "BadWeight") (ga K "SeriesError") ∧ KDI K (ga K "FACTORS") [(2, -24), (4, 240), (6, -504)] ∧ PySem.W.nsIn K mainGlobals "isqrt" = some (some (.builtin "math.isqrt")) := by
  unfold ext at e
  simp only [Bool.and_eq_true] at e
  obtain ⟨eS, e_BadMost, e_BadNumber, e_BadWeight, x_BadMost, x_BadNumber, x_BadWeight, e7, e8, k_FACTORS, i_isqrt⟩ := e
  have cS := clsB_ok eS
  have ne : ∀ x, up K x ≠ [] := fun x z => by cases z
  have hasT : ∀ (x : Str) (v : Value), veT.contains v = true → (up K x).contains v = true := fun x v hv => by
    unfold up
    rw [List.contains_cons, List.contains_cons, hv, Bool.or_true, Bool.or_true]
  have e7' := He.eqO_ok e7
  have e8' : PySem.W.takesIn K (.builtin "object.__class__") = some true := of_decide_eq_true e8
  have xS := cS.excC (fun z => by cases z) (by unfold upS; rw [List.contains_cons, show veT.contains (.type "BaseException") = true from rfl, Bool.or_true]) (by unfold upS; rw [List.contains_cons, show veT.contains (.type "object") = true from rfl, Bool.or_true]) e7' e8'
  have subS : ∀ x, (up K x).contains (.ref (ga K "SeriesError")) = true := fun x => by
    unfold up
    rw [List.contains_cons, List.contains_cons]
    simp
  have mk : ∀ x, ClsOk K (ga K x) (up K x) → PySem.W.excIn K (ga K x) veT "ValueError.__new__" = true → ErrT K (ga K x) (ga K "SeriesError") := fun x cx hx =>
    have xx := cx.excC (ne x) (hasT x _ rfl) (hasT x _ rfl) e7' e8'
    { x := hx, k := cx.kp, b := xx.hs, t := cx.ty, m := PySem.W.exm_ref xS.hs xS.hd cS.ty (by rw [cx.sub (ne x), subS x]), e := xx, i := cx.kit (ne x) cx (by rw [decide_eq_true rfl]; rfl) }
  exact ⟨mk _ (clsB_ok e_BadMost) x_BadMost, mk _ (clsB_ok e_BadNumber) x_BadNumber, mk _ (clsB_ok e_BadWeight) x_BadWeight, kdiB_ok k_FACTORS, He.eqO_ok i_isqrt⟩
theorem runb (b : Bool) (w : World) : HandSHeadRun.RunEqI R (PySem.W.view R.prog [0, 30]) (hookE fa fn ext 4) ob 40000 loose (w.withFollow "special-get-raises" b) := by
  unfold HandSHeadRun.RunEqI
  cases b
  · kernel_rfl
  · kernel_rfl
theorem run (w : World) : HandSHeadRun.RunEqI R (PySem.W.view R.prog [0, 30]) (hookE fa fn ext 4) ob 40000 loose w := by
  have z := runb (w.params.followText "special-get-raises") w
  rwa [World.withFollow_self] at z
theorem mod_of {P : Program} {w : World} {K : PySem.W.Frag} {h : Heap} {mg : Str → Option Value} {f : Addr} (X : K.In h) (G : h.Ns mainGlobals mg) (hfa : mg ("law" : Str) = some (.ref f)) (c : He.SaysD fa fn K) (ex : ext K = true) :
    ∃ fd, FnP K "law" s_law f fd ∧ ∀ base : Heap, ∃ M : Mod P w K mg base, M.f_law = f ∧ M.d_law = fd := by
  obtain ⟨fd0, F0⟩ := c.def_ 0 (d := dd "law" s_law) rfl
  obtain ⟨fd1, F1⟩ := c.def_ 1 (d := dd "divisors_of" s_divisors_of) rfl
  obtain ⟨fd2, F2⟩ := c.def_ 2 (d := dd "power_of" s_power_of) rfl
  obtain ⟨fd3, F3⟩ := c.def_ 3 (d := dd "is_number" s_is_number) rfl
  obtain ⟨fd4, F4⟩ := c.def_ 4 (d := dd "is_within" s_is_within) rfl
  obtain ⟨fd5, F5⟩ := c.def_ 5 (d := dd "check_most" s_check_most) rfl
  obtain ⟨fd6, F6⟩ := c.def_ 6 (d := dd "divisor_sum" s_divisor_sum) rfl
  obtain ⟨fd7, F7⟩ := c.def_ 7 (d := dd "eisenstein_row" s_eisenstein_row) rfl
  obtain ⟨fd8, F8⟩ := c.def_ 8 (d := dd "eisenstein_series" s_eisenstein_series) rfl
  obtain ⟨fd9, F9⟩ := c.def_ 9 (d := dd "_law_begun" s__law_begun) rfl
  obtain ⟨fd10, F10⟩ := c.def_ 10 (d := dd "_law_blend" s__law_blend) rfl
  obtain ⟨fd11, F11⟩ := c.def_ 11 (d := dd "_law_take" s__law_take) rfl
  obtain ⟨fd12, F12⟩ := c.def_ 12 (d := dd "_law_pick" s__law_pick) rfl
  obtain ⟨fd13, F13⟩ := c.def_ 13 (d := dd "_law_caught" s__law_caught) rfl
  obtain ⟨fd14, F14⟩ := c.def_ 14 (d := dd "_law_sigma" s__law_sigma) rfl
  obtain ⟨fd15, F15⟩ := c.def_ 15 (d := dd "_law_times" s__law_times) rfl
  obtain ⟨fd16, F16⟩ := c.def_ 16 (d := dd "_law_by_pairs" s__law_by_pairs) rfl
  obtain ⟨X_BadMost, X_BadNumber, X_BadWeight, XK_FACTORS, XI_isqrt⟩ := errs_of ex
  obtain ⟨t_GREATEST_MOST, c_GREATEST_MOST⟩ := He.int_ok X G (c.fact 22 (f := .int "GREATEST_MOST" 3000) rfl)
  obtain ⟨t_GREATEST_DIVIDED, c_GREATEST_DIVIDED⟩ := He.int_ok X G (c.fact 23 (f := .int "GREATEST_DIVIDED" 999999) rfl)
  obtain ⟨t_GREATEST_DIVISOR_POWER, c_GREATEST_DIVISOR_POWER⟩ := He.int_ok X G (c.fact 24 (f := .int "GREATEST_DIVISOR_POWER" 11) rfl)
  have gl := hfa.symm.trans (He.glo_ok X G (c.fact 0 (f := .glo "law") rfl))
  cases gl
  have g0 := He.glo_ok X G (c.fact 0 (f := .glo "law") rfl)
  have g1 := He.glo_ok X G (c.fact 1 (f := .glo "divisors_of") rfl)
  have g2 := He.glo_ok X G (c.fact 2 (f := .glo "power_of") rfl)
  have g3 := He.glo_ok X G (c.fact 3 (f := .glo "is_number") rfl)
  have g4 := He.glo_ok X G (c.fact 4 (f := .glo "is_within") rfl)
  have g5 := He.glo_ok X G (c.fact 5 (f := .glo "check_most") rfl)
  have g6 := He.glo_ok X G (c.fact 6 (f := .glo "divisor_sum") rfl)
  have g7 := He.glo_ok X G (c.fact 7 (f := .glo "eisenstein_row") rfl)
  have g8 := He.glo_ok X G (c.fact 8 (f := .glo "eisenstein_series") rfl)
  have g9 := He.glo_ok X G (c.fact 9 (f := .glo "_law_begun") rfl)
  have g10 := He.glo_ok X G (c.fact 10 (f := .glo "_law_blend") rfl)
  have g11 := He.glo_ok X G (c.fact 11 (f := .glo "_law_take") rfl)
  have g12 := He.glo_ok X G (c.fact 12 (f := .glo "_law_pick") rfl)
  have g13 := He.glo_ok X G (c.fact 13 (f := .glo "_law_caught") rfl)
  have g14 := He.glo_ok X G (c.fact 14 (f := .glo "_law_sigma") rfl)
  have g15 := He.glo_ok X G (c.fact 15 (f := .glo "_law_times") rfl)
  have g16 := He.glo_ok X G (c.fact 16 (f := .glo "_law_by_pairs") rfl)
  have gc0 := He.glo_ok X G (c.fact 17 (f := .glo "SeriesError") rfl)
  have gc1 := He.glo_ok X G (c.fact 18 (f := .glo "BadMost") rfl)
  have gc2 := He.glo_ok X G (c.fact 19 (f := .glo "BadNumber") rfl)
  have gc3 := He.glo_ok X G (c.fact 20 (f := .glo "BadWeight") rfl)
  have gc4 := He.glo_ok X G (c.fact 21 (f := .glo "FACTORS") rfl)
  have b_abs := He.free_ok X G (c.fact 25 (f := .free "abs") rfl)
  have b_bool := He.free_ok X G (c.fact 26 (f := .free "bool") rfl)
  have b_enumerate := He.free_ok X G (c.fact 27 (f := .free "enumerate") rfl)
  have b_int := He.free_ok X G (c.fact 28 (f := .free "int") rfl)
  have b_isinstance := He.free_ok X G (c.fact 29 (f := .free "isinstance") rfl)
  have b_len := He.free_ok X G (c.fact 30 (f := .free "len") rfl)
  have b_min := He.free_ok X G (c.fact 31 (f := .free "min") rfl)
  have b_range := He.free_ok X G (c.fact 32 (f := .free "range") rfl)
  have b_sum := He.free_ok X G (c.fact 33 (f := .free "sum") rfl)
  exact ⟨fd0, F0, fun base => ⟨{ f_law := _, d_law := fd0, F_law := F0, g_law := g0, f_divisors_of := _, d_divisors_of := fd1, F_divisors_of := F1, g_divisors_of := g1, f_power_of := _, d_power_of := fd2, F_power_of := F2, g_power_of := g2, f_is_number := _, d_is_number := fd3, F_is_number := F3, g_is_number := g3, f_is_within := _, d_is_within := fd4, F_is_within := F4, g_is_within := g4, f_check_most := _, d_check_most := fd5, F_check_most := F5, g_check_most := g5, f_divisor_sum := _, d_divisor_sum := fd6, F_divisor_sum := F6, g_divisor_sum := g6, f_eisenstein_row := _, d_eisenstein_row := fd7, F_eisenstein_row := F7, g_eisenstein_row := g7, f_eisenstein_series := _, d_eisenstein_series := fd8, F_eisenstein_series := F8, g_eisenstein_series := g8, f__law_begun := _, d__law_begun := fd9, F__law_begun := F9, g__law_begun := g9, f__law_blend := _, d__law_blend := fd10, F__law_blend := F10, g__law_blend := g10, f__law_take := _, d__law_take := fd11, F__law_take := F11, g__law_take := g11, f__law_pick := _, d__law_pick := fd12, F__law_pick := F12, g__law_pick := g12, f__law_caught := _, d__law_caught := fd13, F__law_caught := F13, g__law_caught := g13, f__law_sigma := _, d__law_sigma := fd14, F__law_sigma := F14, g__law_sigma := g14, f__law_times := _, d__law_times := fd15, F__law_times := F15, g__law_times := g15, f__law_by_pairs := _, d__law_by_pairs := fd16, F__law_by_pairs := F16, g__law_by_pairs := g16, a_SeriesError := _, g_SeriesError := gc0, a_BadMost := _, g_BadMost := gc1, a_BadNumber := _, g_BadNumber := gc2, a_BadWeight := _, g_BadWeight := gc3, a_FACTORS := _, g_FACTORS := gc4, E_BadMost := X_BadMost, E_BadNumber := X_BadNumber, E_BadWeight := X_BadWeight, K_FACTORS := XK_FACTORS, i_isqrt := PySem.W.mg_of X G XI_isqrt, t_GREATEST_MOST := t_GREATEST_MOST, c_GREATEST_MOST := c_GREATEST_MOST, t_GREATEST_DIVIDED := t_GREATEST_DIVIDED, c_GREATEST_DIVIDED := c_GREATEST_DIVIDED, t_GREATEST_DIVISOR_POWER := t_GREATEST_DIVISOR_POWER, c_GREATEST_DIVISOR_POWER := c_GREATEST_DIVISOR_POWER, abs0 := b_abs, bool0 := b_bool, enumerate0 := b_enumerate, int0 := b_int, isinstance0 := b_isinstance, len0 := b_len, min0 := b_min, range0 := b_range, sum0 := b_sum }, rfl, rfl⟩⟩
theorem facts {P : Program} {w : World} {K : PySem.W.Frag} {h : Heap} {mg : Str → Option Value} {f : Addr} (X : K.In h) (G : h.Ns mainGlobals mg) (hfa : mg ("law" : Str) = some (.ref f)) (c : He.SaysD fa fn K) (ex : ext K = true) :
    ∃ fd, (∀ (s : Shared) (v : Value), BindsTo s fd ⟨[v], []⟩ [("script", v)]) ∧ ∀ base : Heap, K.In base → base.Ns mainGlobals mg → TabB base mg (He.cT K lawD).1 (He.cT K lawD).2 → FnOk P w K mg base CX0 10 f fd ["script"] (sp_law K (He.cT K lawD).2) := by
  have gl := hfa.symm.trans (He.glo_ok X G (c.fact 0 (f := .glo "law") rfl))
  cases gl
  obtain ⟨fd, F, hM⟩ := mod_of (P := P) (w := w) X G hfa c ex
  have b := FunD.bindsA (ps := ["script"]) F fun _ _ _ _ _ _ us hl => match us, hl with | [_], _ => rfl
  refine ⟨fd, fun s v => b s [v] rfl, fun base hK hN TB => ?_⟩
  obtain ⟨M, e1, e2⟩ := hM base
  have hc : fd.code = .ref (He.cT K lawD).1 := by
    obtain ⟨oc, od, dV, kV, doc, pm, an, cdv, ct, osl, rfl, lk, hcd, _, _⟩ := F.ex
    obtain ⟨c0, rfl⟩ := He.codeIn_ref hcd
    have z := He.codeOf_eq (p := lawD) (c := c0) lk rfl
    show Value.ref c0 = Value.ref (He.codeOf K lawD)
    rw [z]
  have z := ok_law M (c := (He.cT K lawD).1) (Pt := (He.cT K lawD).2) (by rw [e2]; exact hc) TB
  rw [e1, e2] at z
  exact z
end K32
open PySem PySem.W PySem.Calls PyProof.Rows
theorem PySem.Challenge.cw_etasure_k32_divisors_and_eisenstein_holds : PySem.Challenge.rw_etasure_k32_divisors_and_eisenstein.Holds := by
  w_on; o_law
  refine HandSHeadRun.head_imp (r := OpenLaw.row PySem.Challenge.rw_etasure_k32_divisors_and_eisenstein) (q := view (OpenLaw.row PySem.Challenge.rw_etasure_k32_divisors_and_eisenstein).prog [0, 30]) (H := Xv.hookE K32.fa K32.fn K32.ext 4) (ob := K32.ob) (M := 40000) (loose := K32.loose) (d := HandSHeadRun.topDef (OpenLaw.row PySem.Challenge.rw_etasure_k32_divisors_and_eisenstein).prog 30) (kwd := []) K32.ob_eq
    K32.run (by kernel_rfl) (by kernel_rfl) (by kernel_rfl) (by rfl) (by first | assumption | decide +kernel) (by decide +kernel) ⟨rfl, rfl, rfl, rfl, rfl, by decide +kernel⟩ ?hw ?hc
  case hw => w_witness2
  case hc =>
    refine LamX.walk_ofTsE (l := PySem.Challenge.rw_etasure_k32_divisors_and_eisenstein) (n := 63) (k := 10) (x := "script") (CX := fun _ => L2.CX0) rfl (by decide) (by kernel_rfl) ⟨rfl, by decide, by decide⟩ ?F (fun _ _ _ _ _ h => h)
    intro w mg fa h Y G hmg0
    obtain ⟨K, KX, c⟩ := Y
    have hmg : mg ("law" : PySem.Str) = some (.ref fa) := by
      have e : (HandSHeadRun.topDef (OpenLaw.row PySem.Challenge.rw_etasure_k32_divisors_and_eisenstein).prog 30).name = ("law" : PySem.Str) := by kernel_rfl
      rw [← e]
      exact hmg0
    obtain ⟨fd, hb, hF⟩ := K32.facts (P := (PySem.Challenge.rw_etasure_k32_divisors_and_eisenstein).prog) (w := w) KX G hmg c.d c.more
    refine ⟨K, KX, fd, [He.cT K Xv.lawD], K32.sp_law K (He.cT K Xv.lawD).2, fun p hp => ?_, fun p hp => ?_, fun p hp => ?_, hb, fun H a ns hl _ hT hS => ⟨a, ns, rfl, hS, by omega, hT _ (List.mem_singleton.mpr rfl), fun _ => rfl⟩, fun base hK hN hTB => hF base hK hN (hTB _ (List.mem_singleton.mpr rfl))⟩
    · rw [List.mem_singleton.mp hp]
      exact c.empty
    · rw [List.mem_singleton.mp hp]
      exact c.out
    · rw [List.mem_singleton.mp hp]
      exact PySem.W.codeHd_of_K KX c.hd

