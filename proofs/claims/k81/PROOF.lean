import PyProof.Rows.All
import Wide.All
import OpenK.AllK
import Wide.FinOn
import KE.KExcIs
import HandS.ForMost
import HandS.ForExc
import HandS.Wide
import HandS.Defaults
import HandS.IsInst
import HandS.ExcIs
import HandS.ExcOwn
import HandS.ExcValue
import HandS.ExcInit
import HandS.MakeKw
import HandS.MakeKwOnly
import HandS.Lambda
import HandS.TryOnly
import HandS.ClsMeth
import HandS.HeadWalk
import HandS.ExcField
import KE.GoesEnum
import HandS.Walk
import KE.GoesEnumKw
import KE.GoesMore
import HandS.SortKw
import Lean
import KE.KStateDown
import HandS.More
import HandS.Words
import HandS.WordsExc
import HandS.Head0
import HandS.Head1
import HandS.Head2
import HandS.HeadEnd
import HandS.HeadHook1
import HandS.HeadHook2
import HandS.HeadHook4
import Flt.RightSqrt
import HandS.Zip
import HandS.ExcBuiltin
import HandS.EndOwn
import HandS.Small
import HandS.Style
import HandS.TupAny
import HandS.TupLe
import HandS.Conv
import HandS.Deep
import HandS.TupMul
import PySem.Challenge.RW_etasure_k81_whole_franklins_exchange
set_option Elab.async false
set_option linter.all false
set_option maxRecDepth 100000
set_option maxHeartbeats 4000000
set_option pp.maxSteps 3000
namespace Xv
open PySem PySem.Spec PyProof.Rows L2
/-! ### errors of own classes as values -/
/-- at a an error of the class at C: without a dict, or with its dict at d -/
def ErrAt (H : Hp) (a C : Addr) : Prop := H a = some (ExO (.ref C) a) ∨ ∃ d fs, H a = some (exo a C (some d)) ∧ H d = some (exd d fs)
section
variable {X : Cx} {pins : List (Addr × Obj)} {σ : L2.St} {H : Hp} {s : Shared} {a C : Addr}
theorem errAt_inst (I : Inv X pins σ H s) (h : ErrAt H a C) : ∃ ox od, PySem.W.InstAt s.heap a ox C od := by
  rcases h with h | ⟨d, fs, h, hd⟩
  · have q : ObjOk X.prog X.w H s.heap a (ExO (.ref C) a) := I.hok a _ h
    obtain ⟨⟨oe, vs, e, z, dt, _⟩, _⟩ := q
    obtain ⟨oc, od, oda, osl⟩ := oe
    obtain ⟨z1, z2⟩ := z
    dsimp only at z1 z2 dt
    subst z1 z2 dt
    exact ⟨_, none, e, rfl, rfl, trivial⟩
  · obtain ⟨t1, ho⟩ := exo_at I.hok h
    obtain ⟨mA, ⟨od, es, ep, e2, _⟩, _⟩ := exd_at I.hok hd
    exact ⟨_, some od, ho, rfl, rfl, e2⟩
/-- isinstance(e, c), e such an error -/
def rIsErr (K : PySem.W.Frag) : List V → Hp → VK → Prop := fun xs H Q => ∃ (a C : Addr) (c : V) (cv : Value) (b : Bool), xs = [.ref a, c] ∧ ErrAt H a C ∧ ExcC K C ∧ (∀ u, RelV c u → u = cv) ∧ PySem.W.kitOne K (.ref C) cv = some b ∧ Q (.bl b) H
theorem call_isErr : CallR X (.builtin "isinstance") (rIsErr X.K) := by
  intro pins s σ H xs us Q I r h
  obtain ⟨a, C, c, cv, b, rfl, he, T, hc, hk, q⟩ := h
  obtain ⟨u1, u2, rfl, r1, r2⟩ := vals2 r
  cases (show u1 = Value.ref a from r1)
  have e2 := hc _ r2
  subst e2
  obtain ⟨ox, od, J⟩ := errAt_inst I he
  obtain ⟨cd, hcd, _⟩ := PySem.W.any_some T.hd
  exact PySem.W.kia_one (PySem.W.kitx_exc (by rw [hcd]; rfl) T.hg T.hk T.hs T.ha T.hn T.ht T.hm) I.kIn J hk (fun z => nomatch z) fun tk => ⟨.bl b, H, I.tok tk, rfl, q⟩
end
/-! ### e.f of an error that holds its fields -/
structure ErrRd (K : PySem.W.Frag) (C : Addr) (f : Str) : Prop where
  ga : PySem.W.findIn K (.ref C) "__getattribute__" = some (some (.builtin "BaseException.__getattribute__"))
  gg : PySem.W.findIn K (.ref C) "__getattr__" = some none
  sub : PySem.W.subIn K (.ref C) (.type "BaseException") = some true
  hd : PySem.W.hasDictIn K C = true
  no : PySem.W.findIn K (.ref C) f = some none
def tErrF (K : PySem.W.Frag) (f : Str) (te : TE) : TE := fun σ H Q => te σ H fun x H1 => ∃ (a C d : Addr) (fs : List (Str × V)) (v : V), x = .ref a ∧ H1 a = some (exo a C (some d)) ∧ H1 d = some (exd d fs) ∧ ErrRd K C f ∧ fs.lookup f = some v ∧ Q v H1
section
variable {X : Cx}
theorem pe_errF {e : Expr} {te : TE} {f : Str} {pos : Pos} (he : PE X e te) (hb : attributeBase e f X.env (eval e X.env) = eval e X.env := by rfl) : PE X (.Attribute e f pos) (tErrF X.K f te) := by
  refine ⟨fun pins s σ H Q I h => attr_of hb (thn (he.run pins s σ H _ I h) fun u s1 hh => ?_)⟩
  obtain ⟨x, H1, I1, rx, a, C, d, fs, v, ex, ha, hd, T, hl, q⟩ := hh
  subst ex
  cases (show u = Value.ref a from rx)
  obtain ⟨t1, ho⟩ := exo_at I1.hok ha
  obtain ⟨mA, hns, hr⟩ := exd_at I1.hok hd
  obtain ⟨od, hod, hlk⟩ := lookIn_ns hns
  obtain ⟨u, hu, ru⟩ := RelO.some_of (v := v) (o := mA f) (by rw [← hl]; exact hr f)
  have J : PySem.W.InstAt s1.heap a _ C (some od) := ⟨ho, rfl, rfl, hod⟩
  exact PySem.HandSPX.exc_get I1.kIn J T.ga T.gg T.sub (PySem.W.findObj_own T.hd T.no rfl (by rw [hlk, hu])) (handed_of ru) ⟨v, H1, I1.tok _, ru, q⟩
end
/-! ### S.__init__(self, ..), S an own class over ValueError without an __init__ of its own -/
section
variable {X : Cx} {o e : Expr} {es : List Expr} {ta : TA} {x : Str} {p1 p2 pos : Pos}
theorem pe_sinit {S : Addr} {mc : Value} {pl : Sem Bool} (hg : Gl X x) (hm : X.mg x = some (.ref S)) (kS : PySem.W.keepIn X.K (.ref S) = true) (rd : PySem.W.readsIn X.K S mc = true) (sg : PySem.W.specialIn X.K (.ref S) "__getattribute__" = some (some (.builtin "type.__getattribute__")))
    (vV : PySem.W.findCls X.K (.ref S) mc "__init__" = some (.val (.builtin "ValueError.__init__"))) (ha : PA X (e :: es) ta) (hdb : (x == ("__debug__" : Str)) = false := by decide)
    (hc : eval (.Call (.Attribute (.Name x p1) "__init__" p2) (e :: es) [] pos) X.env = (do
      let ov ← eval (.Name x p1) X.env
      standAt p2.atName
      let (f, first) ← holding [ov] (getMethod ov "__init__" pl)
      callWith pos f first (backTo pos (starEach (e :: es) X.env)) (backToKw pos (keywordEach [] X.env))) := by rfl)
    (he : starEach (e :: es) X.env = (false, eval e X.env) :: starEach es X.env := by rfl) (hpl : (backTo pos (starEach es X.env)).any (·.1) = false := by rfl) :
    PE X (.Call (.Attribute (.Name x p1) "__init__" p2) (e :: es) [] pos) (tVeI X.K ta) := by
  refine ⟨fun pins s σ H Q I h => PySem.W.methodCall_KW (ld_glob I hg hm ?_ hdb) hc⟩
  refine PySem.W.method_cls I.kIn sg (PySem.W.cls_value I.kIn rd vV (by decide +kernel) ?_)
  show wpAny _ _ (callWith pos (Value.builtin "ValueError.__init__") [] (backTo pos (starEach (e :: es) X.env)) []) _ _ _
  refine PyProof.Rows.callWith_method1 (thn (ha.run pos pins _ σ H _ (I.tok _) h) fun us s1 hh => ?_) he hpl
  obtain ⟨vs, H1, I1, r1, a, C, ws, ev, hl, T, ea, q⟩ := hh
  subst ev
  cases r1 with
  | @cons _ u0 _ ur ra rw' =>
    cases (show u0 = Value.ref a from ra)
    have hlen : ur.length ≤ sizeLine := by
      have e1 := Paired.length rw'
      rw [sizeLine_eq]
      omega
    exact oinit_ok T I1 ea hlen fun s' J => ⟨.non, H1, J, rfl, q⟩
end
/-! ### C(e, ..) of such a class as a value, its own __init__ walked as a def -/
def tErrV (C : Addr) (sp : Sp) (E : XK) (ta : TA) : TE := fun σ H Q => ta σ H fun vs H1 => vs.length ≤ 1000 ∧ ∀ a, H1 a = none → sp (.ref a :: vs) (upd H1 a (exo a C none)) (fun v H2 => v = .non ∧ Q (.ref a) H2) E
section
variable {X : Cx} {e : Expr} {es : List Expr} {ta : TA} {x : Str} {p pos : Pos}
theorem pe_errV {CX : CXT} {C fI : Addr} {k : Nat} {fd : FuncData} {ps : List Str} {sp : Sp} {E : XK} (T : OexC X.K C) (iC : PySem.W.findIn X.K (.ref C) "__init__" = some (some (.ref fI))) (tI : PySem.W.typeIn X.K (.ref fI) = some (.type "function"))
    (F1 : FnOk X.prog X.w X.K X.mg X.base CX k fI fd ps sp) (hr : Room (k + 1) X.A) (hb : Binds X.K fd ps []) (hx : Passes CX X E) (hg : Gl X x) (hm : X.mg x = some (.ref C)) (ha : PA X (e :: es) ta)
    (hdb : (x == ("__debug__" : Str)) = false := by decide) (he : starEach (e :: es) X.env = (false, eval e X.env) :: starEach es X.env := by rfl) (hpl : (backTo pos (starEach es X.env)).any (·.1) = false := by rfl) :
    PE X (.Call (.Name x p) (e :: es) [] pos) (tErrV C sp E ta) := by
  refine ⟨fun pins s σ H Q I h => wpAny_Call_Name_kw (ld_glob I hg hm ?_ hdb)⟩
  obtain ⟨nm, q, N, bs, bm, sn, sub, ab, col, dd, k0, k1, k2, k3, k5, hC, hbm⟩ := T.cls
  refine PySem.W.callWith_K (h₀ := X.base) I.ok.mod.kin T.kC (thn (ha.run pos pins s σ H _ I h) fun us s1 hh => ?_) he hpl
  obtain ⟨vs, H1, I1, r1, hz, q1⟩ := hh
  refine ⟨I1.kIn, ?_⟩
  show wpAny _ _ (call (.ref C) us) _ _ _
  obtain ⟨hp, g, dr, tk, os⟩ := s1
  have hq := q1 (hp.objs.size + 1) (I1.hok.fresh (Nat.le_succ _))
  have I2 : Inv X pins σ (upd H1 (hp.objs.size + 1) (exo (hp.objs.size + 1) C none)) ⟨(hp.push (PySem.W.kdv_tup us)).push (PySem.HandSPX.excO C hp.objs.size), g, dr, tk, os⟩ :=
    I1.laid (t' := tk) (fun b o z => Heap.get?_push_of_some _ (Heap.get?_push_of_some _ z)) (Nat.le_succ _) (L2.exo_ok (by heap_get))
  have r2 : Vals (V.ref (hp.objs.size + 1) :: vs) (Value.ref (hp.objs.size + 1) :: us) := .cons rfl r1
  have hl : (Value.ref (hp.objs.size + 1) :: us).length = ps.length := by rw [← r2.length]; exact F1.len _ _ _ _ hq
  have hb2 := hb _ (Value.ref (hp.objs.size + 1) :: us) I2.kIn (by simpa using hl)
  rw [List.append_nil] at hb2
  have hus : us.length ≤ sizeLine := by
    have e1 := Paired.length r1
    rw [sizeLine_eq]
    omega
  refine wpAny_call (PySem.HandSPX.call_own F.excBase_ValueError (fun Y => PySem.HandSPX.refsVE_contains Y bm hbm) (I1.kIn _ _ hC) (PySem.W.looks_findIn I1.kIn iC) (fun self => PySem.W.bind_fn I1.kIn self tI) hus (codeAny_mono
    (F1.run _ X.stack _ _ ⟨_, []⟩ _ _ _ E (hr.make C us []) (I2.env0.make C us []) hb2 r2 hq) fun r s' hq' => ?_))
  rcases r with er | fl
  · exact hx pins σ _ _ er s' I2 hq'
  · cases fl with
    | ret u =>
      obtain ⟨v, H', I3, rv, ev, q3⟩ := I2.after hq'
      subst ev
      exact ⟨rv, ⟨V.ref (hp.objs.size + 1), H', I3, rfl, q3⟩⟩
    | next => exact hq'.elim
    | brk => exact hq'.elim
    | cont => exact hq'.elim
end
end Xv

set_option Elab.async false
set_option linter.all false
set_option maxRecDepth 100000
set_option maxHeartbeats 4000000
set_option pp.maxSteps 3000
/-! try: .. except x as n: suite, the exception known behind the try -/
namespace Xv
open PySem PySem.Spec PyProof.Rows L2
/-- at a an exception of the class cls, its dict d -/
def ErX (cls : Value) (d : Option Addr) (a : Addr) : HO := .ext fun h => ∃ (oe : Obj) (vs : Array Value), h.get? a = some oe ∧ Zc cls d oe ∧ oe.data = .fields vs
section
variable {X : Cx} {pins : List (Addr × Obj)} {σ : L2.St} {H : Hp} {s : Shared} {a : Addr} {oe : Obj} {vs : Array Value} {cls : Value} {d : Option Addr}
/-- a pinned exception that was not there at the entry is tracked -/
theorem track (I : Inv X ((a, oe) :: pins) σ H s) (hex : X.ex = []) (n0 : X.s_0.heap.get? a = none) (hz : Zc cls d oe) (hd : oe.data = .fields vs) (hA : ∀ p ∈ X.pn ++ pins, p.1 ≠ a) : Inv X pins σ (upd H a (ErX cls d a)) s := by
  obtain ⟨ha, hn, nL, nF, _⟩ := I.pin (a, oe) (List.mem_append_right _ List.mem_cons_self)
  have old : ∀ b o, X.s_0.heap.get? b = some o → b ≠ a := fun b o e z => by
    rw [z, n0] at e
    cases e
  have nl : X.env.locals ≠ a := fun z => nL z.symm
  have cl : ∀ x c, X.env.cells.lookup x = some c → c ≠ a := fun x c e z => by
    obtain ⟨v, o, q1, q2⟩ := I.cell x c e
    rw [z] at q1
    have ha' : s.heap.get? a = some oe := ha
    rw [ha'] at q1
    cases q1
    rw [hd] at q2
    cases q2
  have J : Inv X pins σ H s := ClX.unpin I
  refine ⟨J.ok, J.os, J.bare, ⟨J.base.keep, J.base.slot, fun b o e n hx => ?_, J.base.there, fun b xs e => ?_, fun b o u e => ?_, fun b ps e => ?_⟩, J.loc, J.cell, ?_, fun x c e => ?_, fun p hp => ?_, fun b o e => ?_, J.len⟩
  · rw [upd_ne (old b o e)]
    exact J.base.free b o e n hx
  · have q := J.base.tups b xs e
    rw [upd_ne (ne_of_none q hn)]
    exact q
  · have q := J.base.frzs b o u e
    rw [upd_ne (ne_of_none q hn)]
    exact q
  · obtain ⟨more, q⟩ := J.base.tbls b ps e
    exact ⟨more, by rw [upd_ne (ne_of_none q hn)]; exact q⟩
  · rw [upd_ne nl]
    exact J.free
  · rw [upd_ne (cl x c e)]
    exact J.freeC x c e
  · obtain ⟨e1, e2, e3, e4, e5⟩ := J.pin p hp
    exact ⟨e1, by rw [upd_ne (hA p hp)]; exact e2, e3, e4, e5⟩
  · by_cases hb : b = a
    · subst hb
      rw [upd_same] at e
      cases e
      exact ⟨⟨oe, vs, ha, hz, hd⟩, ⟨oe, ha⟩, fun h1 h2 q k => by
        obtain ⟨o, w, q1, q2⟩ := q
        exact ⟨o, w, k o q1, q2⟩⟩
    · rw [upd_ne hb] at e
      exact (J.hok b o e).stay (fun c v _ q => q) (fun c q => by rw [upd_ne (ne_of_none q hn)]; exact q) fun c xs q => by rw [upd_ne (ne_of_none q hn)]; exact q
end
/-- what the clause wishes of an exception of the body: behind the suite the exception is known -/
def wKeep (K : PySem.W.Frag) (len : Nat) (c : Value) (i : Nat) (ts : TS) (Wout : WX) (D : Ends) : WX := fun cls d σ H => σ.length = len → ∃ b, PySem.W.exmOne K cls c = some b ∧
  (b = true → ∀ a, H a = none → ts { nx := fun σ' H' => D.nx (σ'.set i none) (upd H' a (ErX cls d a)), rt := fun _ _ => False, bk := fun _ _ => False, ct := fun _ _ => False } (σ.set i (some (.ref a))) H) ∧ (b = false → Wout cls d σ H)
section
variable {X : Cx} {x n : Str} {c : Value} {i : Nat} {body suite : List Stmt} {b0 : Stmt} {np pos pos' : Pos} {tb : WX → TS} {ts : TS} {Wout : WX}
theorem ps_try_keep (hs : X.stack = X.env :: X.outer) (hf : X.env.frame = some X.env.locals) (hN : X.N.Nodup) (hex : X.ex = []) (hi : X.N[i]? = some n) (hln : X.env.kindOf n = some .local) (hc : Names X x c) (tk : Takes X Wout)
    (hb : ∀ (W : WX) (pn : List (Addr × Obj)) (xe : Value → Shared → Prop), Takes (X.tr pn xe) W → PSs (X.tr pn xe) body (tb W)) (hsu : ∀ (a : Addr) (oe : Obj) (pn : List (Addr × Obj)), PSs (X.suite a ((a, oe) :: pn)) (b0 :: suite) ts) :
    PS X (.Try body [.ExceptHandler (some (.Name x np)) (some n) (b0 :: suite) pos'] [] [] pos) (fun D σ H => tb (wKeep X.K X.N.length c i ts Wout D) D σ H) := by
  refine ⟨fun pins s σ H D I h => ?_⟩
  have ok := I.ok
  have frm : X.A.frames = some (X.env :: X.outer) := by
    rw [ok.frames, hs]
  refine wpAny_Try_except (wpAny_mono ((hb (wKeep X.K X.N.length c i ts Wout D) (X.pn ++ pins) (fun e s1 => wpAny (model X.prog X.w) X.A (noteFrame e X.env) (fun _ s2 => wpAny (model X.prog X.w) X.A (setFlight e none) (fun _ s3 => wpAny (model X.prog X.w) X.A
    (handleBy e X.env [.ExceptHandler (some (.Name x np)) (some n) (b0 :: suite) pos']) (SP X pins D) X.xe s3) X.xe s2) X.xe s1) (fun u s' xx => ?_)).run [] s σ H D (I.toTry _) h) (fun f s1 hsp => ?_) (fun _ _ he => he))
  · obtain ⟨a, B, sI, pins', σ', H', cls, d, rfl, J', nb, up, sky, na, os, ag, hw⟩ := xx
    obtain ⟨b, hb1, hyes, hno⟩ := hw J'.len
    have J : Inv X pins σ' H' sI := J'.ofTry ok
    rw [hs] at sky
    refine Sky.land Zc.steady frm hf sky fun h3 fl3 up3 => ?_
    have J3 : Inv X pins σ' H' { s' with heap := h3 } := J.landed nb fl3.1 (up.trans up3) os ag
    obtain ⟨oe3, vs3, he3, hz3, hd3⟩ := fl3.there
    have nfr : a ∉ frs (X.env :: X.outer) := fun hm => by
      obtain ⟨_, o', e', hnf⟩ := fl3.2.2.1.mem hm
      rw [he3] at e'
      cases e'
      exact hnf _ hd3
    have nL : a ≠ X.env.locals := fun z => nfr (List.mem_filterMap.mpr ⟨X.env, List.mem_cons_self, by rw [hf, z]⟩)
    have nF : a ∉ X.fs := fun hm => by
      obtain ⟨e, he, q⟩ := List.mem_filterMap.mp hm
      exact nfr (List.mem_filterMap.mpr ⟨e, List.mem_cons_of_mem _ he, q⟩)
    have notB : B.get? a = none := fl3.2.1
    have onB : ∀ b o, sI.heap.get? b = some o → b ∉ frs (X.env :: X.outer) → b ≠ a := fun b o e hm z => by
      have q := nb b o e (by rw [hs]; exact hm)
      rw [z, notB] at q
      cases q
    have n0 : X.s_0.heap.get? a = none := by
      cases e : X.s_0.heap.get? a with
      | none => rfl
      | some o =>
        obtain ⟨o', q⟩ := J.base.there a o e (by rw [hex]; exact fun z => nomatch z)
        exact absurd rfl (onB a o' q nfr)
    have nP : ∀ p ∈ X.pn ++ pins, p.1 ≠ a := fun p hp => by
      obtain ⟨e1, _, e3, e4, _⟩ := J.pin p hp
      refine onB p.1 p.2 e1 fun hm => ?_
      rcases List.mem_cons.mp (show p.1 ∈ X.env.locals :: frs X.outer from by
        have q : frs (X.env :: X.outer) = X.env.locals :: frs X.outer := by
          show (X.env :: X.outer).filterMap (·.frame) = _
          rw [List.filterMap_cons, hf]
          rfl
        rw [← q]
        exact hm) with z | z
      · exact e3 z
      · exact e4 z
    have S3 := J3.suite he3 hd3 na nL nF
    refine wpAny_handleBy_cons (codeAny_handlers_test ?_) (by intro q; cases q)
    have LT : PySem.W.Looks (model X.prog X.w) h3 (typeOf (.ref a)) cls := fun A Q E s k q => wpAny_typeOf_ref (k _ _ he3) (by rw [hz3.1]; exact q)
    have LM := PySem.W.exm_one (M := model X.prog X.w) (J3.kIn) LT hb1
    have test : ∀ {Q : Value → Shared → Prop} {E : Value → Shared → Prop}, Q c { s' with heap := h3 } → wpAny (model X.prog X.w) (X.A.mark (some (.ref a))) (eval (.Name x np) X.env) Q E { s' with heap := h3 } := by
      intro Q E q
      obtain ⟨hg, hdbg, hm | ⟨hm, hv, hnn⟩⟩ := hc
      · exact ld_glob (X := X.suite a ((a, oe3) :: (X.pn ++ pins))) S3 hg hm q hdbg
      · exact ld_blt (X := X.suite a ((a, oe3) :: (X.pn ++ pins))) S3 hg hm hv q hnn hdbg
    refine test (LM.here ?_)
    cases b with
    | true =>
      refine codeAny_handlers_suite_as (HandSPX.lands_againZ fl3 fun h4 fl4 up4 => ?_)
      have J4 : Inv X pins σ' H' { s' with heap := h4 } := J.landed nb fl4.1 ((up.trans up3).trans up4) os ag
      obtain ⟨oe4, vs4, he4, hz4, hd4⟩ := fl4.there
      refine store_ok (X := X.suite a ((a, oe4) :: (X.pn ++ pins))) (v := .ref a) (J4.suite he4 hd4 na nL nF) hN hi (.inl hln) rfl (fun s5 S5 => ?_) (.inr hln)
      refine wpAny_mono ((hsu a oe4 (X.pn ++ pins)).run [] s5 _ H' _ S5 (hyes rfl a na)) (fun f s6 hsp => ?_) (fun _ _ z => False.elim z)
      cases f with
      | next =>
        obtain ⟨σ6, H6, S6, q6⟩ := hsp
        have P6 : Inv X ((a, oe4) :: pins) σ6 H6 s6 := (S6.unsuite ok).pins_of fun p hp => by
          rcases List.mem_cons.mp hp with z | z
          · rw [z]
            exact S6.pin (a, oe4) (List.mem_append_left _ List.mem_cons_self)
          · exact S6.pin p (List.mem_append_left _ (List.mem_cons_of_mem _ (List.mem_append_right _ z)))
        exact gone_ok P6 hN hi hln fun s7 J7 => ⟨_, _, track J7 hex n0 hz4 hd4 nP, q6⟩
      | brk =>
        obtain ⟨_, _, _, q6⟩ := hsp
        exact q6.elim
      | cont =>
        obtain ⟨_, _, _, q6⟩ := hsp
        exact q6.elim
      | ret u =>
        obtain ⟨_, _, _, _, _, q6⟩ := hsp
        exact q6.elim
    | false =>
      show wpAny _ X.A (handleBy (.ref a) X.env []) _ _ _
      refine wpAny_handleBy_nil ?_
      obtain ⟨k1, k2, k3, oe, vs, T, oT, ts', he, hz, hd, h1, hr⟩ := id fl3
      unfold PySem.passOn
      refine wpAny_bind (wpAny_field he hd h1 ?_)
      rw [if_neg (show ¬ ((Value.ref T == Value.none) = true) from by simp)]
      have fin : wpAny (model X.prog X.w) X.A (setFlight (.ref a) X.env.frame) (fun _ s4 => wpAny (model X.prog X.w) X.A (throw (.ref a) : Sem Flow) (SP X pins D) X.xe s4) X.xe { s' with heap := h3 } := by
        rw [hf]
        exact HandSPX.setFlight_upZ fl3 fun h4 hh4 up4 => wpAny_throw (tk _ _ ⟨a, B, sI, pins, σ', H', cls, d, rfl, J, nb, (up.trans up3).trans up4, .inr (.inr (by rw [hs]; exact hh4)), na, os, ag, hno rfl⟩)
      first
        | exact wpAny_bind (wpAny_pure (wpAny_bind fin))
        | exact wpAny_bind fin
  · cases f with
    | next =>
      obtain ⟨σ', H', J', q⟩ := hsp
      exact wpAny_execs_nil ⟨σ', H', J'.ofTry ok, q⟩
    | brk =>
      obtain ⟨σ', H', J', q⟩ := hsp
      exact ⟨σ', H', J'.ofTry ok, q⟩
    | cont =>
      obtain ⟨σ', H', J', q⟩ := hsp
      exact ⟨σ', H', J'.ofTry ok, q⟩
    | ret u =>
      obtain ⟨v, σ', H', J', r, q⟩ := hsp
      exact ⟨v, σ', H', J'.ofTry ok, r, q⟩
end
end Xv

set_option Elab.async false
set_option linter.all false
set_option maxRecDepth 100000
set_option maxHeartbeats 4000000
set_option pp.maxSteps 3000
/-! _law_caught: work() is called, its exception is handed back -/
namespace Xv
open PySem PySem.Spec PyProof.Rows L2 LamX
abbrev caughtBody (p1 p2 p3 p4 p5 p6 p7 p8 p9 pa pb pc pd pe : Pos) (j : Nat) : List Stmt := [.Assign [.Name "caught" p1] (.Constant .none j p2) p3,
  .Try [.Expr (.Call (.Name "work" p4) [] [] p5) p6] [.ExceptHandler (some (.Name "SeriesError" p7)) (some "error") [.Assign [.Name "caught" p8] (.Name "error" p9) pa] pb] [] [] pc, .Return (some (.Name "caught" pd)) pe]
/-- what is asked: work() gives whatever, or raises an exception that is caught -/
def TCaught (K : PySem.W.Frag) (CS : Addr) : (XK → Hp → VK → Prop) → Hp → VK → Prop := fun tl H Q =>
  tl (fun cls d H' => PySem.W.exmOne K cls (.ref CS) = some true ∧ ∀ a, H' a = none → Q (.ref a) (upd H' a (ErX cls d a))) H (fun _ H' => ∃ v, some (some V.non) = some (some v) ∧ Q v H')
theorem caught_gives {X : Cx} {sg : Scope} {g CS : Addr} {cdg : Value} {q : Str} {p1 p2 p3 p4 p5 p6 p7 p8 p9 pa pb pc pd pe : Pos} {j : Nat} (Sg : FnScope ["work", "caught", "error"] ["work"] sg) (v0 : sg.names.lookup ("work" : Str) = some NameKind.local) (v1 : sg.names.lookup ("caught" : Str) = some NameKind.local) (v2 : sg.names.lookup ("error" : Str) = some NameKind.local)
    (hge : sg.names.lookup ("SeriesError" : Str) = some NameKind.globalImplicit) (hme : X.mg "SeriesError" = some (.ref CS)) : GivesTo X ["work", "caught", "error"] "_law_caught" sg g cdg (caughtBody p1 p2 p3 p4 p5 p6 p7 p8 p9 pa pb pc pd pe j) "work" q (TCaught X.K CS) := by
  intro f c' s H Q tl act hc h
  have hgl : Gl (cxOf C8.CX0 X.prog X.w X.K X.mg X.base ["work", "caught", "error"] "_law_caught" sg g cdg X.A X.stack s H C8.E0).nox "SeriesError" := hge
  refine ⟨_, pss_cons (ps_set (i := 1) Sg.nd rfl (Or.inl v1) pe_non) (pss_cons (ps_try_keep (X := (cxOf C8.CX0 X.prog X.w X.K X.mg X.base ["work", "caught", "error"] "_law_caught" sg g cdg X.A X.stack s H C8.E0).nox) (c := .ref CS) (i := 2)
      (tb := fun W D σ H => ∃ Ech : XK, (∀ cls d σ' H', Ech cls d H' → W cls d σ' H') ∧ σ[0]? = some (some (.ref f)) ∧ H c' = some (CodeO c' q) ∧ tl Ech H (fun _ H' => D.nx σ H'))
      rfl rfl Sg.nd rfl rfl v2 ⟨hgl, by decide, .inl hme⟩ L2.takes0 (fun W pn xe tk => ?_) (fun a oe pn => pss_one (ps_set (i := 1) Sg.nd rfl (Or.inl v1) (pe_var (i := 2) rfl (Or.inl v2))))) (pss_one (ps_ret (pe_var (i := 1) rfl (Or.inl v1))))), ?_⟩
  · refine ⟨fun pins s' σ H' D I h' => ?_⟩
    obtain ⟨Ech, hW, h1, h2, h3⟩ := h'
    have hp := act W pn xe Ech p4 p5 tk hW
    have hq := pss_one (ps_expr (pos := p6) hp)
    exact hq.run pins s' σ H' D I ⟨h1, h2, h3⟩
  · refine ⟨fun cls d H' => PySem.W.exmOne X.K cls (.ref CS) = some true ∧ ∀ a, H' a = none → Q (.ref a) (upd H' a (ErX cls d a)), fun cls d σ' H' hE => ?_, rfl, hc, ?_⟩
    · obtain ⟨e1, e2⟩ := hE
      intro hl
      match σ', hl with
      | [s0, s1, s2], _ => exact ⟨true, e1, fun _ a ha => ⟨_, rfl, _, rfl, e2 a ha⟩, fun z => nomatch z⟩
    · exact h
/-- a caught exception of the class at C at a, its fields fs, if it has a dict -/
def ErC (H : Hp) (a C : Addr) (fs : Option (List (Str × V))) : Prop := (fs = none ∧ H a = some (ErX (.ref C) none a)) ∨ ∃ d xs, fs = some xs ∧ H a = some (ErX (.ref C) (some d) a) ∧ H d = some (.xd xs)
section
variable {X : Cx} {pins : List (Addr × Obj)} {σ : L2.St} {H : Hp} {s : Shared} {a C : Addr} {fs : Option (List (Str × V))}
theorem erC_same {H H' : Hp} (h : ErC H a C fs) (k : Same H H') : ErC H' a C fs := by
  rcases h with ⟨e, h⟩ | ⟨d, xs, e, h, hd⟩
  · exact .inl ⟨e, k _ _ h⟩
  · exact .inr ⟨d, xs, e, k _ _ h, k _ _ hd⟩
theorem erC_inst (I : Inv X pins σ H s) (h : ErC H a C fs) : ∃ ox od, PySem.W.InstAt s.heap a ox C od := by
  rcases h with ⟨_, h⟩ | ⟨d, xs, _, h, hd⟩
  · have q : ObjOk X.prog X.w H s.heap a (ErX (.ref C) none a) := I.hok a _ h
    obtain ⟨⟨oe, vs, e, z, dt⟩, _⟩ := q
    obtain ⟨oc, od, oda, osl⟩ := oe
    obtain ⟨z1, z2⟩ := z
    dsimp only at z1 z2 dt
    subst z1 z2 dt
    exact ⟨_, none, e, rfl, rfl, trivial⟩
  · have q : ObjOk X.prog X.w H s.heap a (ErX (.ref C) (some d) a) := I.hok a _ h
    obtain ⟨⟨oe, vs, e, z, dt⟩, _⟩ := q
    have hx : ObjOk X.prog X.w H s.heap d (.xd xs) := I.hok d _ hd
    obtain ⟨mA, hns, hr⟩ := hx
    obtain ⟨od, ho, hl⟩ := lookIn_ns hns
    exact ⟨oe, some od, e, z.1, by unfold PySem.W.notCls; rw [dt] <;> rfl, by rw [z.2]; exact ho⟩
/-- isinstance(e, c), e a caught exception -/
def rIsC (K : PySem.W.Frag) : List V → Hp → VK → Prop := fun xs H Q => ∃ (a C : Addr) (fs : Option (List (Str × V))) (c : V) (cv : Value) (b : Bool), xs = [.ref a, c] ∧ ErC H a C fs ∧ ExcC K C ∧ (∀ u, RelV c u → u = cv) ∧ PySem.W.kitOne K (.ref C) cv = some b ∧ Q (.bl b) H
theorem call_isC : CallR X (.builtin "isinstance") (rIsC X.K) := by
  intro pins s σ H xs us Q I r h
  obtain ⟨a, C, fs, c, cv, b, rfl, he, T, hc, hk, q⟩ := h
  obtain ⟨u1, u2, rfl, r1, r2⟩ := vals2 r
  cases (show u1 = Value.ref a from r1)
  have e2 := hc _ r2
  subst e2
  obtain ⟨ox, od, J⟩ := erC_inst I he
  obtain ⟨cd, hcd, _⟩ := PySem.W.any_some T.hd
  exact PySem.W.kia_one (PySem.W.kitx_exc (by rw [hcd]; rfl) T.hg T.hk T.hs T.ha T.hn T.ht T.hm) I.kIn J hk (fun z => nomatch z) fun tk => ⟨.bl b, H, I.tok tk, rfl, q⟩
end
/-- e.f, e a caught exception with fields -/
def tErC (K : PySem.W.Frag) (f : Str) (te : TE) : TE := fun σ H Q => te σ H fun x H1 => ∃ (a C : Addr) (fs : List (Str × V)) (v : V), x = .ref a ∧ ErC H1 a C (some fs) ∧ XfC K C ∧ PySem.W.findIn K (.ref C) f = some none ∧ fs.lookup f = some v ∧ Q v H1
theorem pe_erC {X : Cx} {e : Expr} {te : TE} {pos : Pos} {n : Str} (he : PE X e te) (hb : attributeBase e n X.env (eval e X.env) = eval e X.env := by rfl) : PE X (.Attribute e n pos) (tErC X.K n te) := by
  refine ⟨fun pins s σ H Q I h => attr_of hb (thn (he.run pins s σ H _ I h) fun u s1 hh => ?_)⟩
  obtain ⟨x, H1, I1, rx, a, C, fs, v, rfl, he, T, hno, l, q⟩ := hh
  obtain rfl : u = Value.ref a := rx
  rcases he with ⟨z, _⟩ | ⟨d, xs, z, h, hd⟩
  · cases z
  · cases z
    have qo : ObjOk X.prog X.w H1 s1.heap a (ErX (.ref C) (some d) a) := I1.hok a _ h
    obtain ⟨⟨oe, vs, e, z, dt⟩, _⟩ := qo
    have hx : ObjOk X.prog X.w H1 s1.heap d (.xd fs) := I1.hok d _ hd
    obtain ⟨mA, hns, hr⟩ := hx
    obtain ⟨od, ho, hl⟩ := lookIn_ns hns
    obtain ⟨u, hu, ru⟩ := RelO.some_of (v := v) (o := mA n) (by rw [← l]; exact hr n)
    have J : PySem.W.InstAt s1.heap a oe C (some od) := ⟨e, z.1, by unfold PySem.W.notCls; rw [dt] <;> rfl, by rw [z.2]; exact ho⟩
    exact HandSPX.exc_get I1.kIn J T.ga T.gg T.exC (PySem.W.findObj_own T.hdC hno rfl (by rw [hl, hu])) (handed_of ru) ⟨v, H1, I1.tok _, ru, q⟩
end Xv

set_option Elab.async false
set_option linter.all false
set_option maxRecDepth 100000
set_option maxHeartbeats 4000000
set_option pp.maxSteps 3000
namespace PySem
theorem meets_enumerate_new1 {v : Value} {o : Obj} {H : Heap → Prop} (B : Begins v o H) :
    Meets (Builtin.«enumerate.__new__» ⟨[.type "enumerate", v], []⟩) (fun _ R s => H s.heap ∧
      R (.ok (.ret (.ref (s.heap.push o).objs.size))) { s with heap := (s.heap.push o).push { cls := .type "enumerate", data := .fields #[.none, .bool false, .ref s.heap.objs.size, rawInt 0, .none, .none] } }) :=
  .of_wp fun prog w A R s h => by
    obtain ⟨hp, g, d, tk, os⟩ := s; obtain ⟨h1, h⟩ := h
    have hsub := sub_enumerate
    have q1 : ∀ {A' : Around} {E : Value → Shared → Prop} {Q : Value → Shared → Prop}, Q (.ref hp.objs.size) ⟨hp.push o, g, d, tk, os⟩ → wpAny (model prog w) A' (pyIter v) Q E ⟨hp, g, d, tk, os⟩ :=
      fun q => B.iter prog w _ _ ⟨hp, g, d, tk, os⟩ _ h1 q
    wp_walk using q1
    refine wpAny_stack_any fun st => wpAny_pure ?_
    split
    · rename_i c _ _ _ _ _
      cases (c == Value.type "enumerate")
      · wp_walk using q1
        exact ⟨_, rfl, h⟩
      · wp_walk using q1
        exact ⟨_, rfl, h⟩
    · wp_walk using q1
      exact ⟨_, rfl, h⟩
section
variable {prog : Program} {w : World} {A : Around} {E : Value → Shared → Prop} {s : Shared}
theorem enum_begins1 {v : Value} {o : Obj} {H : Heap → Prop} {Q : Value → Shared → Prop} (B : Begins v o H) (h1 : H s.heap)
    (h : ∀ h', IsEnum h' (s.heap.objs.size + 1) s.heap.objs.size 0 .none → h'.get? s.heap.objs.size = some o → h'.objs.size = s.heap.objs.size + 2 →
      (∀ b o, s.heap.get? b = some o → h'.get? b = some o) → Q (.ref (s.heap.objs.size + 1)) { s with heap := h' }) :
    wpAny (model prog w) A (call (.type "enumerate") [v]) Q E s := by
  refine callType_new F.called_enumerate (by decide) (F.typeCall_enumerate_1 _) (F.newCall_enumerate_1 _) (fun obj => F.args_object_init_2 obj _) F.entry_enumerate_new
    (meets_enumerate_new1 B) ⟨h1, ?_⟩
  have hz : (s.heap.push o).objs.size = s.heap.objs.size + 1 := Heap.size_push ..
  show _ ∧ _
  rw [hz]
  have he : IsEnum ((s.heap.push o).push { cls := .type "enumerate", data := .fields #[.none, .bool false, .ref s.heap.objs.size, rawInt 0, .none, .none] }) (s.heap.objs.size + 1) s.heap.objs.size 0 .none := by
    have := Heap.get?_push_size (s.heap.push o) (o := { cls := .type "enumerate", data := .fields #[.none, .bool false, .ref s.heap.objs.size, rawInt 0, .none, .none] }) rfl
    rw [hz] at this; exact this
  refine ⟨⟨_, he, rfl⟩, h _ he (Heap.get?_push_of_some _ (Heap.get?_push_size _ B.free)) (by rw [Heap.size_push, hz]) fun b o x => Heap.get?_push_of_some _ (Heap.get?_push_of_some _ x)⟩
end
end PySem
namespace Xv
open PySem PySem.Spec PyProof.Rows L2
/-- enumerate of a tuple -/
def IteT (K : PySem.W.Frag) (a : Addr) : It :=
  ⟨fun i H => ∃ (xs : List V) (x : V), SqT K H a xs ∧ xs[i]? = some x, fun i H v H' => ∃ T x, v = .ref T ∧ H T = none ∧ H' = upd H T (.tup [.int (i : Nat), x]) ∧ ∀ xs, SqT K H a xs → xs[i]? = some x, fun i H => ∃ xs : List V, SqT K H a xs ∧ xs.length = i⟩
theorem turn_enumT {P : Program} {w : World} {K : PySem.W.Frag} {elts : List Expr} {kk : Nat} {tpos : Pos} (a e it : Addr) (hat : a ≠ it) :
    Turn P w K (.Tuple elts kk tpos) (IteT K a) [e, it] e (fun i h => (∃ old, IsEnum h e it ((i : Nat) : Int) old) ∧ h.IsTupleIter it a i ∧ e ≠ it ∧ e ≠ a) where
  mem := by simp
  obj := fun i h st b hb => by
    obtain ⟨⟨old, he⟩, ⟨o, ho, hc, hd⟩, _⟩ := st
    have e' : b = e ∨ b = it := by simpa using hb
    rcases e' with z | z
    · rw [z]; exact ⟨_, he, fun v q => nomatch q⟩
    · rw [z]; exact ⟨o, ho, fun v q => by rw [hd] at q; cases q⟩
  keep := fun i h h' st k => let ⟨⟨old, he⟩, hi, hne, hea⟩ := st; ⟨⟨old, k e (by simp) _ he⟩, hi.at fun o q => k it (by simp) o q, hne, hea⟩
  item := by
    intro X hP hw hK hc i pins s σ H E I hf st hg
    subst hP hw hK
    obtain ⟨⟨old, he⟩, hit, hne, hea⟩ := st
    obtain ⟨xs, x, hq, hx⟩ := hg
    obtain ⟨its, rv, p, hz⟩ := I.tuple hq
    obtain ⟨u, hu, ru⟩ := rv.get hx
    have hel : e < s.heap.objs.size := Heap.lt_size he
    have hil : it < s.heap.objs.size := by obtain ⟨_, q, _⟩ := hit; exact Heap.lt_size q
    have hlt : i < its.toArray.size := by
      have := (List.getElem?_eq_some_iff.mp hu).1
      simpa using this
    refine wpAny_pyNext_enum_itemD (Draws.tuple (prog := X.prog) (w := X.w) (A := X.A.in1) (I.ok.hd hc) it a hat its.toArray) he ⟨hit, p⟩ hlt hne (by simp [hne, hea]) fun y h' tk hy ho hst' hT hsz hk => ?_
    obtain ⟨hit', _⟩ := hst'
    have ey : y = u := by
      have e1 : its.toArray[i]? = some u := by simpa using hu
      rw [e1] at hy
      exact (Option.some.inj hy).symm
    subst ey
    refine ⟨_, rfl, wpAny_letOwnedTupleGo_enum (s := { s with heap := h', toks := tk + 1 }) ho fun h'' he' sb => ?_⟩
    have hT2 : h''.get? s.heap.objs.size = some { cls := .type "tuple", data := .seq #[.int i tk, y] } := (sb.2 _ (Nat.ne_of_gt hel)).trans hT
    have new : ObjOk X.prog X.w (upd H s.heap.objs.size (.tup [.int (i : Nat), x])) h'' s.heap.objs.size (.tup [.int (i : Nat), x]) :=
      ⟨by show 2 ≤ sizeLine; decide, [.int i tk, y], .cons ⟨_, rfl⟩ (.cons ru .nil), ⟨_, hT2, rfl, _, rfl⟩⟩
    have I1 : Inv X pins σ (upd H s.heap.objs.size (.tup [.int (i : Nat), x])) { s with heap := h'', toks := tk + 1 } :=
      I.turnedNew (ch := [e, it]) (fun b ob hb q => (sb.2 b (fun z => hb (by simp [z]))).trans (hk b ob (fun z => hb (by simp [z])) (fun z => hb (by simp [z])) q)) hf (Nat.le_refl _) new
    refine ⟨.ref s.heap.objs.size, _, I1, rfl, ⟨_, x, rfl, I.hok.fresh (Nat.le_refl _), rfl, fun ys hy => by rw [I.tuple_inj hy hq]; exact hx⟩, ⟨⟨y, ?_⟩, hit'.at fun o q => (sb.2 it (Ne.symm hne)).trans q, hne, hea⟩, fun b hb => ?_⟩
    · have e1 : ((i + 1 : Nat) : Int) = (i : Int) + 1 := by omega
      rw [e1]; exact he'
    · have hb' : b < s.heap.objs.size := by
        have e' : b = e ∨ b = it := by simpa using hb
        rcases e' with z | z
        · rw [z]; exact hel
        · rw [z]; exact hil
      rw [upd_ne (Nat.ne_of_lt hb')]
      exact (hf b hb).1
  done := by
    intro X hP hw hK hc i pins s σ H E I hf st hg
    subst hP hw hK
    obtain ⟨⟨old, he⟩, hit, hne, hea⟩ := st
    obtain ⟨xs, hq, hx⟩ := hg
    obtain ⟨its, rv, p, hz⟩ := I.tuple hq
    obtain ⟨f0, f1, f2, f3, f4, f5⟩ := hf it (by simp)
    have hl := rv.length
    have en : i = its.toArray.size := by
      rw [List.size_toArray]
      omega
    subst en
    have D := Draws.tuple (prog := X.prog) (w := X.w) (A := X.A.in1) (I.ok.hd hc) it a hat its.toArray
    exact wpAny_pyNext_enum_endD D he ⟨hit, p⟩ fun h' eb => ⟨rfl, I.turned (t' := s.toks) (fun b o hb q => eb b o hb q) f0 f1 f3 f4 f5⟩
  self := fun A i s Q E st h => let ⟨⟨_, he⟩, _⟩ := st; wpAny_pyIter_enum he h
/-- enumerate of a list or a tuple -/
def iEnumT (K : PySem.W.Frag) (ta : TA) : TI := fun σ H R => ta σ H fun vs H1 => ∃ a xs, vs = [.ref a] ∧ ((SqL K H1 a xs ∧ R (Ite K a) H1) ∨ (SqT K H1 a xs ∧ R (IteT K a) H1))
theorem pi_enumT {X : Cx} {e : Expr} {ta : TA} {p pos tpos : Pos} {elts : List Expr} {kk : Nat} (hg : Gl X "enumerate") (hm : X.mg "enumerate" = none) (ha : PA X [e] ta) (hs : starEach [e] X.env = [(false, eval e X.env)] := by rfl) :
    PI X (.Tuple elts kk tpos) (.Call (.Name "enumerate" p) [e] [] pos) (iEnumT X.K ta) := by
  refine ⟨fun pins s σ H R I h => ?_⟩
  refine Call_ (ld_blt I hg hm boot_enumerate (PyProof.Rows.callWith_type1 (thn (ha.run pos pins s σ H _ I h) fun us s1 ⟨vs, H1, I1, r1, q1⟩ => ?_) hs rfl))
  obtain ⟨a, xs, ex, q⟩ := q1
  subst ex
  cases r1 with
  | cons r rr =>
    cases rr
    cases r
    rcases q with ⟨hq, q⟩ | ⟨hq, q⟩
    · obtain ⟨its, rv, p', hz⟩ := I1.list hq
      refine call_enumerate_list p'.isList fun h' he hit hsz hk => wpAny_pyIter_enum he ?_
      have I2 : Inv X pins σ H1 { s1 with heap := h' } := I1.kept (t' := s1.toks) hk
      refine ⟨s1.heap.objs.size + 1, [s1.heap.objs.size + 1, s1.heap.objs.size], _, _, H1, rfl, I2, turn_enum a (s1.heap.objs.size + 1) s1.heap.objs.size, ⟨⟨.none, he⟩, hit, Nat.succ_ne_self _⟩, fun b hb => ?_, q⟩
      have e' : b = s1.heap.objs.size + 1 ∨ b = s1.heap.objs.size := by simpa using hb
      have hle : s1.heap.objs.size ≤ b := by
        rcases e' with z | z
        · rw [z]; exact Nat.le_add_right _ _
        · rw [z]; exact Nat.le_refl _
      exact I1.fpOk hle (I1.hok.fresh hle)
    · obtain ⟨its, rv, p', hz⟩ := I1.tuple hq
      have p2 : s1.heap.IsTuple a its.toArray := p'
      have hal : a < s1.heap.objs.size := by
        obtain ⟨o, ho, _⟩ := p2
        exact Heap.lt_size ho
      refine enum_begins1 (begins_tuple a its.toArray) p2 fun h' he hit hsz hk => wpAny_pyIter_enum he ?_
      have I2 : Inv X pins σ H1 { s1 with heap := h' } := I1.kept (t' := s1.toks) hk
      refine ⟨s1.heap.objs.size + 1, [s1.heap.objs.size + 1, s1.heap.objs.size], _, _, H1, rfl, I2, turn_enumT a (s1.heap.objs.size + 1) s1.heap.objs.size (Nat.ne_of_lt hal),
        ⟨⟨.none, he⟩, ⟨_, hit, rfl, rfl⟩, Nat.succ_ne_self _, Nat.ne_of_gt (Nat.lt_succ_of_lt hal)⟩, fun b hb => ?_, q⟩
      have e' : b = s1.heap.objs.size + 1 ∨ b = s1.heap.objs.size := by simpa using hb
      have hle : s1.heap.objs.size ≤ b := by
        rcases e' with z | z
        · rw [z]; exact Nat.le_add_right _ _
        · rw [z]; exact Nat.le_refl _
      exact I1.fpOk hle (I1.hok.fresh hle)
theorem walk_enumT {K : PySem.W.Frag} {a : Addr} {xs : List V} : Walk (IteT K a) xs.length (fun H => SqT K H a xs) (YPair (fun i => some (.int (i : Nat))) (fun i => xs[i]?)) := by
  refine ⟨fun i _ hi q => ⟨xs, xs[i], q, by simp [hi]⟩, fun _ q => ⟨xs, q, rfl⟩, fun i H v H' _ q y => ?_⟩
  obtain ⟨T, x, h1, h2, h3, h4⟩ := y
  exact ⟨T, .int (i : Nat), x, h1, h2, h3, rfl, h4 xs q⟩
/-- a list or a tuple walked -/
def iSeq (K : PySem.W.Frag) (tl : TE) : TI := fun σ H R => tl σ H fun x H1 => ∃ a, x = .ref a ∧ (((∃ xs, SqL K H1 a xs) ∧ R (Itl K a) H1) ∨ ((∃ xs, SqT K H1 a xs) ∧ R (Itt K a) H1))
theorem pi_seq {X : Cx} {tg l : Expr} {tl : TE} (hl : PE X l tl) : PI X tg l (iSeq X.K tl) := by
  refine ⟨fun pins s σ H R I h => ?_⟩
  refine thn (hl.run pins s σ H _ I h) fun v s1 ⟨x, H1, I1, r1, q1⟩ => ?_
  obtain ⟨a, e, q⟩ := q1
  subst e
  cases r1
  rcases q with ⟨⟨xs, hq⟩, q⟩ | ⟨⟨xs, hq⟩, q⟩
  · obtain ⟨its, rv, p, hz⟩ := I1.list hq
    refine wpAny_pyIter_list p.isList ?_
    refine ⟨s1.heap.objs.size, [s1.heap.objs.size], _, _, H1, rfl, I1.kept (t' := s1.toks) fun b o e => Heap.get?_push_of_some _ e, turn_list a _, ⟨_, Heap.get?_push_size _ rfl, rfl, rfl⟩, fun b hb => ?_, q⟩
    have e : b = s1.heap.objs.size := by simpa using hb
    subst e
    exact I1.fpOk (Nat.le_refl _) (I1.hok.fresh (Nat.le_refl _))
  · obtain ⟨its, rv, p, hz⟩ := I1.tuple hq
    refine wpAny_pyIter_tuple (show s1.heap.IsTuple a its.toArray from p) ?_
    refine ⟨s1.heap.objs.size, [s1.heap.objs.size], _, _, H1, rfl, I1.kept (t' := s1.toks) fun b o e => Heap.get?_push_of_some _ e, turn_tuple a _, ⟨_, Heap.get?_push_size _ rfl, rfl, rfl⟩, fun b hb => ?_, q⟩
    have e : b = s1.heap.objs.size := by simpa using hb
    subst e
    exact I1.fpOk (Nat.le_refl _) (I1.hok.fresh (Nat.le_refl _))
/-! ### f(k = v, ..): keywords alone -/
section
variable {X : Cx} {p pos : Pos} {x : Str} {kws : List Keyword} {tk : TA} {CX : CXT} {k : Nat} {f : Addr} {fd : FuncData} {ps ks : List Str} {sp : Sp} {E : XK} {g : List Value → List Value → List Value} {gV : List V → List V → List V}
theorem pe_callK0 (F : FnOk X.prog X.w X.K X.mg X.base CX k f fd ps sp) (hr : Room k X.A) (hg : Gl X x) (hm : X.mg x = some (.ref f)) (hk : PySem.W.keepIn X.K (.ref f) = true) (hb : KBinds X.K fd ps ks g gV) (hx : Passes CX X E)
    (hkw : PK X kws tk) (hall : (backToKw pos (keywordEach kws X.env)).all (·.1.isSome) = true := by rfl) (hks : (backToKw pos (keywordEach kws X.env)).filterMap (·.1) = ks := by rfl)
    (hdb : (x == ("__debug__" : Str)) = false := by decide)
    (hpl : ((backTo pos (starEach [] X.env)).any (·.1) || (backToKw pos (keywordEach kws X.env)).any (·.1.isNone)) = false := by rfl) :
    PE X (.Call (.Name x p) [] kws pos) (tCallK sp gV E tNil tk) := by
  refine ⟨fun pins s σ H Q I h => ?_⟩
  refine wpAny_Call_Name_kw (ld_glob I hg hm ?_ hdb)
  refine PySem.W.callWith_KW0 (h₀ := X.base) I.ok.mod.kin hk hall (thn (hkw.run pos pins s σ H _ I h) fun ws s2 ⟨zs, H2, I2, rz, q2⟩ => ⟨I2.kIn, ?_⟩) hpl
  rw [hks]
  exact run_fnk (us := []) (vs := []) F hr hb hx I2 .nil rz q2
end
/-! ### xs[t::m] of a list, 0 ≤ t, 0 < m -/
/-- the items at lo, lo + m, .. -/
def stepV (xs : List V) (t m : Nat) : List V := (List.range ((xs.length - t + m - 1) / m)).filterMap fun k => xs[t + m * k]?
def tStepL (K : PySem.W.Frag) (te : TE) (tl ts : TO) : TE := fun σ H Q => te σ H fun x H1 => tl σ H1 fun l H2 => ts σ H2 fun u H3 => ∃ a xs, ∃ t m : Nat, x = .ref a ∧ l = some (t : Int) ∧ u = some (m : Int) ∧ 0 < m ∧ t ≤ xs.length ∧ SqL K H3 a xs ∧ ∀ p, H3 p = none → Q (.ref p) (upd H3 p (.lst (stepV xs t m)))
theorem pick_step {its : List Value} {t m : Nat} (hm : 0 < m) (ht : t ≤ its.length) : slicePick its.toArray (some (t : Int)) none (some (m : Int)) = ((List.range ((its.length - t + m - 1) / m)).filterMap fun k => its[t + m * k]?).toArray := by
  have hm' : (m : Int) > 0 := by omega
  have hm2 : ¬ ((t : Int) < 0) := by omega
  have e1 : max 0 (min (t : Int) (its.length : Int)) = (t : Int) := by omega
  unfold slicePick sliceBounds
  simp only [Option.getD_some, List.size_toArray, hm', if_true, hm2, if_false, e1]
  unfold sliceRange
  simp only [hm', if_true]
  congr 1
  have e2 : (if (t : Int) < (its.length : Int) then ((its.length : Int) - t + m - 1) / m else 0).toNat = (its.length - t + m - 1) / m := by
    by_cases h : (t : Int) < (its.length : Int)
    · rw [if_pos h]
      have e3 : ((its.length : Int) - t + m - 1) = ((its.length - t + m - 1 : Nat) : Int) := by omega
      rw [e3]
      rw [← Int.natCast_ediv]
      exact Int.toNat_natCast _
    · rw [if_neg h]
      have e3 : its.length - t + m - 1 = m - 1 := by omega
      rw [e3, Nat.div_eq_of_lt (by omega)]
      rfl
  rw [e2, List.filterMap_map]
  congr 1
  funext k
  have e4 : ((t : Int) + (m : Int) * (k : Int)).toNat = t + m * k := by
    rw [← Int.natCast_mul]
    omega
  show its.toArray[((t : Int) + (m : Int) * (k : Int)).toNat]? = _
  rw [e4]
  simp
theorem stepV_vals {xs : List V} {its : List Value} (r : Vals xs its) (t m : Nat) : ∀ n : Nat, Vals ((List.range n).filterMap fun k => xs[t + m * k]?) ((List.range n).filterMap fun k => its[t + m * k]?)
  | 0 => .nil
  | n + 1 => by
    rw [List.range_succ, List.filterMap_append, List.filterMap_append]
    refine (stepV_vals r t m n).append ?_
    show Vals (List.filterMap _ [n]) (List.filterMap _ [n])
    rw [List.filterMap_cons, List.filterMap_cons]
    cases e : xs[t + m * n]? with
    | none =>
      have e2 : its[t + m * n]? = none := by
        have hl := r.length
        rw [List.getElem?_eq_none_iff] at e ⊢
        omega
      rw [e2]
      exact .nil
    | some v =>
      obtain ⟨u, hu, ru⟩ := r.get e
      rw [hu]
      exact .cons ru .nil
theorem filterMap_range_le {f : Nat → Option V} : ∀ n : Nat, ((List.range n).filterMap f).length ≤ n
  | 0 => Nat.le_refl _
  | n + 1 => by
    rw [List.range_succ, List.filterMap_append, List.length_append]
    have h1 := filterMap_range_le (f := f) n
    have h2 : ([n].filterMap f).length ≤ 1 := by
      rw [List.filterMap_cons]
      cases f n <;> simp
    omega
theorem stepV_length {xs : List V} {t m : Nat} (hm : 0 < m) (ht : t ≤ xs.length) : (stepV xs t m).length ≤ xs.length := by
  refine Nat.le_trans (filterMap_range_le _) ?_
  refine Nat.le_trans (m := xs.length - t) ?_ (Nat.sub_le _ _)
  by_cases h : xs.length - t = 0
  · rw [h, Nat.div_eq_of_lt (by omega)]
    exact Nat.le_refl _
  · refine Nat.div_le_of_le_mul ?_
    generalize xs.length - t = d at *
    have h1 : 0 ≤ (d - 1) * (m - 1) := Nat.zero_le _
    obtain ⟨d', rfl⟩ : ∃ d', d = d' + 1 := ⟨d - 1, by omega⟩
    obtain ⟨m', rfl⟩ : ∃ m', m = m' + 1 := ⟨m - 1, by omega⟩
    have e : (m' + 1) * (d' + 1) = m' * d' + m' + d' + 1 := by
      rw [Nat.add_mul, Nat.mul_add]
      omega
    rw [e]
    omega
theorem pe_stepL {X : Cx} {e lo st : Expr} {te : TE} {tl ts : TO} {p3 pos : Pos} (he : PE X e te) (hl : PO X (some lo) tl) (hst : PO X (some st) ts) : PE X (.Subscript e (.Slice (some lo) none (some st) p3) pos) (tStepL X.K te tl ts) := by
  refine ⟨fun pins s σ H Q I h => ?_⟩
  refine Subscript_ (thn (he.run pins s σ H _ I h) fun v s1 ⟨x, H1, I1, r1, q1⟩ => ?_)
  refine wpAny_Slice (thn (hl.run pins s1 σ H1 _ I1 q1) fun vl s2 ⟨l, H2, I2, pl, q2⟩ => ?_)
  refine thn (po_none.run pins s2 σ H2 (fun o H3 => o = none ∧ H3 = H2) I2 ⟨rfl, rfl⟩) fun vu s3 ⟨u, H3, I3, pu, eu, e3⟩ => ?_
  subst eu e3
  refine thn (hst.run pins s3 σ H3 _ I3 q2) fun vs s4 ⟨o, H4, I4, ps, q4⟩ => ?_
  obtain ⟨a, xs, t, m, rfl, rfl, rfl, hm, ht, hx, q⟩ := q4
  cases r1
  have I5 : Inv X pins σ H4 { s4 with heap := s4.heap.push { cls := .type "slice", data := .fields #[vl, vu, vs] } } := I4.kept (t' := s4.toks) fun b ob q => Heap.get?_push_of_some _ q
  obtain ⟨its, r, hT, hz⟩ := I5.list hx
  have hlen := r.length
  show wpAny (model X.prog X.w) X.A (subscriptTail e (.Slice (some lo) none (some st) p3) (.ref a) (.ref s4.heap.objs.size)) (EP X pins σ Q) X.xe { s4 with heap := s4.heap.push { cls := .type "slice", data := .fields #[vl, vu, vs] } }
  refine tail_any (ops := [.ref a, .ref s4.heap.objs.size]) hT.isList.typeIs (PySem.slot_list_getitem.lookup) ?_ (by with_unfolding_all rfl)
  refine wpAny_getItem_list_slice hT.isList (Heap.IsSliceOf.new _ vl vu vs) pl pu ps (by
    intro z
    have z2 := Option.some.inj z
    omega) ?_ (by rw [List.size_toArray]; omega)
  rw [pick_step hm (by omega)]
  refine ⟨.ref _, _, I5.laid (t' := s4.toks) (o := .lst (stepV xs t m)) (fun b ob q => Heap.get?_push_of_some _ q) (Nat.le_refl _) ?_, rfl, q _ (I5.hok.fresh (Nat.le_refl _))⟩
  refine ⟨Nat.le_trans (stepV_length hm ht) hz, _, 0, ?_, Heap.get?_push_size _ rfl⟩
  rw [← hlen]
  exact stepV_vals r t m _
end Xv

set_option Elab.async false
set_option linter.all false
set_option maxRecDepth 100000
set_option maxHeartbeats 4000000
set_option pp.maxSteps 3000
namespace Xv
open PySem PySem.Spec PyProof.Rows L2
/-! ### xs[i] of a list, for xs[i] += e -/
def rGetL (K : PySem.W.Frag) : V → V → Hp → VK → Prop := fun x y H Q => ∃ p xs i v, x = .ref p ∧ y = .int i ∧ SqL K H p xs ∧ atI xs i = some v ∧ Q v H
theorem get_list {X : Cx} : PGet X (rGetL X.K) := by
  intro pins s σ H x y v u Q I rx ry h
  obtain ⟨p, xs, i, z, rfl, rfl, hq, he, q⟩ := h
  cases rx
  obtain ⟨t, rfl⟩ := ry
  obtain ⟨its, r, pl, hz⟩ := I.list hq
  obtain ⟨j, h1, h2, h3, h4, h5⟩ := atI_get he
  obtain ⟨w, ew, rw'⟩ := r.get h2
  have hl := r.length
  have hn := line63
  have fin : EP X pins σ Q w s := ⟨z, H, I, rw', q⟩
  by_cases h0 : 0 ≤ i
  · have hj : i.toNat = j := by
      rw [seqIndex_of h0 h5] at h1
      exact Option.some.inj h1
    exact wpAny_getItem_list pl.isList h0 (by omega) (by rw [hj]; simpa using ew) fin
  · have hj : (i + (its.toArray.size : Int)).toNat = j := by
      rw [seqIndex_neg (by omega) h4] at h1
      rw [List.size_toArray, ← hl]
      exact Option.some.inj h1
    exact wpAny_getItem_list_neg pl.isList (by omega) (by rw [List.size_toArray] <;> omega) (by omega) (by rw [hj]; simpa using ew) fin
/-! ### xs[lo:hi:-1] of a list, hi ≤ lo < len(xs) -/
def downV (xs : List V) (lo hi : Nat) : List V := (List.range (lo - hi)).filterMap fun k => xs[lo - k]?
def tDownL (K : PySem.W.Frag) (te : TE) (tl tu ts : TO) : TE := fun σ H Q => te σ H fun x H1 => tl σ H1 fun l H2 => tu σ H2 fun u H3 => ts σ H3 fun st H4 => ∃ a xs, ∃ lo hi : Nat, x = .ref a ∧ l = some (lo : Int) ∧ u = some (hi : Int) ∧ st = some (-1) ∧ hi ≤ lo ∧ lo < xs.length ∧ SqL K H4 a xs ∧ ∀ p, H4 p = none → Q (.ref p) (upd H4 p (.lst (downV xs lo hi)))
theorem filterMap_eq {α β : Type} {f g : α → Option β} : ∀ {l : List α}, (∀ x ∈ l, f x = g x) → l.filterMap f = l.filterMap g
  | [], _ => rfl
  | x :: r, h => by
    rw [List.filterMap_cons, List.filterMap_cons, h x (List.mem_cons_self ..), filterMap_eq fun y hy => h y (List.mem_cons_of_mem _ hy)]
theorem pick_down {its : List Value} {lo hi : Nat} (h1 : hi ≤ lo) (h2 : lo < its.length) : slicePick its.toArray (some (lo : Int)) (some (hi : Int)) (some (-1)) = ((List.range (lo - hi)).filterMap fun k => its[lo - k]?).toArray := by
  unfold slicePick sliceBounds
  have c1 : ¬ ((-1 : Int) > 0) := by decide
  have c2 : ¬ ((lo : Int) < 0) := by omega
  have c3 : ¬ ((hi : Int) < 0) := by omega
  have e1 : max (-1) (min (lo : Int) ((its.length : Int) - 1)) = (lo : Int) := by omega
  have e2 : max (-1) (min (hi : Int) ((its.length : Int) - 1)) = (hi : Int) := by omega
  simp only [Option.getD_some, List.size_toArray, c1, if_false, c2, c3, e1, e2]
  unfold sliceRange
  simp only [c1, if_false]
  have e3 : (if (lo : Int) > (hi : Int) then ((lo : Int) - hi - -1 - 1) / (- -1) else 0).toNat = lo - hi := by
    have e4 : (- -1 : Int) = 1 := by decide
    rw [e4, Int.ediv_one]
    split <;> omega
  rw [e3, List.filterMap_map]
  congr 1
  refine filterMap_eq fun k hk => ?_
  have hk := List.mem_range.mp hk
  have e4 : ((lo : Int) + -1 * (k : Int)).toNat = lo - k := by omega
  show its.toArray[((lo : Int) + -1 * (k : Int)).toNat]? = _
  rw [e4]
  simp
theorem downV_vals {xs : List V} {its : List Value} (r : Vals xs its) (lo : Nat) : ∀ n : Nat, Vals ((List.range n).filterMap fun k => xs[lo - k]?) ((List.range n).filterMap fun k => its[lo - k]?)
  | 0 => .nil
  | n + 1 => by
    rw [List.range_succ, List.filterMap_append, List.filterMap_append]
    refine (downV_vals r lo n).append ?_
    show Vals (List.filterMap _ [n]) (List.filterMap _ [n])
    rw [List.filterMap_cons, List.filterMap_cons]
    cases e : xs[lo - n]? with
    | none =>
      have e2 : its[lo - n]? = none := by
        have hl := r.length
        rw [List.getElem?_eq_none_iff] at e ⊢
        omega
      rw [e2]
      exact .nil
    | some v =>
      obtain ⟨u, hu, ru⟩ := r.get e
      rw [hu]
      exact .cons ru .nil
theorem filterMap_range_len {f : Nat → Option V} : ∀ n : Nat, ((List.range n).filterMap f).length ≤ n
  | 0 => Nat.le_refl _
  | n + 1 => by
    rw [List.range_succ, List.filterMap_append, List.length_append]
    have h1 := filterMap_range_len (f := f) n
    have h2 : ([n].filterMap f).length ≤ 1 := by
      rw [List.filterMap_cons]
      cases f n <;> simp
    omega
theorem pe_stepDown {X : Cx} {e lo hi st : Expr} {te : TE} {tl tu ts : TO} {p3 pos : Pos} (he : PE X e te) (hl : PO X (some lo) tl) (hu : PO X (some hi) tu) (hst : PO X (some st) ts) : PE X (.Subscript e (.Slice (some lo) (some hi) (some st) p3) pos) (tDownL X.K te tl tu ts) := by
  refine ⟨fun pins s σ H Q I h => ?_⟩
  refine Subscript_ (thn (he.run pins s σ H _ I h) fun v s1 ⟨x, H1, I1, r1, q1⟩ => ?_)
  refine wpAny_Slice (thn (hl.run pins s1 σ H1 _ I1 q1) fun vl s2 ⟨l, H2, I2, pl, q2⟩ => ?_)
  refine thn (hu.run pins s2 σ H2 _ I2 q2) fun vu s3 ⟨u, H3, I3, pu, q3⟩ => ?_
  refine thn (hst.run pins s3 σ H3 _ I3 q3) fun vs s4 ⟨o, H4, I4, ps, q4⟩ => ?_
  obtain ⟨a, xs, lo, hi, rfl, rfl, rfl, rfl, h1, h2, hx, q⟩ := q4
  cases r1
  have I5 : Inv X pins σ H4 { s4 with heap := s4.heap.push { cls := .type "slice", data := .fields #[vl, vu, vs] } } := I4.kept (t' := s4.toks) fun b ob q => Heap.get?_push_of_some _ q
  obtain ⟨its, r, hT, hz⟩ := I5.list hx
  have hlen := r.length
  refine tail_any (ops := [.ref a, .ref s4.heap.objs.size]) hT.isList.typeIs (PySem.slot_list_getitem.lookup) ?_ (by with_unfolding_all rfl)
  refine wpAny_getItem_list_slice hT.isList (Heap.IsSliceOf.new _ vl vu vs) pl pu ps (by decide) ?_ (by rw [List.size_toArray]; omega)
  rw [pick_down h1 (by omega)]
  refine ⟨.ref _, _, I5.laid (t' := s4.toks) (o := .lst (downV xs lo hi)) (fun b ob q => Heap.get?_push_of_some _ q) (Nat.le_refl _) ?_, rfl, q _ (I5.hok.fresh (Nat.le_refl _))⟩
  refine ⟨Nat.le_trans (filterMap_range_len _) (by omega), _, 0, ?_, Heap.get?_push_size _ rfl⟩
  exact downV_vals r lo _
/-! ### enumerate(v, start=c) of a list or a tuple -/
section
variable {M : Model} {A : Around} {E : Value → Shared → Prop} {s : Shared} {env : Env}
theorem callWith_type_kwB {pos : Pos} {id : String} {first : List Value} {args : List (Bool × Sem Value)} {keywords : List (Option Str × Sem Value)} {Q : Value → Shared → Prop}
    (hplain : args.any (·.1) = false) (hkw : keywords.any (·.1.isNone) = false)
    (h : wpAny M A (evalArgs (.type id) true args keywords) (fun a s₁ => wpAny M A (call (.type id) (first ++ a.pos) a.kw) Q E s₁) E s) :
    wpAny M A (callWith pos (.type id) first args keywords) Q E s := by
  unfold callWith
  refine wpAny_bind (wpAny_holding (wpAny_mono h (fun a s₁ h₁ => wpAny_bind (wpAny_standAt ?_)) fun _ _ x => x))
  simp only [hplain, hkw, Bool.or_false]
  refine wpAny_bind (wpAny_pure ?_)
  exact wpAny_bind (wpAny_mono h₁ (fun r s₂ hr => wpAny_bind (wpAny_holding (wpAny_point (wpAny_pure hr)))) fun _ _ x => x)
theorem callWith_kwT {pos : Pos} {id : String} {e : Expr} {rest : List Expr} {kws : List Keyword} {Q : Value → Shared → Prop}
    (h : wpAny M A (spliced (backTo pos (starEach (e :: rest) env))) (fun vs s₁ => wpAny M A (evalAll ((backToKw pos (keywordEach kws env)).map (·.2)))
      (fun kvs s₂ => wpAny M A (call (.type id) vs (((backToKw pos (keywordEach kws env)).filterMap (·.1)).zip kvs)) Q E s₂) E s₁) E s)
    (he : backTo pos (starEach (e :: rest) env) = (false, eval e env) :: backTo pos (starEach rest env) := by rfl)
    (hplain : (backTo pos (starEach (e :: rest) env)).any (·.1) = false := by rfl)
    (hall : (backToKw pos (keywordEach kws env)).all (·.1.isSome) = true := by rfl)
    (hkw : (backToKw pos (keywordEach kws env)).any (·.1.isNone) = false := by rfl) :
    wpAny M A (callWith pos (.type id) [] (backTo pos (starEach (e :: rest) env)) (backToKw pos (keywordEach kws env))) Q E s := by
  refine callWith_type_kwB hplain hkw ?_
  rw [he] at h ⊢
  exact evalArgs_kwB hall h
end
/-- the items with their counts from c, each in a new pair -/
def IteS (K : PySem.W.Frag) (c : Int) (a : Addr) (tup : Bool) : It :=
  ⟨fun i H => ∃ (xs : List V) (x : V), (if tup then SqT K H a xs else SqL K H a xs) ∧ xs[i]? = some x, fun i H v H' => ∃ T x, v = .ref T ∧ H T = none ∧ H' = upd H T (.tup [.int (c + (i : Nat)), x]) ∧ ∀ xs, (if tup then SqT K H a xs else SqL K H a xs) → xs[i]? = some x, fun i H => ∃ xs : List V, (if tup then SqT K H a xs else SqL K H a xs) ∧ xs.length = i⟩
def StS (c : Int) (tup : Bool) (a e it : Addr) (i : Nat) (h : Heap) : Prop := (∃ old, IsEnum h e it (c + (i : Int)) old) ∧ (if tup then h.IsTupleIter it a i else h.IsListIter it a i) ∧ e ≠ it ∧ e ≠ a
theorem sq_vals {X : Cx} {pins : List (Addr × Obj)} {σ : L2.St} {H : Hp} {s : Shared} {a : Addr} {xs : List V} {tup : Bool} (I : Inv X pins σ H s) (h : if tup then SqT X.K H a xs else SqL X.K H a xs) :
    ∃ its : List Value, Vals xs its ∧ (if tup then s.heap.IsTuple a its.toArray else s.heap.IsList a its.toArray) := by
  cases tup with
  | true =>
    obtain ⟨its, rv, p, hz⟩ := I.tuple h
    exact ⟨its, rv, p⟩
  | false =>
    obtain ⟨its, rv, p, hz⟩ := I.list h
    exact ⟨its, rv, p.isList⟩
theorem draws_sq {prog : Program} {w : World} {A : Around} (hh : A.handled = none) (it a : Addr) (hne : a ≠ it) (items : Array Value) (tup : Bool) :
    Draws prog w A it [it, a] items.size (fun i v => items[i]? = some v) (fun i h => (if tup then h.IsTupleIter it a i else h.IsListIter it a i) ∧ (if tup then h.IsTuple a items else h.IsList a items)) := by
  cases tup with
  | true => exact Draws.tuple hh it a hne items
  | false => exact Draws.list hh it a hne items
theorem turn_enumS {P : Program} {w : World} {K : PySem.W.Frag} {elts : List Expr} {kk : Nat} {tpos : Pos} (c : Int) (tup : Bool) (a e it : Addr) (hat : a ≠ it) :
    Turn P w K (.Tuple elts kk tpos) (IteS K c a tup) [e, it] e (StS c tup a e it) where
  mem := by simp
  obj := fun i h st b hb => by
    obtain ⟨⟨old, he⟩, hit, _⟩ := st
    have e' : b = e ∨ b = it := by simpa using hb
    rcases e' with z | z
    · rw [z]; exact ⟨_, he, fun v q => nomatch q⟩
    · rw [z]
      cases tup with
      | true =>
        obtain ⟨o, ho, hc, hd⟩ := hit
        exact ⟨o, ho, fun v q => by rw [hd] at q; cases q⟩
      | false =>
        obtain ⟨o, ho, hc, hd⟩ := hit
        exact ⟨o, ho, fun v q => by rw [hd] at q; cases q⟩
  keep := fun i h h' st k => by
    obtain ⟨⟨old, he⟩, hi, hne, hea⟩ := st
    refine ⟨⟨old, k e (by simp) _ he⟩, ?_, hne, hea⟩
    cases tup with
    | true => exact hi.at fun o q => k it (by simp) o q
    | false => exact hi.at fun o q => k it (by simp) o q
  item := by
    intro X hP hw hK hc i pins s σ H E I hf st hg
    subst hP hw hK
    obtain ⟨⟨old, he⟩, hit, hne, hea⟩ := st
    obtain ⟨xs, x, hq, hx⟩ := hg
    obtain ⟨its, rv, p⟩ := sq_vals I hq
    obtain ⟨u, hu, ru⟩ := rv.get hx
    have hel : e < s.heap.objs.size := Heap.lt_size he
    have hil : it < s.heap.objs.size := by
      cases tup with
      | true => obtain ⟨_, q, _⟩ := hit; exact Heap.lt_size q
      | false => obtain ⟨_, q, _⟩ := hit; exact Heap.lt_size q
    have hlt : i < its.toArray.size := by
      have := (List.getElem?_eq_some_iff.mp hu).1
      simpa using this
    refine wpAny_pyNext_enum_itemC (draws_sq (prog := X.prog) (w := X.w) (A := X.A.in1) (I.ok.hd hc) it a hat its.toArray tup) he ⟨hit, p⟩ hlt hne (by simp [hne, hea]) fun y h' tk hy ho hst' hT hsz hk => ?_
    obtain ⟨hit', _⟩ := hst'
    have ey : y = u := by
      have e1 : its.toArray[i]? = some u := by simpa using hu
      rw [e1] at hy
      exact (Option.some.inj hy).symm
    subst ey
    refine ⟨_, rfl, wpAny_letOwnedTupleGo_enum (s := { s with heap := h', toks := tk + 1 }) ho fun h'' he' sb => ?_⟩
    have hT2 : h''.get? s.heap.objs.size = some { cls := .type "tuple", data := .seq #[.int (c + i) tk, y] } := (sb.2 _ (Nat.ne_of_gt hel)).trans hT
    have new : ObjOk X.prog X.w (upd H s.heap.objs.size (.tup [.int (c + (i : Nat)), x])) h'' s.heap.objs.size (.tup [.int (c + (i : Nat)), x]) :=
      ⟨by show 2 ≤ sizeLine; decide, [.int (c + i) tk, y], .cons ⟨_, rfl⟩ (.cons ru .nil), ⟨_, hT2, rfl, _, rfl⟩⟩
    have I1 : Inv X pins σ (upd H s.heap.objs.size (.tup [.int (c + (i : Nat)), x])) { s with heap := h'', toks := tk + 1 } :=
      I.turnedNew (ch := [e, it]) (fun b ob hb q => (sb.2 b (fun z => hb (by simp [z]))).trans (hk b ob (fun z => hb (by simp [z])) (fun z => hb (by simp [z])) q)) hf (Nat.le_refl _) new
    refine ⟨.ref s.heap.objs.size, _, I1, rfl, ⟨_, x, rfl, I.hok.fresh (Nat.le_refl _), rfl, fun ys hy => ?_⟩, ⟨⟨y, ?_⟩, ?_, hne, hea⟩, fun b hb => ?_⟩
    · cases tup with
      | true => rw [I.tuple_inj hy hq]; exact hx
      | false => rw [I.list_inj hy hq]; exact hx
    · have e1 : c + ((i + 1 : Nat) : Int) = c + (i : Int) + 1 := by omega
      rw [e1]; exact he'
    · cases tup with
      | true => exact hit'.at fun o q => (sb.2 it (Ne.symm hne)).trans q
      | false => exact hit'.at fun o q => (sb.2 it (Ne.symm hne)).trans q
    · have hb' : b < s.heap.objs.size := by
        have e' : b = e ∨ b = it := by simpa using hb
        rcases e' with z | z
        · rw [z]; exact hel
        · rw [z]; exact hil
      rw [upd_ne (Nat.ne_of_lt hb')]
      exact (hf b hb).1
  done := by
    intro X hP hw hK hc i pins s σ H E I hf st hg
    subst hP hw hK
    obtain ⟨⟨old, he⟩, hit, hne, hea⟩ := st
    obtain ⟨xs, hq, hx⟩ := hg
    obtain ⟨its, rv, p⟩ := sq_vals I hq
    obtain ⟨f0, f1, f2, f3, f4, f5⟩ := hf it (by simp)
    have hl := rv.length
    have en : i = its.toArray.size := by
      rw [List.size_toArray]
      omega
    subst en
    exact wpAny_pyNext_enum_endD (draws_sq (prog := X.prog) (w := X.w) (A := X.A.in1) (I.ok.hd hc) it a hat its.toArray tup) he ⟨hit, p⟩ fun h' eb => ⟨rfl, I.turned (t' := s.toks) (fun b o hb q => eb b o hb q) f0 f1 f3 f4 f5⟩
  self := fun A i s Q E st h => let ⟨⟨_, he⟩, _⟩ := st; wpAny_pyIter_enum he h
def iEnumS (K : PySem.W.Frag) (ta : TA) (tk : TA) : TI := fun σ H R => ta σ H fun vs H1 => tk σ H1 fun zs H2 => ∃ (a : Addr) (xs : List V) (c : Int) (tup : Bool), vs = [.ref a] ∧ zs = [.int c] ∧ -(2 ^ 63) ≤ c ∧ c < 2 ^ 63 ∧ (if tup then SqT K H2 a xs else SqL K H2 a xs) ∧ R (IteS K c a tup) H2
theorem pi_enumK {X : Cx} {e : Expr} {ta tk : TA} {p pos tpos : Pos} {kws : List Keyword} {elts : List Expr} {kk : Nat} (hg : Gl X "enumerate") (hm : X.mg "enumerate" = none) (ha : PA X [e] ta) (hk : PK X kws tk)
    (he : backTo pos (starEach [e] X.env) = (false, eval e X.env) :: backTo pos (starEach [] X.env) := by rfl) (hpl : (backTo pos (starEach [e] X.env)).any (·.1) = false := by rfl)
    (hall : (backToKw pos (keywordEach kws X.env)).all (·.1.isSome) = true := by rfl) (hnone : (backToKw pos (keywordEach kws X.env)).any (·.1.isNone) = false := by rfl) (hks : (backToKw pos (keywordEach kws X.env)).filterMap (·.1) = [Str.ofString "start"] := by rfl) :
    PI X (.Tuple elts kk tpos) (.Call (.Name "enumerate" p) [e] kws pos) (iEnumS X.K ta tk) := by
  refine ⟨fun pins s σ H R I h => ?_⟩
  refine wpAny_Call_Name_kw (ld_blt I hg hm boot_enumerate ?_)
  refine callWith_kwT (thn (ha.run pos pins s σ H _ I h) fun us s0 ⟨vs, H0, I0, r1, q1⟩ => thn (hk.run pos pins s0 σ H0 _ I0 q1) fun ws s1 ⟨zs, H1, I1, r2, q2⟩ => ?_) he hpl hall hnone
  rw [hks]
  obtain ⟨a, xs, c, tup, ex, ez, c0, c1, hq, q⟩ := q2
  subst ex ez
  cases r1 with
  | cons r rr =>
    cases rr
    cases r
    cases r2 with
    | cons r rr =>
      cases rr
      obtain ⟨t, rfl⟩ := r
      show wpAny (model X.prog X.w) X.A (call (.type "enumerate") [.ref a] [(Str.ofString "start", .int c t)]) _ X.xe s1
      have main : ∀ (tup : Bool) (its : List Value), (if tup then s1.heap.IsTuple a its.toArray else s1.heap.IsList a its.toArray) → R (IteS X.K c a tup) H1 →
          wpAny (model X.prog X.w) X.A (call (.type "enumerate") [.ref a] [(Str.ofString "start", .int c t)]) (fun v s1 => wpAny (model X.prog X.w) X.A (pyIter v) (PIE X pins σ (.Tuple elts kk tpos) R) X.xe s1) X.xe s1 := by
        intro tup its p2 q
        have hal : a < s1.heap.objs.size := by
          cases tup with
          | true => obtain ⟨o, ho, _⟩ := p2; exact Heap.lt_size ho
          | false => obtain ⟨o, ho, _⟩ := p2; exact Heap.lt_size ho
        have fin : ∀ (h' : Heap), IsEnum h' (s1.heap.objs.size + 1) s1.heap.objs.size c .none → (if tup then h'.IsTupleIter s1.heap.objs.size a 0 else h'.IsListIter s1.heap.objs.size a 0) → (∀ b o, s1.heap.get? b = some o → h'.get? b = some o) →
            wpAny (model X.prog X.w) X.A (pyIter (.ref (s1.heap.objs.size + 1))) (PIE X pins σ (.Tuple elts kk tpos) R) X.xe { s1 with heap := h' } := by
          intro h' he hit hk
          refine wpAny_pyIter_enum he ?_
          have I2 : Inv X pins σ H1 { s1 with heap := h' } := I1.kept (t' := s1.toks) hk
          refine ⟨s1.heap.objs.size + 1, [s1.heap.objs.size + 1, s1.heap.objs.size], _, _, H1, rfl, I2, turn_enumS c tup a (s1.heap.objs.size + 1) s1.heap.objs.size (Nat.ne_of_lt hal),
            ⟨⟨.none, by have e0 : c + ((0 : Nat) : Int) = c := by omega
                        rw [e0]; exact he⟩, hit, Nat.succ_ne_self _, Nat.ne_of_gt (Nat.lt_succ_of_lt hal)⟩, fun b hb => ?_, q⟩
          have e' : b = s1.heap.objs.size + 1 ∨ b = s1.heap.objs.size := by simpa using hb
          have hle : s1.heap.objs.size ≤ b := by
            rcases e' with z | z
            · rw [z]; exact Nat.le_add_right _ _
            · rw [z]; exact Nat.le_refl _
          exact I1.fpOk hle (I1.hok.fresh hle)
        cases tup with
        | true => exact enum_begins_start (begins_tuple a its.toArray) p2 c0 c1 fun h' he hit hsz hk => fin h' he ⟨_, hit, rfl, rfl⟩ hk
        | false => exact enum_begins_start (begins_list a its.toArray) p2 c0 c1 fun h' he hit hsz hk => fin h' he ⟨_, hit, rfl, rfl⟩ hk
      obtain ⟨its, rv, p'⟩ := sq_vals I1 hq
      exact main tup its p' q
theorem walk_enumS {K : PySem.W.Frag} {c : Int} {tup : Bool} {a : Addr} {xs : List V} : Walk (IteS K c a tup) xs.length (fun H => if tup then SqT K H a xs else SqL K H a xs) (YPair (fun i => some (.int (c + (i : Nat)))) (fun i => xs[i]?)) := by
  refine ⟨fun i _ hi q => ⟨xs, xs[i], q, by simp [hi]⟩, fun _ q => ⟨xs, q, rfl⟩, fun i H v H' _ q y => ?_⟩
  obtain ⟨T, x, h1, h2, h3, h4⟩ := y
  exact ⟨T, .int (c + (i : Nat)), x, h1, h2, h3, rfl, h4 xs q⟩
end Xv

set_option Elab.async false
set_option linter.all false
set_option maxRecDepth 100000
set_option maxHeartbeats 0
namespace Xv
open PySem PySem.Spec PyProof.Rows L2
/-! the classes' facts, asked of the written part -/
def veT : List Value := [.type "ValueError", .type "Exception", .type "BaseException", .type "object"]
def oexB (K : PySem.W.Frag) (C : Addr) : Bool := match K.lookup C with
  | some ⟨.type "type", _, .cls cd, sl⟩ => (match cd.mro, sl.toList with
    | .ref C' :: bm, [_, _, _, _, some (.builtin n), _] => decide (C' = C) && (decide (n = "ValueError.__new__") && (!cd.hasDel && (PySem.HandSPX.refsVE bm && cd.hasDict)))
    | _, _ => false)
  | _ => false
theorem oexB_ok {K : PySem.W.Frag} {C : Addr} (h : oexB K C = true) : ∃ nm q N bs bm sn sub ab col dd k0 k1 k2 k3 k5, K.lookup C = some (excClassObj nm q C N bs bm true sn sub ab col dd k0 k1 k2 k3 k5 "ValueError.__new__") ∧ PySem.HandSPX.refsVE bm = true := by
  unfold oexB at h
  split at h
  · rename_i dx cd sl ho
    split at h
    · rename_i C' bm k0 k1 k2 k3 n k5 hm hs
      simp only [Bool.and_eq_true, decide_eq_true_eq, Bool.not_eq_true'] at h
      obtain ⟨rfl, rfl, hd, hr, hh⟩ := h
      obtain ⟨nm, bs, mro, ns, qn, hdc, sn, sub, ab, col, del⟩ := cd
      dsimp only at hm hd hh
      subst hm hd hh
      obtain ⟨l⟩ := sl
      have hs' : l = [k0, k1, k2, k3, some (.builtin "ValueError.__new__"), k5] := hs
      subst hs'
      exact ⟨nm, qn, ns, bs, bm, sn, sub, ab, col, dx, k0, k1, k2, k3, k5, ho, hr⟩
    · cases h
  · cases h
def eqV2 (a b : Option Value) : Bool := decide (a = b)
/-- a class of errors whose way up is l -/
def clsB (K : PySem.W.Frag) (C : Addr) (l : List Value) : Bool := (match PySem.W.clsIn K C with
  | some cd => decide (cd.mro = l) && cd.hasDict
  | none => false) && (eqV2 (PySem.W.typeIn K (.ref C)) (some (.type "type")) && (He.eqO (PySem.W.findIn K (.ref C) "__getattribute__") (some (some (.builtin "BaseException.__getattribute__"))) && (He.eqO (PySem.W.findIn K (.ref C) "__getattr__") (some none) &&
    (He.eqO (PySem.W.findIn K (.ref C) "__class__") (some (some (.builtin "object.__class__"))) && PySem.W.keepIn K (.ref C)))))
structure ClsOk (K : PySem.W.Frag) (C : Addr) (l : List Value) : Prop where
  cl : ∃ cd, PySem.W.clsIn K C = some cd ∧ cd.mro = l ∧ cd.hasDict = true
  ty : PySem.W.typeIn K (.ref C) = some (.type "type")
  ga : PySem.W.findIn K (.ref C) "__getattribute__" = some (some (.builtin "BaseException.__getattribute__"))
  gg : PySem.W.findIn K (.ref C) "__getattr__" = some none
  gc : PySem.W.findIn K (.ref C) "__class__" = some (some (.builtin "object.__class__"))
  kp : PySem.W.keepIn K (.ref C) = true
theorem clsB_ok {K : PySem.W.Frag} {C : Addr} {l : List Value} (h : clsB K C l = true) : ClsOk K C l := by
  unfold clsB at h
  simp only [Bool.and_eq_true] at h
  obtain ⟨h1, h2, h3, h4, h5, h6⟩ := h
  refine ⟨?_, of_decide_eq_true h2, He.eqO_ok h3, He.eqO_ok h4, He.eqO_ok h5, h6⟩
  cases e : PySem.W.clsIn K C with
  | none =>
    rw [e] at h1
    cases h1
  | some cd =>
    rw [e] at h1
    have h1' : (decide (cd.mro = l) && cd.hasDict) = true := h1
    rw [Bool.and_eq_true] at h1'
    exact ⟨cd, rfl, of_decide_eq_true h1'.1, h1'.2⟩
theorem ClsOk.sub {K : PySem.W.Frag} {C : Addr} {l : List Value} (h : ClsOk K C l) (hl : l ≠ []) (b : Value) : PySem.W.subIn K (.ref C) b = some (l.contains b) := by
  obtain ⟨cd, e, rfl, _⟩ := h.cl
  show (PySem.W.clsIn K C).bind (fun cd => if cd.mro.isEmpty then none else some (cd.mro.contains b)) = _
  rw [e]
  show (if cd.mro.isEmpty = true then none else some (cd.mro.contains b)) = _
  rw [if_neg (by cases q : cd.mro with
    | nil => exact absurd q hl
    | cons _ _ => exact Bool.false_ne_true)]
theorem ClsOk.excC {K : PySem.W.Frag} {C : Addr} {l : List Value} (h : ClsOk K C l) (hl : l ≠ []) (h1 : l.contains (.type "BaseException") = true) (h2 : l.contains (.type "object") = true) (hn : PySem.W.specialIn K (.builtin "object.__class__") "__get__" = some (some (.builtin "getset_descriptor.__get__")))
    (ht : PySem.W.takesIn K (.builtin "object.__class__") = some true) : ExcC K C where
  hg := h.ga
  hk := h.gg
  hs := by rw [h.sub hl, h1]
  hd := by
    obtain ⟨cd, e, _, hd⟩ := h.cl
    show (PySem.W.clsIn K C).any (·.hasDict) = true
    rw [e]
    exact hd
  ha := h.gc
  hn := hn
  ht := ht
  hm := by
    have z := h.sub hl (.type "object")
    rw [h2] at z
    exact z
theorem ClsOk.kit {K : PySem.W.Frag} {C D : Addr} {l m : List Value} (h : ClsOk K C l) (hl : l ≠ []) (hD : ClsOk K D m) {b : Bool} (e : (decide (C = D) || l.contains (.ref D)) = b) : PySem.W.kitOne K (.ref C) (.ref D) = some b := by
  unfold PySem.W.kitOne
  by_cases q : C = D
  · subst q
    rw [if_pos (by simp)]
    rw [decide_eq_true rfl] at e
    exact congrArg some e
  · rw [if_neg (by simpa using q)]
    show (if ((PySem.W.clsIn K D).isSome && PySem.W.typeIn K (.ref D) == some (.type "type")) = true then PySem.W.subIn K (.ref C) (.ref D) else none) = some b
    obtain ⟨cd, ed, _⟩ := hD.cl
    rw [ed, hD.ty, if_pos (by rfl), h.sub hl]
    rw [decide_eq_false q, Bool.false_or] at e
    exact congrArg some e
theorem ClsOk.kitT {K : PySem.W.Frag} {C : Addr} {l : List Value} (h : ClsOk K C l) (hl : l ≠ []) {T : String} (hT : PySem.W.kitMeta T = true) (e : l.contains (.type T) = true) : PySem.W.kitOne K (.ref C) (.type T) = some true := by
  unfold PySem.W.kitOne
  rw [if_neg (by simp)]
  show (if PySem.W.kitMeta T = true then PySem.W.subIn K (.ref C) (.type T) else none) = some true
  rw [if_pos hT, h.sub hl, e]
def eqB (a b : Option Bool) : Bool := decide (a = b)
def cfB (r : Option PySem.W.CFound) : Bool := match r with
  | some (.val v) => decide (v = .builtin "ValueError.__init__")
  | _ => false
theorem cfB_ok {r : Option PySem.W.CFound} (h : cfB r = true) : r = some (.val (.builtin "ValueError.__init__")) := by
  unfold cfB at h
  split at h
  · rw [of_decide_eq_true h]
  · cases h
/-! a hook: the facts by names, more of them by a Bool, the law's own table of code objects -/
abbrev AlE : Type := He.AlD × Bool
def asE (g : Addr → Option Obj) (n : Nat) : List Addr := cStatics :: He.asD g n
def lawD : He.Defn := ("law", none)
def obsE (fa : List He.Fa) (fn : List He.DefD) (ext : PySem.W.Frag → Bool) (n : Nat) (g : Addr → Option Obj) : AlE := (He.obsD fa fn (He.frT g (asE g n)), ext (He.frT g (asE g n)) && He.tabsB g [lawD] (He.frT g (asE g n)))
structure SaysE (fa : List He.Fa) (fn : List He.DefD) (ext : PySem.W.Frag → Bool) (h : Heap) (K : PySem.W.Frag) : Prop where
  d : He.SaysD fa fn K
  more : ext K = true
  hd : PySem.W.codeHdIn K (He.cT K lawD).1 (He.cT K lawD).2 = true
  out : K.lookup (He.cT K lawD).2 = none
  empty : h.get? (He.cT K lawD).2 = some { cls := .none, data := .fields #[] }
theorem saysE_of {fa : List He.Fa} {fn : List He.DefD} {ext : PySem.W.Frag → Bool} {n : Nat} {h : Heap} (e : obsE fa fn ext n h.get? = (He.valD fn, true)) : SaysE fa fn ext h (He.frT h.get? (asE h.get? n)) := by
  have e1 : He.obsD fa fn (He.frT h.get? (asE h.get? n)) = He.valD fn := congrArg (fun z : AlE => z.1) e
  have e2 : (ext (He.frT h.get? (asE h.get? n)) && He.tabsB h.get? [lawD] (He.frT h.get? (asE h.get? n))) = true := congrArg (fun z : AlE => z.2) e
  obtain ⟨h1, h2⟩ := Bool.and_eq_true_iff.mp e2
  obtain ⟨h3, h4⟩ := Bool.and_eq_true_iff.mp (List.all_eq_true.mp h2 lawD (List.mem_singleton.mpr rfl))
  cases q : h.get? (He.cT (He.frT h.get? (asE h.get? n)) lawD).2 with
  | none =>
    rw [q] at h4
    cases h4
  | some o =>
    rw [q] at h4
    exact ⟨e1, h1, h3, He.frT_none q h4, by rw [q, He.emptyTab_eq h4]⟩
def hookE (fa : List He.Fa) (fn : List He.DefD) (ext : PySem.W.Frag → Bool) (n : Nat) : PySem.W.Hook where
  α := AlE
  obs := fun s => obsE fa fn ext n s.heap.get?
  val := fun _ => (He.valD fn, true)
  says := fun _ h => ∃ K : PySem.W.Frag, K.In h ∧ SaysE fa fn ext h K
  of := fun _ _ e => ⟨_, He.frT_in, saysE_of e⟩
  keeps := fun _ _ _ ⟨K, hK, c⟩ k => ⟨K, PySem.W.Frag.In.keeps hK k, ⟨c.d, c.more, c.hd, c.out, k _ _ c.empty⟩⟩
end Xv

set_option Elab.async false
set_option linter.all false
set_option maxRecDepth 100000
set_option maxHeartbeats 4000000
/-! power series with whole coefficients, as functions -/
namespace Ps
/-- f 0 + .. + f (n - 1) -/
def sm (f : Nat → Int) : Nat → Int
  | 0 => 0
  | n + 1 => sm f n + f n
theorem sm_congr {f g : Nat → Int} : ∀ n : Nat, (∀ i, i < n → f i = g i) → sm f n = sm g n
  | 0, _ => rfl
  | n + 1, h => by
    show sm f n + f n = sm g n + g n
    rw [sm_congr n fun i hi => h i (by omega), h n (by omega)]
theorem sm_add (f g : Nat → Int) : ∀ n, sm (fun i => f i + g i) n = sm f n + sm g n
  | 0 => rfl
  | n + 1 => by
    show sm (fun i => f i + g i) n + (f n + g n) = sm f n + f n + (sm g n + g n)
    rw [sm_add f g n]
    omega
theorem sm_mul (c : Int) (f : Nat → Int) : ∀ n, sm (fun i => c * f i) n = c * sm f n
  | 0 => by
    show (0 : Int) = c * 0
    rw [Int.mul_zero]
  | n + 1 => by
    show sm (fun i => c * f i) n + c * f n = c * (sm f n + f n)
    rw [sm_mul c f n, Int.mul_add]
theorem sm_mul' (c : Int) (f : Nat → Int) (n : Nat) : sm (fun i => f i * c) n = sm f n * c := by
  rw [Int.mul_comm (sm f n), ← sm_mul]
  exact sm_congr n fun i _ => Int.mul_comm _ _
theorem sm_zero : ∀ n, sm (fun _ => 0) n = 0
  | 0 => rfl
  | n + 1 => by
    show sm (fun _ => 0) n + 0 = 0
    rw [sm_zero n]
    rfl
theorem sm_first (f : Nat → Int) : ∀ n, sm f (n + 1) = f 0 + sm (fun i => f (i + 1)) n
  | 0 => by
    show 0 + f 0 = f 0 + 0
    omega
  | n + 1 => by
    show sm f (n + 1) + f (n + 1) = f 0 + (sm (fun i => f (i + 1)) n + f (n + 1))
    rw [sm_first f n]
    omega
theorem sm_rev (f : Nat → Int) : ∀ n, sm (fun i => f (n - 1 - i)) n = sm f n
  | 0 => rfl
  | n + 1 => by
    rw [sm_first]
    show f (n + 1 - 1 - 0) + sm (fun i => f (n + 1 - 1 - (i + 1))) n = sm f n + f n
    have e : sm (fun i => f (n + 1 - 1 - (i + 1))) n = sm (fun i => f (n - 1 - i)) n := sm_congr n fun i hi => by
      have e2 : n + 1 - 1 - (i + 1) = n - 1 - i := by omega
      rw [e2]
    rw [e, sm_rev f n]
    have e3 : n + 1 - 1 - 0 = n := by omega
    rw [e3]
    omega
/-- the triangle summed the other way -/
theorem sm_tri (F : Nat → Nat → Int) : ∀ n, sm (fun i => sm (fun j => F i j) (i + 1)) n = sm (fun j => sm (fun k => F (k + j) j) (n - j)) n
  | 0 => rfl
  | n + 1 => by
    show sm (fun i => sm (fun j => F i j) (i + 1)) n + (sm (fun j => F n j) n + F n n) = sm (fun j => sm (fun k => F (k + j) j) (n + 1 - j)) n + sm (fun k => F (k + n) n) (n + 1 - n)
    rw [sm_tri F n]
    have e1 : sm (fun j => sm (fun k => F (k + j) j) (n + 1 - j)) n = sm (fun j => sm (fun k => F (k + j) j) (n - j) + F n j) n := sm_congr n fun j hj => by
      have e2 : n + 1 - j = (n - j) + 1 := by omega
      rw [e2]
      show sm _ (n - j) + F (n - j + j) j = _
      have e3 : n - j + j = n := by omega
      rw [e3]
    have e4 : sm (fun k => F (k + n) n) (n + 1 - n) = F n n := by
      have e5 : n + 1 - n = 1 := by omega
      rw [e5]
      show 0 + F (0 + n) n = F n n
      rw [Nat.zero_add]
      omega
    have e9 : sm (F n) n = sm (fun j => F n j) n := rfl
    rw [e1, sm_add, e4]
    omega
abbrev S : Type := Nat → Int
/-- the product -/
def cv (f g : S) : S := fun n => sm (fun i => f i * g (n - i)) (n + 1)
def one : S := fun n => if n = 0 then 1 else 0
theorem cv_comm (f g : S) : cv f g = cv g f := by
  funext n
  unfold cv
  rw [← sm_rev (fun i => f i * g (n - i)) (n + 1)]
  refine sm_congr _ fun i hi => ?_
  have e1 : n + 1 - 1 - i = n - i := by omega
  have e2 : n - (n - i) = i := by omega
  show f (n + 1 - 1 - i) * g (n - (n + 1 - 1 - i)) = _
  rw [e1, e2, Int.mul_comm]
theorem cv_assoc (f g h : S) : cv (cv f g) h = cv f (cv g h) := by
  funext n
  unfold cv
  have e1 : sm (fun i => sm (fun j => f j * g (i - j)) (i + 1) * h (n - i)) (n + 1) = sm (fun i => sm (fun j => f j * g (i - j) * h (n - i)) (i + 1)) (n + 1) := sm_congr _ fun i hi => (sm_mul' _ _ _).symm
  rw [e1, sm_tri (fun i j => f j * g (i - j) * h (n - i))]
  refine sm_congr _ fun j hj => ?_
  have e2 : n + 1 - j = (n - j) + 1 := by omega
  rw [e2, ← sm_mul]
  refine sm_congr _ fun k hk => ?_
  have e3 : k + j - j = k := by omega
  have e4 : n - (k + j) = n - j - k := by omega
  rw [e3, e4, Int.mul_assoc]
theorem cv_one (f : S) : cv f one = f := by
  rw [cv_comm]
  funext n
  unfold cv
  rw [sm_first]
  have e : sm (fun i => one (i + 1) * f (n - (i + 1))) n = 0 := by
    rw [← sm_zero n]
    refine sm_congr _ fun i _ => ?_
    show (if i + 1 = 0 then (1 : Int) else 0) * _ = 0
    rw [if_neg (by omega), Int.zero_mul]
  rw [e]
  show (1 : Int) * f (n - 0) + 0 = f n
  rw [Int.one_mul, Int.add_zero, Nat.sub_zero]
theorem one_cv (f : S) : cv one f = f := by
  rw [cv_comm, cv_one]
def sc (c : Int) (f : S) : S := fun n => c * f n
def ad (f g : S) : S := fun n => f n + g n
theorem cv_sc (c : Int) (f g : S) : cv f (sc c g) = sc c (cv f g) := by
  funext n
  unfold cv sc
  rw [← sm_mul]
  refine sm_congr _ fun i _ => ?_
  rw [← Int.mul_assoc, Int.mul_comm (f i) c, Int.mul_assoc]
theorem sc_cv (c : Int) (f g : S) : cv (sc c f) g = sc c (cv f g) := by
  rw [cv_comm, cv_sc, cv_comm]
theorem cv_ad (f g h : S) : cv f (ad g h) = ad (cv f g) (cv f h) := by
  funext n
  unfold cv ad
  rw [← sm_add]
  refine sm_congr _ fun i _ => Int.mul_add _ _ _
/-- n * f n -/
def dv (f : S) : S := fun n => (n : Int) * f n
theorem dv_cv (f g : S) : dv (cv f g) = ad (cv (dv f) g) (cv f (dv g)) := by
  funext n
  unfold dv cv ad
  rw [← sm_mul, ← sm_add]
  refine sm_congr _ fun i hi => ?_
  have e : (n : Int) = (i : Int) + ((n - i : Nat) : Int) := by omega
  have e1 : ((i : Int) + ((n - i : Nat) : Int)) * (f i * g (n - i)) = (i : Int) * f i * g (n - i) + f i * (((n - i : Nat) : Int) * g (n - i)) := by
    rw [Int.add_mul, Int.mul_assoc, ← Int.mul_assoc (f i), Int.mul_comm (f i) ((n - i : Nat) : Int), Int.mul_assoc]
  rw [← e1, ← e]
theorem dv_one : dv one = fun _ => 0 := by
  funext n
  show (n : Int) * (if n = 0 then 1 else 0) = 0
  by_cases h : n = 0
  · rw [h]
    rfl
  · rw [if_neg h, Int.mul_zero]
/-- powers -/
def pw (f : S) : Nat → S
  | 0 => one
  | k + 1 => cv (pw f k) f
theorem cv_zero (f : S) : cv f (fun _ => 0) = fun _ => 0 := by
  funext n
  unfold cv
  refine Eq.trans (sm_congr _ fun i _ => Int.mul_zero _) (sm_zero _)
theorem sc_zero (c : Int) : sc c (fun _ => 0) = fun _ => 0 := by
  funext n
  exact Int.mul_zero _
/-- f times the derivative of its power -/
theorem dv_pw (f : S) : ∀ k : Nat, cv f (dv (pw f k)) = sc (k : Int) (cv (dv f) (pw f k))
  | 0 => by
    show cv f (dv one) = _
    rw [dv_one, cv_zero]
    funext n
    exact (Int.zero_mul _).symm
  | k + 1 => by
    show cv f (dv (cv (pw f k) f)) = sc ((k + 1 : Nat) : Int) (cv (dv f) (cv (pw f k) f))
    rw [dv_cv, cv_ad]
    have e1 : cv f (cv (dv (pw f k)) f) = sc (k : Int) (cv (dv f) (cv (pw f k) f)) := by
      rw [← cv_assoc, dv_pw f k, sc_cv, cv_assoc]
    have e2 : cv f (cv (pw f k) (dv f)) = cv (dv f) (cv (pw f k) f) := by
      rw [cv_comm f, cv_comm (pw f k), cv_assoc]
    rw [e1, e2]
    funext n
    show (k : Int) * _ + _ = ((k + 1 : Nat) : Int) * _
    have e3 : ((k + 1 : Nat) : Int) = (k : Int) + 1 := rfl
    rw [e3, Int.add_mul, Int.one_mul]
/-- the same of the powers of an inverse -/
theorem dv_inv (f g : S) (h : cv f g = one) : ∀ k : Nat, cv f (dv (pw g k)) = sc (-(k : Int)) (cv (dv f) (pw g k))
  | 0 => by
    show cv f (dv one) = _
    rw [dv_one, cv_zero]
    funext n
    show (0 : Int) = -0 * _
    rw [Int.neg_zero, Int.zero_mul]
  | k + 1 => by
    have hd : cv f (dv g) = sc (-1) (cv (dv f) g) := by
      have e := dv_cv f g
      rw [h, dv_one] at e
      funext n
      have e1 := congrFun e n
      have e2 : (0 : Int) = cv (dv f) g n + cv f (dv g) n := e1
      show cv f (dv g) n = -1 * cv (dv f) g n
      omega
    show cv f (dv (cv (pw g k) g)) = sc (-((k + 1 : Nat) : Int)) (cv (dv f) (cv (pw g k) g))
    rw [dv_cv, cv_ad]
    have e1 : cv f (cv (dv (pw g k)) g) = sc (-(k : Int)) (cv (dv f) (cv (pw g k) g)) := by
      rw [← cv_assoc, dv_inv f g h k, sc_cv, cv_assoc]
    have e2 : cv f (cv (pw g k) (dv g)) = sc (-1) (cv (dv f) (cv (pw g k) g)) := by
      rw [cv_comm (pw g k), ← cv_assoc, hd, sc_cv, cv_assoc, cv_comm g]
    rw [e1, e2]
    funext n
    show -(k : Int) * _ + -1 * _ = -((k + 1 : Nat) : Int) * _
    have e3 : -((k + 1 : Nat) : Int) = -(k : Int) + -1 := by
      have : ((k + 1 : Nat) : Int) = (k : Int) + 1 := rfl
      omega
    rw [e3, Int.add_mul]
/-- the recurrence of a power with the exponent e -/
theorem recur {f b : S} {e : Int} (h : cv f (dv b) = sc e (cv (dv f) b)) (n : Nat) : (n : Int) * f 0 * b n = sm (fun i => ((e + 1) * ((i + 1 : Nat) : Int) - (n : Int)) * f (i + 1) * b (n - (i + 1))) n := by
  have h1 : sm (fun i => f i * (((n - i : Nat) : Int) * b (n - i))) (n + 1) = e * sm (fun i => ((i : Nat) : Int) * f i * b (n - i)) (n + 1) := congrFun h n
  rw [sm_first, sm_first] at h1
  have z : ((0 : Nat) : Int) * f 0 * b (n - 0) = 0 := by
    show (0 : Int) * f 0 * _ = 0
    rw [Int.zero_mul, Int.zero_mul]
  rw [z, Int.zero_add, ← sm_mul] at h1
  have e1 : sm (fun i => ((e + 1) * ((i + 1 : Nat) : Int) - (n : Int)) * f (i + 1) * b (n - (i + 1))) n = sm (fun i => e * (((i + 1 : Nat) : Int) * f (i + 1) * b (n - (i + 1)))) n - sm (fun i => f (i + 1) * (((n - (i + 1) : Nat) : Int) * b (n - (i + 1)))) n := by
    have e2 : sm (fun i => ((e + 1) * ((i + 1 : Nat) : Int) - (n : Int)) * f (i + 1) * b (n - (i + 1))) n + sm (fun i => f (i + 1) * (((n - (i + 1) : Nat) : Int) * b (n - (i + 1)))) n = sm (fun i => e * (((i + 1 : Nat) : Int) * f (i + 1) * b (n - (i + 1)))) n := by
      rw [← sm_add]
      refine sm_congr _ fun i hi => ?_
      have e3 : ((n - (i + 1) : Nat) : Int) = (n : Int) - ((i + 1 : Nat) : Int) := by omega
      rw [e3]
      generalize ((i + 1 : Nat) : Int) = I
      generalize (n : Int) = N
      generalize f (i + 1) = F
      generalize b (n - (i + 1)) = B
      have e4 : F * ((N - I) * B) = (N - I) * F * B := by
        rw [← Int.mul_assoc, Int.mul_comm F]
      have e5 : e * (I * F * B) = e * I * F * B := by
        rw [← Int.mul_assoc, ← Int.mul_assoc]
      rw [e4, e5, ← Int.add_mul, ← Int.add_mul]
      congr 2
      rw [Int.add_mul, Int.one_mul]
      omega
    omega
  rw [e1, ← h1]
  have e6 : f 0 * (((n - 0 : Nat) : Int) * b (n - 0)) = (n : Int) * f 0 * b n := by
    rw [Nat.sub_zero, ← Int.mul_assoc, Int.mul_comm (f 0)]
  rw [e6]
  omega
/-! ### an inverse -/
def inA (f : S) (u : Int) : Nat → S
  | 0 => fun m => if m = 0 then u else 0
  | n + 1 => fun m => if m = n + 1 then -u * sm (fun i => f (i + 1) * inA f u n (n - i)) (n + 1) else inA f u n m
def inv (f : S) (u : Int) : S := fun m => inA f u m m
theorem inA_le (f : S) (u : Int) : ∀ n m, m ≤ n → inA f u n m = inv f u m
  | 0, m, h => by
    have e : m = 0 := by omega
    subst e
    rfl
  | n + 1, m, h => by
    by_cases e : m = n + 1
    · subst e
      rfl
    · show (if m = n + 1 then _ else inA f u n m) = _
      rw [if_neg e]
      exact inA_le f u n m (by omega)
theorem inv_zero (f : S) (u : Int) : inv f u 0 = u := rfl
theorem inv_succ (f : S) (u : Int) (n : Nat) : inv f u (n + 1) = -u * sm (fun i => f (i + 1) * inv f u (n - i)) (n + 1) := by
  show (if n + 1 = n + 1 then -u * sm (fun i => f (i + 1) * inA f u n (n - i)) (n + 1) else _) = _
  rw [if_pos rfl]
  congr 1
  refine sm_congr _ fun i _ => ?_
  rw [inA_le f u n (n - i) (by omega)]
theorem cv_inv (f : S) {u : Int} (h0 : f 0 = u) (hu : u * u = 1) : cv f (inv f u) = one := by
  funext n
  unfold cv
  cases n with
  | zero =>
    show 0 + f 0 * inv f u 0 = 1
    rw [h0, inv_zero, hu]
    rfl
  | succ n =>
    rw [sm_first, h0]
    show u * inv f u (n + 1) + sm (fun i => f (i + 1) * inv f u (n + 1 - (i + 1))) (n + 1) = 0
    have e : sm (fun i => f (i + 1) * inv f u (n + 1 - (i + 1))) (n + 1) = sm (fun i => f (i + 1) * inv f u (n - i)) (n + 1) := sm_congr _ fun i _ => by
      have e2 : n + 1 - (i + 1) = n - i := by omega
      rw [e2]
    rw [e, inv_succ, ← Int.mul_assoc, Int.mul_neg, hu]
    omega
theorem pw_zero (f : S) : ∀ k, pw f k 0 = f 0 ^ k
  | 0 => (Int.pow_zero _).symm
  | k + 1 => by
    show cv (pw f k) f 0 = _
    show 0 + pw f k 0 * f 0 = _
    rw [pw_zero f k, Int.zero_add, Int.pow_succ]
/-! ### only the coefficients up to some last one matter -/
theorem cv_congr {f f' g g' : S} {N : Nat} (hf : ∀ i, i < N → f i = f' i) (hg : ∀ i, i < N → g i = g' i) : ∀ n, n < N → cv f g n = cv f' g' n := fun n hn => sm_congr _ fun i hi => by
  rw [hf i (by omega), hg (n - i) (by omega)]
theorem pw_congr {f f' : S} {N : Nat} (hf : ∀ i, i < N → f i = f' i) : ∀ k n, n < N → pw f k n = pw f' k n
  | 0, _, _ => rfl
  | k + 1, n, hn => cv_congr (pw_congr hf k) hf n hn
theorem inv_congr {f f' : S} {u : Int} {N : Nat} (hf : ∀ i, i < N → f i = f' i) : ∀ n, n < N → inv f u n = inv f' u n := by
  intro n
  induction n using Nat.strongRecOn with
  | ind n ih =>
    intro hn
    cases n with
    | zero => rfl
    | succ n =>
      rw [inv_succ, inv_succ]
      congr 1
      refine sm_congr _ fun i hi => ?_
      rw [hf (i + 1) (by omega), ih (n - i) (by omega) (by omega)]
/-! ### shifts -/
/-- q ^ z times it -/
def sh (z : Nat) (f : S) : S := fun n => if n < z then 0 else f (n - z)
theorem sm_split (f : S) (z : Nat) : ∀ n, sm f (z + n) = sm f z + sm (fun i => f (z + i)) n
  | 0 => by
    show sm f z = sm f z + 0
    omega
  | n + 1 => by
    show sm f (z + n) + f (z + n) = _
    rw [sm_split f z n]
    show _ = sm f z + (sm (fun i => f (z + i)) n + f (z + n))
    omega
theorem sh_cv (z : Nat) (f g : S) : cv (sh z f) g = sh z (cv f g) := by
  funext n
  unfold cv
  by_cases h : n < z
  · show _ = if n < z then 0 else _
    rw [if_pos h]
    refine Eq.trans (sm_congr _ fun i hi => ?_) (sm_zero _)
    show (if i < z then 0 else f (i - z)) * _ = 0
    rw [if_pos (by omega), Int.zero_mul]
  · show _ = if n < z then 0 else sm (fun i => f i * g (n - z - i)) (n - z + 1)
    rw [if_neg h]
    have e : n + 1 = z + (n - z + 1) := by omega
    rw [e, sm_split]
    have e0 : sm (fun i => sh z f i * g (n - i)) z = 0 := by
      refine Eq.trans (sm_congr _ fun i hi => ?_) (sm_zero _)
      show (if i < z then 0 else f (i - z)) * _ = 0
      rw [if_pos hi, Int.zero_mul]
    rw [e0, Int.zero_add]
    refine sm_congr _ fun i hi => ?_
    show (if z + i < z then 0 else f (z + i - z)) * g (n - (z + i)) = _
    rw [if_neg (by omega)]
    have e1 : z + i - z = i := by omega
    have e2 : n - (z + i) = n - z - i := by omega
    rw [e1, e2]
theorem sh_sh (a b : Nat) (f : S) : sh a (sh b f) = sh (a + b) f := by
  funext n
  unfold sh
  by_cases h : n < a
  · rw [if_pos h, if_pos (by omega)]
  · rw [if_neg h]
    by_cases h2 : n - a < b
    · rw [if_pos h2, if_pos (by omega)]
    · rw [if_neg h2, if_neg (by omega)]
      congr 1
      omega
theorem sh_zero (f : S) : sh 0 f = f := by
  funext n
  show (if n < 0 then 0 else f (n - 0)) = f n
  rw [if_neg (by omega), Nat.sub_zero]
theorem pw_sh (z : Nat) (f : S) : ∀ k, pw (sh z f) k = sh (z * k) (pw f k)
  | 0 => by
    rw [Nat.mul_zero, sh_zero]
    rfl
  | k + 1 => by
    show cv (pw (sh z f) k) (sh z f) = sh (z * (k + 1)) (cv (pw f k) f)
    rw [pw_sh z f k, sh_cv, cv_comm, sh_cv, cv_comm f, sh_sh]
    rfl
/-! ### bounds -/
theorem sm_bound {f : S} {M : Nat} : ∀ n, (∀ i, i < n → (f i).natAbs ≤ M) → (sm f n).natAbs ≤ n * M
  | 0, _ => by
    show 0 ≤ _
    omega
  | n + 1, h => by
    have h1 := sm_bound n fun i hi => h i (by omega)
    have h2 := h n (by omega)
    show (sm f n + f n).natAbs ≤ (n + 1) * M
    rw [Nat.succ_mul]
    omega
theorem cv_bound {f g : S} {N A B : Nat} (hf : ∀ i, i < N → (f i).natAbs ≤ A) (hg : ∀ i, i < N → (g i).natAbs ≤ B) : ∀ n, n < N → (cv f g n).natAbs ≤ N * (A * B) := fun n hn => by
  refine Nat.le_trans (sm_bound (M := A * B) (n + 1) fun i hi => ?_) (Nat.mul_le_mul_right _ (by omega))
  rw [Int.natAbs_mul]
  exact Nat.mul_le_mul (hf i (by omega)) (hg (n - i) (by omega))
theorem pw_bound {f : S} {N A : Nat} (hf : ∀ i, i < N → (f i).natAbs ≤ A) (hN : 0 < N) : ∀ k n, n < N → (pw f k n).natAbs ≤ (N * A) ^ k
  | 0, n, _ => by
    show (if n = 0 then (1 : Int) else 0).natAbs ≤ 1
    by_cases h : n = 0
    · rw [if_pos h]
      decide
    · rw [if_neg h]
      decide
  | k + 1, n, hn => by
    refine Nat.le_trans (cv_bound (pw_bound hf hN k) hf n hn) ?_
    rw [Nat.pow_succ, ← Nat.mul_assoc, Nat.mul_comm N, Nat.mul_assoc]
    exact Nat.le_refl _
theorem inv_bound {f : S} {u : Int} {N A : Nat} (hu : u.natAbs = 1) (hf : ∀ i, i < N → (f i).natAbs ≤ A) : ∀ n, n < N → (inv f u n).natAbs ≤ (N * (A + 1)) ^ n := by
  intro n
  induction n using Nat.strongRecOn with
  | ind n ih =>
    intro hn
    cases n with
    | zero =>
      rw [inv_zero, hu]
      exact Nat.le_refl _
    | succ n =>
      rw [inv_succ, Int.natAbs_mul, Int.natAbs_neg, hu, Nat.one_mul]
      have hp : 0 < N * (A + 1) := Nat.mul_pos (by omega) (by omega)
      refine Nat.le_trans (sm_bound (M := A * (N * (A + 1)) ^ n) (n + 1) fun i hi => ?_) ?_
      · rw [Int.natAbs_mul]
        refine Nat.mul_le_mul (hf (i + 1) (by omega)) (Nat.le_trans (ih (n - i) (by omega) (by omega)) ?_)
        exact Nat.pow_le_pow_right hp (by omega)
      · rw [Nat.pow_succ, Nat.mul_comm _ (N * (A + 1)), Nat.mul_assoc N]
        have h1 : A * (N * (A + 1)) ^ n ≤ (A + 1) * (N * (A + 1)) ^ n := Nat.mul_le_mul_right _ (by omega)
        exact Nat.mul_le_mul (by omega) h1
end Ps

set_option Elab.async false
set_option linter.all false
set_option maxRecDepth 100000
set_option maxHeartbeats 4000000
/-! products of powers of 1 - q^n, and sums over divisors -/
namespace Ps
/-- 1 - q^n -/
def U (n : Nat) : S := fun i => if i = 0 then 1 else if i = n then -1 else 0
/-- its inverse -/
def G (n : Nat) : S := fun i => if n ∣ i then 1 else 0
/-- q^n / (1 - q^n) -/
def Ev (n : Nat) : S := fun i => if i ≠ 0 ∧ n ∣ i then 1 else 0
/-- q^n -/
def Xp (n : Nat) : S := fun i => if i = n then 1 else 0
theorem sm_one_at (f : S) {m : Nat} : ∀ N, m < N → (∀ i, i < N → i ≠ m → f i = 0) → sm f N = f m
  | 0, h, _ => absurd h (Nat.not_lt_zero _)
  | N + 1, h, h2 => by
    show sm f N + f N = f m
    by_cases e : m = N
    · subst e
      rw [sm_congr (g := fun _ => 0) m (fun i hi => h2 i (by omega) (by omega)), sm_zero]
      omega
    · rw [sm_one_at f N (by omega) (fun i hi hn => h2 i (by omega) hn), h2 N (by omega) (fun z => e z.symm)]
      omega
theorem cv_U {n : Nat} (hn : 0 < n) (f : S) : cv (U n) f = fun k => f k - (if n ≤ k then f (k - n) else 0) := by
  funext k
  unfold cv
  rw [sm_first]
  have e0 : U n 0 * f (k - 0) = f k := by
    show (1 : Int) * f (k - 0) = f k
    rw [Int.one_mul, Nat.sub_zero]
  rw [e0]
  by_cases h : n ≤ k
  · rw [if_pos h, sm_one_at (m := n - 1) (fun i => U n (i + 1) * f (k - (i + 1))) k (by omega) (fun i hi hne => ?_)]
    · show f k + U n (n - 1 + 1) * f (k - (n - 1 + 1)) = _
      have e1 : n - 1 + 1 = n := by omega
      rw [e1]
      have e2 : U n n = -1 := by
        unfold U
        rw [if_neg (by omega), if_pos rfl]
      rw [e2]
      omega
    · show U n (i + 1) * _ = 0
      have e2 : U n (i + 1) = 0 := by
        unfold U
        rw [if_neg (by omega), if_neg (by omega)]
      rw [e2, Int.zero_mul]
  · rw [if_neg h, sm_congr (g := fun _ => 0) k (fun i hi => ?_), sm_zero]
    · omega
    · show U n (i + 1) * _ = 0
      have e2 : U n (i + 1) = 0 := by
        unfold U
        rw [if_neg (by omega), if_neg (by omega)]
      rw [e2, Int.zero_mul]
theorem dvd_lt {n k : Nat} (h : k < n) : n ∣ k ↔ k = 0 := ⟨fun z => by
  rcases Nat.eq_zero_or_pos k with q | q
  · exact q
  · exact absurd (Nat.le_of_dvd q z) (by omega), fun z => by rw [z]; exact Nat.dvd_zero _⟩
theorem dvd_back {n k : Nat} (h : n ≤ k) : n ∣ k ↔ n ∣ k - n := ⟨fun z => Nat.dvd_sub z (Nat.dvd_refl n), fun z => by
  have z2 := Nat.dvd_add z (Nat.dvd_refl n)
  rwa [Nat.sub_add_cancel h] at z2⟩
theorem UG {n : Nat} (hn : 0 < n) : cv (U n) (G n) = one := by
  rw [cv_U hn]
  funext k
  show (if n ∣ k then (1 : Int) else 0) - (if n ≤ k then (if n ∣ k - n then 1 else 0) else 0) = if k = 0 then 1 else 0
  by_cases h : n ≤ k
  · rw [if_pos h, if_neg (by omega : ¬ k = 0)]
    by_cases d : n ∣ k
    · rw [if_pos d, if_pos ((dvd_back h).mp d)]
      rfl
    · rw [if_neg d, if_neg (fun z => d ((dvd_back h).mpr z))]
      rfl
  · rw [if_neg h]
    by_cases d : k = 0
    · rw [if_pos ((dvd_lt (by omega)).mpr d), if_pos d]
      rfl
    · rw [if_neg (fun z => d ((dvd_lt (by omega)).mp z)), if_neg d]
      rfl
theorem UE {n : Nat} (hn : 0 < n) : cv (U n) (Ev n) = Xp n := by
  rw [cv_U hn]
  funext k
  show (if k ≠ 0 ∧ n ∣ k then (1 : Int) else 0) - (if n ≤ k then (if k - n ≠ 0 ∧ n ∣ k - n then 1 else 0) else 0) = if k = n then 1 else 0
  by_cases h : n ≤ k
  · rw [if_pos h]
    by_cases d : n ∣ k
    · rw [if_pos ⟨by omega, d⟩]
      by_cases e : k = n
      · rw [if_pos e, if_neg (by omega)]
        rfl
      · rw [if_neg e, if_pos ⟨by omega, (dvd_back h).mp d⟩]
        rfl
    · rw [if_neg (fun z => d z.2), if_neg (fun z => d ((dvd_back h).mpr z.2)), if_neg (fun z => d (by rw [z]; exact Nat.dvd_refl _))]
      rfl
  · rw [if_neg h, if_neg (fun z => h (Nat.le_of_dvd (Nat.pos_of_ne_zero z.1) z.2)), if_neg (by omega)]
    rfl
theorem dvU {n : Nat} : dv (U n) = sc (-(n : Int)) (Xp n) := by
  funext i
  show (i : Int) * (if i = 0 then 1 else if i = n then -1 else 0) = -(n : Int) * (if i = n then 1 else 0)
  by_cases h : i = n
  · subst h
    rw [if_pos rfl, if_pos rfl]
    by_cases z : i = 0
    · rw [if_pos z]
      omega
    · rw [if_neg z]
      omega
  · rw [if_neg h, if_neg h]
    by_cases z : i = 0
    · rw [if_pos z]
      omega
    · rw [if_neg z]
      omega
theorem cancelU {n : Nat} (hn : 0 < n) {f g : S} (h : cv (U n) f = cv (U n) g) : f = g := by
  have e : ∀ z : S, cv (G n) (cv (U n) z) = z := fun z => by rw [← cv_assoc, cv_comm (G n), UG hn, one_cv]
  rw [← e f, h, e]
theorem ad_zero (f : S) : ad f (fun _ => 0) = f := by
  funext k
  show f k + 0 = f k
  omega
theorem dvG {n : Nat} (hn : 0 < n) : dv (G n) = cv (sc (n : Int) (Ev n)) (G n) := by
  refine cancelU hn ?_
  have h := dv_cv (U n) (G n)
  rw [UG hn, dv_one, dvU, ← UE hn, sc_cv] at h
  have e1 : cv (cv (U n) (Ev n)) (G n) = cv (U n) (cv (Ev n) (G n)) := cv_assoc _ _ _
  rw [e1] at h
  rw [sc_cv, cv_sc]
  funext k
  have hk := congrFun h k
  show cv (U n) (dv (G n)) k = (n : Int) * cv (U n) (cv (Ev n) (G n)) k
  have hk2 : (0 : Int) = -(n : Int) * cv (U n) (cv (Ev n) (G n)) k + cv (U n) (dv (G n)) k := hk
  rw [Int.neg_mul] at hk2
  omega
/-- the logarithmic slope of a is s -/
structure Lg (s a : S) : Prop where
  z : s 0 = 0
  d : dv a = cv s a
theorem Lg.one : Lg (fun _ => 0) one := ⟨rfl, by rw [dv_one, cv_comm, cv_zero]⟩
theorem ad_cv (f g h : S) : cv (ad f g) h = ad (cv f h) (cv g h) := by rw [cv_comm, cv_ad, cv_comm h f, cv_comm h g]
theorem Lg.pos {s a : S} (L : Lg s a) {n : Nat} (hn : 0 < n) : Lg (ad s (sc (n : Int) (Ev n))) (cv (G n) a) := by
  refine ⟨?_, ?_⟩
  · show s 0 + (n : Int) * (if (0 : Nat) ≠ 0 ∧ n ∣ 0 then 1 else 0) = 0
    rw [L.z, if_neg (fun z => z.1 rfl)]
    omega
  · rw [dv_cv, dvG hn, L.d, ad_cv, cv_assoc, ← cv_assoc (G n) s a, cv_comm (G n) s, cv_assoc]
    funext k
    show _ + _ = _ + _
    omega
theorem Lg.neg {s a : S} (L : Lg s a) {n : Nat} (hn : 0 < n) : Lg (ad s (sc (-(n : Int)) (Ev n))) (cv (U n) a) := by
  refine ⟨?_, ?_⟩
  · show s 0 + -(n : Int) * (if (0 : Nat) ≠ 0 ∧ n ∣ 0 then 1 else 0) = 0
    rw [L.z, if_neg (fun z => z.1 rfl)]
    omega
  · rw [dv_cv, dvU, L.d, ad_cv, ← UE hn, sc_cv, sc_cv, cv_assoc, cv_comm (U n) (cv s a), cv_assoc, cv_comm a (U n)]
    have e : cv (U n) (cv (Ev n) a) = cv (Ev n) (cv (U n) a) := by rw [← cv_assoc, cv_comm (U n), cv_assoc]
    rw [e]
    funext k
    show _ + _ = _ + _
    omega
/-- one factor to the power -p, laps done -/
def lapF (n : Nat) (p : Int) : Nat → S → S
  | 0, a => a
  | j + 1, a => if 0 < p then cv (G n) (lapF n p j a) else cv (U n) (lapF n p j a)
def prA (p : S) : Nat → S
  | 0 => one
  | j + 1 => lapF (j + 1) (p j) (p j).natAbs (prA p j)
/-- the weighted sum over divisors, the first j alone -/
def sS (p : S) : Nat → S
  | 0 => fun _ => 0
  | j + 1 => ad (sS p j) (sc (((j + 1 : Nat) : Int) * p j) (Ev (j + 1)))
theorem lg_lap {s a : S} (L : Lg s a) {n : Nat} (hn : 0 < n) (p : Int) : ∀ j, j ≤ p.natAbs → Lg (ad s (sc ((n : Int) * (if 0 < p then (j : Int) else -(j : Int))) (Ev n))) (lapF n p j a)
  | 0, _ => by
    have e : ad s (sc ((n : Int) * (if 0 < p then ((0 : Nat) : Int) else -((0 : Nat) : Int))) (Ev n)) = s := by
      funext k
      show s k + (n : Int) * (if 0 < p then (0 : Int) else -(0 : Int)) * _ = s k
      split <;> simp
    rw [e]
    exact L
  | j + 1, hj => by
    have L1 := lg_lap L hn p j (by omega)
    unfold lapF
    by_cases h : 0 < p
    · rw [if_pos h] at L1
      rw [if_pos h, if_pos h]
      have e : ad s (sc ((n : Int) * ((j + 1 : Nat) : Int)) (Ev n)) = ad (ad s (sc ((n : Int) * (j : Int)) (Ev n))) (sc (n : Int) (Ev n)) := by
        funext k
        show s k + (n : Int) * ((j + 1 : Nat) : Int) * Ev n k = s k + (n : Int) * (j : Int) * Ev n k + (n : Int) * Ev n k
        have e1 : ((j + 1 : Nat) : Int) = (j : Int) + 1 := by omega
        rw [e1, Int.mul_add, Int.mul_one, Int.add_mul]
        omega
      rw [e]
      exact L1.pos hn
    · rw [if_neg h] at L1
      rw [if_neg h, if_neg h]
      have e : ad s (sc ((n : Int) * -((j + 1 : Nat) : Int)) (Ev n)) = ad (ad s (sc ((n : Int) * -(j : Int)) (Ev n))) (sc (-(n : Int)) (Ev n)) := by
        funext k
        show s k + (n : Int) * -((j + 1 : Nat) : Int) * Ev n k = s k + (n : Int) * -(j : Int) * Ev n k + -(n : Int) * Ev n k
        have e1 : -((j + 1 : Nat) : Int) = -(j : Int) + -1 := by omega
        rw [e1, Int.mul_add, Int.add_mul, Int.mul_neg_one]
        omega
      rw [e]
      exact L1.neg hn
theorem lg_prA (p : S) : ∀ j, Lg (sS p j) (prA p j)
  | 0 => Lg.one
  | j + 1 => by
    have L := lg_lap (lg_prA p j) (n := j + 1) (by omega) (p j) (p j).natAbs (Nat.le_refl _)
    have e : (if 0 < p j then ((p j).natAbs : Int) else -((p j).natAbs : Int)) = p j := by
      split <;> omega
    rw [e] at L
    exact L
theorem lapF_at (n : Nat) (hn : 0 < n) (p : Int) (a : S) : ∀ j k, k < n → lapF n p j a k = a k
  | 0, _, _ => rfl
  | j + 1, k, hk => by
    have ih := lapF_at n hn p a j k hk
    unfold lapF
    split
    · have e : cv (U n) (cv (G n) (lapF n p j a)) k = lapF n p j a k := by rw [← cv_assoc, UG hn, one_cv]
      rw [cv_U hn] at e
      have e2 : cv (G n) (lapF n p j a) k - (if n ≤ k then cv (G n) (lapF n p j a) (k - n) else 0) = lapF n p j a k := e
      rw [if_neg (by omega)] at e2
      omega
    · rw [cv_U hn]
      show lapF n p j a k - (if n ≤ k then _ else 0) = _
      rw [if_neg (by omega)]
      omega
/-- the coefficient at n itself moves by the power -/
theorem lapF_self (n : Nat) (hn : 0 < n) (p : Int) (a : S) (h0 : a 0 = 1) : ∀ j, lapF n p j a n = a n + (if 0 < p then (j : Int) else -(j : Int))
  | 0 => by
    show a n = a n + _
    split <;> simp
  | j + 1 => by
    have ih := lapF_self n hn p a h0 j
    have z0 := lapF_at n hn p a j 0 hn
    have z1 := lapF_at n hn p a (j + 1) 0 hn
    have ec : ((j + 1 : Nat) : Int) = (j : Int) + 1 := by omega
    unfold lapF at z1 ⊢
    by_cases h : 0 < p
    · rw [if_pos h] at ih z1 ⊢
      rw [if_pos h]
      have e : cv (U n) (cv (G n) (lapF n p j a)) n = lapF n p j a n := by rw [← cv_assoc, UG hn, one_cv]
      rw [cv_U hn] at e
      have e2 : cv (G n) (lapF n p j a) n - (if n ≤ n then cv (G n) (lapF n p j a) (n - n) else 0) = lapF n p j a n := e
      rw [if_pos (Nat.le_refl _), Nat.sub_self, z1, h0] at e2
      omega
    · rw [if_neg h] at ih z1 ⊢
      rw [if_neg h, cv_U hn]
      show lapF n p j a n - (if n ≤ n then lapF n p j a (n - n) else 0) = _
      rw [if_pos (Nat.le_refl _), Nat.sub_self, z0, h0, ih]
      omega
theorem prA_zero (p : S) : ∀ j, prA p j 0 = 1
  | 0 => rfl
  | j + 1 => by
    show lapF (j + 1) (p j) (p j).natAbs (prA p j) 0 = 1
    rw [lapF_at (j + 1) (by omega) _ _ _ 0 (by omega), prA_zero p j]
/-- behind the first k factors nothing changes up to k -/
theorem prA_far (p : S) : ∀ j k, k ≤ j → prA p j k = prA p k k
  | 0, k, h => by
    have : k = 0 := by omega
    subst this
    rfl
  | j + 1, k, h => by
    by_cases e : k = j + 1
    · rw [e]
    · show lapF (j + 1) (p j) (p j).natAbs (prA p j) k = _
      rw [lapF_at (j + 1) (by omega) _ _ _ k (by omega), prA_far p j k (by omega)]
theorem prA_congr {p q : S} : ∀ j, (∀ i, i < j → p i = q i) → prA p j = prA q j
  | 0, _ => rfl
  | j + 1, h => by
    show lapF (j + 1) (p j) (p j).natAbs (prA p j) = lapF (j + 1) (q j) (q j).natAbs (prA q j)
    rw [h j (by omega), prA_congr j fun i hi => h i (by omega)]
theorem sS_congr {p q : S} : ∀ j, (∀ i, i < j → p i = q i) → sS p j = sS q j
  | 0, _ => rfl
  | j + 1, h => by
    show ad (sS p j) _ = ad (sS q j) _
    rw [h j (by omega), sS_congr j fun i hi => h i (by omega)]
theorem prA_tail {p : S} {m : Nat} (h : ∀ i, m ≤ i → p i = 0) : ∀ k, prA p (m + k) = prA p m
  | 0 => rfl
  | k + 1 => by
    show lapF (m + k + 1) (p (m + k)) (p (m + k)).natAbs (prA p (m + k)) = _
    rw [h (m + k) (by omega)]
    exact prA_tail h k
theorem sS_tail {p : S} {m : Nat} (h : ∀ i, m ≤ i → p i = 0) : ∀ k, sS p (m + k) = sS p m
  | 0 => rfl
  | k + 1 => by
    show ad (sS p (m + k)) (sc (((m + k + 1 : Nat) : Int) * p (m + k)) (Ev (m + k + 1))) = _
    rw [h (m + k) (by omega), sS_tail h k]
    funext i
    show _ + (_ * 0) * _ = _
    rw [Int.mul_zero, Int.zero_mul, Int.add_zero]
/-- each series that begins with 1 is such a product -/
def exps (a : S) : Nat → S
  | 0 => fun _ => 0
  | j + 1 => fun i => if i = j then a (j + 1) - prA (exps a j) j (j + 1) else exps a j i
theorem exps_lt (a : S) : ∀ j k i, i < j → exps a (j + k) i = exps a j i
  | j, 0, i, _ => rfl
  | j, k + 1, i, h => by
    show (if i = j + k then _ else exps a (j + k) i) = _
    rw [if_neg (by omega), exps_lt a j k i h]
theorem exps_ok (a : S) (h0 : a 0 = 1) : ∀ j k, k ≤ j → prA (exps a j) j k = a k
  | 0, k, h => by
    have : k = 0 := by omega
    subst this
    exact h0.symm
  | j + 1, k, h => by
    have e : prA (exps a (j + 1)) j = prA (exps a j) j := prA_congr j fun i hi => exps_lt a j 1 i hi
    have ep : exps a (j + 1) j = a (j + 1) - prA (exps a j) j (j + 1) := by
      show (if j = j then _ else _) = _
      rw [if_pos rfl]
    show lapF (j + 1) (exps a (j + 1) j) (exps a (j + 1) j).natAbs (prA (exps a (j + 1)) j) k = a k
    rw [e]
    by_cases hk : k = j + 1
    · subst hk
      rw [lapF_self (j + 1) (by omega) _ _ (prA_zero _ _), ep]
      split <;> omega
    · rw [lapF_at (j + 1) (by omega) _ _ _ k (by omega)]
      exact exps_ok a h0 j k (by omega)
/-- n a(n) is the sum of s(k) a(n - k) -/
theorem Lg.at_ {s a : S} (L : Lg s a) (n : Nat) : (n : Int) * a n = sm (fun i => s (i + 1) * a (n - (i + 1))) n := by
  have h := congrFun L.d n
  have h2 : (n : Int) * a n = sm (fun i => s i * a (n - i)) (n + 1) := h
  rw [sm_first, L.z, Int.zero_mul, Int.zero_add] at h2
  exact h2
end Ps

set_option Elab.async false
set_option linter.all false
set_option maxRecDepth 100000
set_option maxHeartbeats 4000000
/-! bounds of products and of their sums -/
namespace Ps
theorem sS_bound {p : S} {c : Nat} (hp : ∀ i, (p i).natAbs ≤ c) : ∀ j k, (sS p j k).natAbs ≤ c * (j * (j + 1))
  | 0, k => by
    show (0 : Int).natAbs ≤ _
    exact Nat.zero_le _
  | j + 1, k => by
    have ih := sS_bound hp j k
    show (sS p j k + ((j + 1 : Nat) : Int) * p j * Ev (j + 1) k).natAbs ≤ _
    have h1 : (((j + 1 : Nat) : Int) * p j * Ev (j + 1) k).natAbs ≤ c * (j + 1) := by
      rw [Int.natAbs_mul, Int.natAbs_mul, Int.natAbs_natCast]
      have h2 : (Ev (j + 1) k).natAbs ≤ 1 := by
        unfold Ev
        split <;> decide
      have h3 := hp j
      have h4 : (j + 1) * (p j).natAbs ≤ (j + 1) * c := Nat.mul_le_mul (Nat.le_refl _) h3
      have h5 := Nat.mul_le_mul h4 h2
      rw [Nat.mul_one, Nat.mul_comm (j + 1) c] at h5
      exact h5
    have h6 := Int.natAbs_add_le (sS p j k) (((j + 1 : Nat) : Int) * p j * Ev (j + 1) k)
    have h7 : c * ((j + 1) * (j + 1 + 1)) = c * (j * (j + 1)) + c * (j + 1) + c * (j + 1) := by
      rw [← Nat.mul_add, ← Nat.mul_add]
      congr 1
      rw [Nat.mul_add (j + 1) (j + 1) 1, Nat.add_mul j 1 (j + 1)]
      omega
    omega
theorem lg_bound {s a : S} (L : Lg s a) (a0 : a 0 = 1) {B N : Nat} (hB : 1 ≤ B) (hs : ∀ k, k ≤ N → (s k).natAbs ≤ B) : ∀ n, n ≤ N → (a n).natAbs ≤ B ^ n := by
  intro n
  induction n using Nat.strongRecOn with
  | _ n ih =>
    intro hn
    cases n with
    | zero =>
      rw [a0]
      exact Nat.le_refl _
    | succ n =>
      have h := L.at_ (n + 1)
      have hb : (sm (fun i => s (i + 1) * a (n + 1 - (i + 1))) (n + 1)).natAbs ≤ (n + 1) * B ^ (n + 1) := sm_bound _ fun i hi => by
        rw [Int.natAbs_mul]
        have h1 := hs (i + 1) (by omega)
        have h2 := ih (n + 1 - (i + 1)) (by omega) (by omega)
        have h3 : B ^ (n + 1 - (i + 1)) ≤ B ^ n := Nat.pow_le_pow_right hB (by omega)
        have h4 := Nat.mul_le_mul h1 (Nat.le_trans h2 h3)
        rw [Nat.pow_succ, Nat.mul_comm (B ^ n) B]
        exact h4
      rw [← h, Int.natAbs_mul, Int.natAbs_natCast] at hb
      exact Nat.le_of_mul_le_mul_left hb (by omega)
theorem sums_bound {s a : S} (L : Lg s a) (a0 : a 0 = 1) {M N : Nat} (hM : 1 ≤ M) (hN : N ≤ 12) (ha : ∀ k, k ≤ N → (a k).natAbs ≤ M) : ∀ n, n ≤ N → (s n).natAbs ≤ (32 * M) ^ n := by
  intro n
  induction n using Nat.strongRecOn with
  | _ n ih =>
    intro hn
    cases n with
    | zero =>
      rw [L.z]
      exact Nat.zero_le _
    | succ n =>
      have h := L.at_ (n + 1)
      have h0 : sm (fun i => s (i + 1) * a (n + 1 - (i + 1))) (n + 1) = sm (fun i => s (i + 1) * a (n + 1 - (i + 1))) n + s (n + 1) * a (n + 1 - (n + 1)) := rfl
      rw [h0, Nat.sub_self, a0, Int.mul_one] at h
      have hb : (sm (fun i => s (i + 1) * a (n + 1 - (i + 1))) n).natAbs ≤ n * ((32 * M) ^ n * M) := sm_bound _ fun i hi => by
        rw [Int.natAbs_mul]
        have h1 := ih (i + 1) (by omega) (by omega)
        have h2 := ha (n + 1 - (i + 1)) (by omega)
        have h3 : (32 * M) ^ (i + 1) ≤ (32 * M) ^ n := Nat.pow_le_pow_right (by omega) (by omega)
        exact Nat.mul_le_mul (Nat.le_trans h1 h3) h2
      have hc : (((n + 1 : Nat) : Int) * a (n + 1)).natAbs ≤ 12 * M := by
        rw [Int.natAbs_mul, Int.natAbs_natCast]
        exact Nat.mul_le_mul (by omega) (ha _ hn)
      have h1 : 1 ≤ (32 * M) ^ n := Nat.pow_pos (by omega)
      have h2 : n * ((32 * M) ^ n * M) ≤ 12 * ((32 * M) ^ n * M) := Nat.mul_le_mul (by omega) (Nat.le_refl _)
      have h3 : 12 * M ≤ 12 * ((32 * M) ^ n * M) := by
        have := Nat.mul_le_mul h1 (Nat.le_refl M)
        omega
      have h4 : (32 * M) ^ (n + 1) = 32 * ((32 * M) ^ n * M) := by
        rw [Nat.pow_succ, Nat.mul_comm 32 M, ← Nat.mul_assoc, Nat.mul_comm]
      have h5 : s (n + 1) = ((n + 1 : Nat) : Int) * a (n + 1) - sm (fun i => s (i + 1) * a (n + 1 - (i + 1))) n := by omega
      have h6 := Int.natAbs_sub_le (((n + 1 : Nat) : Int) * a (n + 1)) (sm (fun i => s (i + 1) * a (n + 1 - (i + 1))) n)
      rw [← h5] at h6
      omega
/-- a and b with the same sums are the same -/
theorem lg_uniq {s a : S} (L : Lg s a) {b : S} {N : Nat} (h0 : a 0 = b 0) (hb : ∀ n, n < N → ((n + 1 : Nat) : Int) * b (n + 1) = sm (fun i => s (i + 1) * b (n + 1 - (i + 1))) (n + 1)) : ∀ n, n ≤ N → a n = b n := by
  intro n
  induction n using Nat.strongRecOn with
  | _ n ih =>
    intro hn
    cases n with
    | zero => exact h0
    | succ n =>
      have h := L.at_ (n + 1)
      have h2 := hb n (by omega)
      have e : sm (fun i => s (i + 1) * a (n + 1 - (i + 1))) (n + 1) = sm (fun i => s (i + 1) * b (n + 1 - (i + 1))) (n + 1) := sm_congr _ fun i hi => by
        rw [ih (n + 1 - (i + 1)) (by omega) (by omega)]
      rw [e, ← h2] at h
      exact Int.eq_of_mul_eq_mul_left (by omega) h
end Ps

set_option Elab.async false
set_option linter.all false
set_option maxRecDepth 100000
set_option maxHeartbeats 4000000
/-! sums over divisors -/
namespace Ps
def sgm (n k : Nat) : Int := sm (fun i => if (i + 1) ∣ n then ((i + 1 : Nat) : Int) ^ k else 0) n
def rt (n : Nat) : Nat := PySem.Float64.isqrt n
/-- what d and its partner give -/
def pr1 (n k d : Nat) : Int := ((d : Nat) : Int) ^ k + (if d * d = n then 0 else ((n / d : Nat) : Int) ^ k)
def pvS (n k r : Nat) : Int := sm (fun i => if (i + 1) ∣ n then pr1 n k (i + 1) else 0) r
def DV (n k : Nat) : Int := pvS n k (rt n)
theorem rt_eq {n r : Nat} (h1 : r * r ≤ n) (h2 : n < (r + 1) * (r + 1)) : r = rt n := by
  have s := PySem.Float64.isqrt_spec n
  have s1 : rt n * rt n ≤ n := s.1
  have s2 : n < (rt n + 1) * (rt n + 1) := s.2
  have a : r < rt n + 1 := by
    refine Nat.lt_of_not_le fun z => ?_
    have := Nat.mul_le_mul z z
    omega
  have b : rt n < r + 1 := by
    refine Nat.lt_of_not_le fun z => ?_
    have := Nat.mul_le_mul z z
    omega
  omega
/-- the divisors to r -/
def sml (n : Nat) : Nat → List Int
  | 0 => []
  | r + 1 => sml n r ++ (if (r + 1) ∣ n then [((r + 1 : Nat) : Int)] else [])
theorem sml_len (n : Nat) : ∀ r, (sml n r).length ≤ r
  | 0 => Nat.le_refl _
  | r + 1 => by
    show (sml n r ++ _).length ≤ r + 1
    rw [List.length_append]
    have := sml_len n r
    split
    · simp; omega
    · simp; omega
theorem sml_mem (n : Nat) : ∀ r, ∀ z ∈ sml n r, ∃ d : Nat, z = (d : Int) ∧ 1 ≤ d ∧ d ≤ r ∧ d ∣ n
  | 0, z, h => by cases h
  | r + 1, z, h => by
    rcases List.mem_append.mp h with h | h
    · obtain ⟨d, e, a, b, c⟩ := sml_mem n r z h
      exact ⟨d, e, a, by omega, c⟩
    · split at h
      · rename_i c
        rw [List.mem_singleton.mp h]
        exact ⟨r + 1, rfl, by omega, by omega, c⟩
      · cases h
def lrgOf (n : Nat) (l : List Int) : List Int := (l.filter fun d => decide (d * d ≠ (n : Int))).map fun d => ((n : Int)).fdiv d
theorem pvS_sum (n k : Nat) : ∀ r, ((sml n r).map (· ^ k)).sum + ((lrgOf n (sml n r).reverse).map (· ^ k)).sum = pvS n k r
  | 0 => rfl
  | r + 1 => by
    have ih := pvS_sum n k r
    show (((sml n r ++ _)).map (· ^ k)).sum + ((lrgOf n (sml n r ++ _).reverse).map (· ^ k)).sum = pvS n k r + (if (r + 1) ∣ n then pr1 n k (r + 1) else 0)
    by_cases c : (r + 1) ∣ n
    · rw [if_pos c, if_pos c, List.map_append, List.sum_append, List.reverse_append]
      show _ + (((r + 1 : Nat) : Int) ^ k + 0) + ((lrgOf n ([((r + 1 : Nat) : Int)] ++ (sml n r).reverse)).map (· ^ k)).sum = _
      unfold lrgOf at ih ⊢
      rw [List.filter_append, List.map_append, List.map_append, List.sum_append]
      unfold pr1
      have key : (List.map (· ^ k) (List.map (fun d => ((n : Int)).fdiv d) (List.filter (fun d => decide (d * d ≠ (n : Int))) [((r + 1 : Nat) : Int)]))).sum = if (r + 1) * (r + 1) = n then 0 else ((n / (r + 1) : Nat) : Int) ^ k := by
        by_cases e : (r + 1) * (r + 1) = n
        · rw [if_pos e, List.filter_cons_of_neg (fun z => (of_decide_eq_true z) (by exact_mod_cast e))]
          rfl
        · rw [if_neg e, List.filter_cons_of_pos (by
            simp only [decide_eq_true_eq, ne_eq]
            exact_mod_cast e)]
          show (((n : Int)).fdiv ((r + 1 : Nat) : Int)) ^ k + 0 = _
          rw [Int.add_zero]
          congr 1
          rw [Int.fdiv_eq_ediv_of_nonneg _ (by omega)]
          exact (Int.natCast_ediv n (r + 1)).symm
      rw [key]
      omega
    · rw [if_neg c, if_neg c, List.append_nil]
      omega
theorem sgm_at (n k : Nat) {j : Nat} (h : n ≤ j) (hn : 1 ≤ n) : sm (fun i => ((i + 1 : Nat) : Int) ^ k * Ev (i + 1) n) j = sgm n k := by
  obtain ⟨t, rfl⟩ : ∃ t, j = n + t := ⟨j - n, by omega⟩
  have e : ∀ t, sm (fun i => ((i + 1 : Nat) : Int) ^ k * Ev (i + 1) n) (n + t) = sm (fun i => ((i + 1 : Nat) : Int) ^ k * Ev (i + 1) n) n := by
    intro t
    induction t with
    | zero => rfl
    | succ t ih =>
      show sm _ (n + t) + ((n + t + 1 : Nat) : Int) ^ k * Ev (n + t + 1) n = _
      have z : Ev (n + t + 1) n = 0 := by
        unfold Ev
        rw [if_neg]
        rintro ⟨_, d⟩
        have := Nat.le_of_dvd hn d
        omega
      rw [z, Int.mul_zero, Int.add_zero, ih]
  rw [e]
  unfold sgm
  refine sm_congr _ fun i hi => ?_
  unfold Ev
  by_cases c : (i + 1) ∣ n
  · rw [if_pos ⟨by omega, c⟩, if_pos c, Int.mul_one]
  · rw [if_neg (fun z => c z.2), if_neg c, Int.mul_zero]
def eS (c : Int) (e j : Nat) : S := fun n => one n + sm (fun i => c * ((i + 1 : Nat) : Int) ^ e * Ev (i + 1) n) j
def er (c : Int) (e : Nat) : S := fun n => if n = 0 then 1 else c * sgm n e
theorem eS_er (c : Int) (e m n : Nat) (h : n ≤ m) : eS c e m n = er c e n := by
  unfold eS er one
  have e1 : sm (fun i => c * ((i + 1 : Nat) : Int) ^ e * Ev (i + 1) n) m = c * sm (fun i => ((i + 1 : Nat) : Int) ^ e * Ev (i + 1) n) m := by
    rw [← sm_mul]
    exact sm_congr _ fun i _ => Int.mul_assoc _ _ _
  rw [e1]
  by_cases z : n = 0
  · subst z
    rw [if_pos rfl, if_pos rfl, sm_congr (g := fun _ => 0) m (fun i _ => by
      have : Ev (i + 1) 0 = 0 := by
        unfold Ev
        rw [if_neg (fun z => z.1 rfl)]
      rw [this, Int.mul_zero]), sm_zero, Int.mul_zero, Int.add_zero]
  · rw [if_neg z, if_neg z, sgm_at n e h (by omega), Int.zero_add]
end Ps

set_option Elab.async false
set_option linter.all false
set_option maxRecDepth 100000
set_option maxHeartbeats 4000000
/-! sparse factors and sums -/
namespace Ps
/-- one more at a place -/
def putS (b : S) (p : Nat) (c : Int) : S := fun n => if n = p then b n + c else b n
def pfS (b : S) (n : Nat) (sg : Int) : S := if sg = 1 then putS (putS b n 1) (2 * n) (-1) else putS b n sg
/-- times 1 + c q^e -/
def mulF (b : S) (e : Nat) (c : Int) : S := fun n => b n + (if e ≤ n then c * b (n - e) else 0)
/-- the exponent and the sign at k -/
def ex3 (m s : Nat) (k : Int) : Int := (m : Int) * k * (k - 1) / 2 + (s : Int) * k
def sg3 (sg : Int) (k : Int) : Int := if k % 2 = 1 then sg else 1
def tsm (m s : Nat) (sg lo : Int) (c : Nat) : S := fun n => sm (fun i => if ex3 m s (lo + i) = (n : Int) then sg3 sg (lo + i) else 0) c
/-- of the quintuple product -/
def md5 (m : Nat) (k : Int) : Int := (m : Int) * k * (3 * k + 1) / 2
def ea5 (m s : Nat) (k : Int) : Int := md5 m k - 3 * k * (s : Int)
def eb5 (m s : Nat) (k : Int) : Int := md5 m k + (3 * k + 1) * (s : Int)
def qsm (m s : Nat) (lo : Int) (c : Nat) : S := fun n => sm (fun i => (if ea5 m s (lo + i) = (n : Int) then 1 else 0) + (if eb5 m s (lo + i) = (n : Int) then -1 else 0)) c
theorem sq_nn (k : Int) : 0 ≤ k * k := by
  rcases Int.le_total 0 k with h | h
  · exact Int.mul_nonneg h h
  · exact Int.mul_nonneg_of_nonpos_of_nonpos h h
/-- (k + a) (k + a + 1) is even and not below 0 -/
theorem two_on (k : Int) : ∃ t, k * (k + 1) = 2 * t ∧ 0 ≤ t := by
  have nn : 0 ≤ k * (k + 1) := by
    rcases Int.lt_or_le k 0 with h | h
    · exact Int.mul_nonneg_of_nonpos_of_nonpos (by omega) (by omega)
    · exact Int.mul_nonneg h (by omega)
  rcases (show k % 2 = 0 ∨ k % 2 = 1 by omega) with h | h
  · refine ⟨k / 2 * (k + 1), ?_, ?_⟩
    · have e : k = 2 * (k / 2) := by omega
      rw [← Int.mul_assoc, ← e]
    · have e : k * (k + 1) = 2 * (k / 2 * (k + 1)) := by
        have e : k = 2 * (k / 2) := by omega
        rw [← Int.mul_assoc, ← e]
      omega
  · have e2 : k + 1 = 2 * ((k + 1) / 2) := by omega
    have e : k * (k + 1) = 2 * (k * ((k + 1) / 2)) := by
      rw [Int.mul_left_comm, ← e2]
    exact ⟨k * ((k + 1) / 2), e, by omega⟩
theorem ex3_eq (m s : Nat) (k t : Int) (h : (k - 1) * (k - 1 + 1) = 2 * t) : ex3 m s k = (m : Int) * t + (s : Int) * k := by
  unfold ex3
  have e : (m : Int) * k * (k - 1) = 2 * ((m : Int) * t) := by
    have e1 : k - 1 + 1 = k := by omega
    rw [e1] at h
    rw [Int.mul_assoc, Int.mul_comm k (k - 1), h, Int.mul_left_comm]
  rw [e, Int.mul_ediv_cancel_left _ (by decide)]
theorem ex3_sq {m s : Nat} (h1 : 1 ≤ s) (h2 : s < m) (k : Int) : k * k ≤ ex3 m s k := by
  obtain ⟨t, e, t0⟩ := two_on (k - 1)
  obtain ⟨u, e2, u0⟩ := two_on k
  rw [ex3_eq m s k t e]
  have e1 : k - 1 + 1 = k := by omega
  rw [e1] at e
  have ek : k * k = 2 * t + k := by
    have : (k - 1) * k = k * k - k := by rw [Int.sub_mul, Int.one_mul]
    omega
  have eu : u = t + k := by
    have : k * (k + 1) = k * k + k := by rw [Int.mul_add, Int.mul_one]
    omega
  obtain ⟨r, rfl⟩ : ∃ r, m = s + r := ⟨m - s, by omega⟩
  have a1 : ((s + r : Nat) : Int) * t + (s : Int) * k = (s : Int) * u + (r : Int) * t := by
    rw [eu]
    push_cast
    rw [Int.add_mul, Int.mul_add]
    omega
  rw [a1]
  have b1 : 1 * u ≤ (s : Int) * u := Int.mul_le_mul_of_nonneg_right (by omega) u0
  have b2 : 1 * t ≤ (r : Int) * t := Int.mul_le_mul_of_nonneg_right (by omega) t0
  omega
theorem md5_eq (m : Nat) (k u : Int) (h : k * (3 * k + 1) = 2 * u) : md5 m k = (m : Int) * u := by
  unfold md5
  have e : (m : Int) * k * (3 * k + 1) = 2 * ((m : Int) * u) := by rw [Int.mul_assoc, h, Int.mul_left_comm]
  rw [e, Int.mul_ediv_cancel_left _ (by decide)]
/-- k (3 k + 1) is twice u -/
theorem pent (k : Int) : ∃ u, k * (3 * k + 1) = 2 * u ∧ 0 ≤ u ∧ 2 * u = 3 * (k * k) + k := by
  obtain ⟨t, e, t0⟩ := two_on k
  have q := sq_nn k
  have e1 : k * (k + 1) = k * k + k := by rw [Int.mul_add, Int.mul_one]
  have e2 : k * (3 * k + 1) = 3 * (k * k) + k := by rw [Int.mul_add, Int.mul_one, Int.mul_left_comm]
  refine ⟨t + k * k, ?_, by omega, by omega⟩
  rw [e2]
  omega
theorem ea5_sq {m s : Nat} (h1 : 1 ≤ s) (h2 : 2 * s < m) (k : Int) : k * k ≤ ea5 m s k := by
  obtain ⟨u, e, u0, eu⟩ := pent k
  unfold ea5
  rw [md5_eq m k u e]
  obtain ⟨r, rfl⟩ : ∃ r, m = 2 * s + 1 + r := ⟨m - 2 * s - 1, by omega⟩
  have q := sq_nn k
  -- 3 k k - 2 k is not below 0
  have n1 : k ≤ k * k := by
    rcases Int.lt_or_le k 1 with h | h
    · omega
    · have := Int.mul_le_mul_of_nonneg_right h (show (0 : Int) ≤ k by omega)
      omega
  have a1 : ((2 * s + 1 + r : Nat) : Int) * u - 3 * k * (s : Int) = (s : Int) * (2 * u - 3 * k) + u + (r : Int) * u := by
    push_cast
    rw [Int.add_mul, Int.add_mul, Int.mul_sub, Int.one_mul, Int.mul_comm (3 * k) (s : Int), Int.mul_comm 2 (s : Int), Int.mul_assoc]
    omega
  rw [a1]
  have b1 : 1 * (2 * u - 3 * k) ≤ (s : Int) * (2 * u - 3 * k) := Int.mul_le_mul_of_nonneg_right (by omega) (by omega)
  have b2 : 0 ≤ (r : Int) * u := Int.mul_nonneg (by omega) u0
  omega
theorem eb5_sq {m s : Nat} (h1 : 1 ≤ s) (h2 : 2 * s < m) (k : Int) : k * k ≤ eb5 m s k := by
  obtain ⟨u, e, u0, eu⟩ := pent k
  unfold eb5
  rw [md5_eq m k u e]
  obtain ⟨r, rfl⟩ : ∃ r, m = 2 * s + 1 + r := ⟨m - 2 * s - 1, by omega⟩
  have q := sq_nn k
  have n1 : -k ≤ k * k := by
    rcases Int.lt_or_le (-k) 1 with h | h
    · omega
    · have := Int.mul_le_mul_of_nonneg_right h (show (0 : Int) ≤ -k by omega)
      have e : -k * -k = k * k := Int.neg_mul_neg k k
      omega
  -- (3 k + 1) (k + 1) is not below 0
  have n2 : 0 ≤ 3 * (k * k) + 4 * k + 1 := by
    rcases Int.lt_or_le k 0 with h | h
    · rcases Int.lt_or_le k (-1) with h3 | h3
      · have := Int.mul_le_mul_of_nonneg_right (show (2 : Int) ≤ -k by omega) (show (0 : Int) ≤ -k by omega)
        have e : -k * -k = k * k := Int.neg_mul_neg k k
        omega
      · have : k = -1 := by omega
        subst this
        decide
    · omega
  have a1 : ((2 * s + 1 + r : Nat) : Int) * u + (3 * k + 1) * (s : Int) = (s : Int) * (2 * u + (3 * k + 1)) + u + (r : Int) * u := by
    push_cast
    rw [Int.add_mul, Int.add_mul, Int.mul_add, Int.one_mul, Int.mul_comm (3 * k + 1) (s : Int), Int.mul_comm 2 (s : Int), Int.mul_assoc]
    omega
  rw [a1]
  have b1 : 1 * (2 * u + (3 * k + 1)) ≤ (s : Int) * (2 * u + (3 * k + 1)) := Int.mul_le_mul_of_nonneg_right (by omega) (by omega)
  have b2 : 0 ≤ (r : Int) * u := Int.mul_nonneg (by omega) u0
  rcases Int.lt_or_le k 0 with h | h
  · rcases Int.lt_or_le k (-1) with h3 | h3
    · have := Int.mul_le_mul_of_nonneg_right (show (2 : Int) ≤ -k by omega) (show (0 : Int) ≤ -k by omega)
      have e : -k * -k = k * k := Int.neg_mul_neg k k
      omega
    · have : k = -1 := by omega
      subst this
      omega
  · omega
/-- sums from -R to R: those beyond are 0 -/
theorem sm_wide (f : Int → Int) (R : Nat) : ∀ d, (∀ k : Int, (R : Int) < k ∨ k < -(R : Int) → f k = 0) → sm (fun i => f (-((R + d : Nat) : Int) + i)) (2 * (R + d) + 1) = sm (fun i => f (-(R : Int) + i)) (2 * R + 1)
  | 0, _ => rfl
  | d + 1, h => by
    rw [← sm_wide f R d h]
    have e1 : 2 * (R + (d + 1)) + 1 = (2 * (R + d) + 1 + 1) + 1 := by omega
    rw [e1, sm_first]
    show f _ + (sm _ (2 * (R + d) + 1) + f _) = _
    rw [h _ (.inr (by omega)), h _ (.inl (by omega)), Int.zero_add, Int.add_zero]
    refine sm_congr _ fun i _ => congrArg f ?_
    omega
end Ps

set_option Elab.async false
set_option linter.all false
set_option maxRecDepth 100000
set_option maxHeartbeats 4000000
/-! products of factors 1 - q^e, 1 + q^e, by their exponents -/
namespace Ps
theorem GU {n : Nat} (hn : 0 < n) (f : S) : cv (G n) (cv (U n) f) = f := by rw [← cv_assoc, cv_comm (G n), UG hn, one_cv]
theorem mulF_neg {e : Nat} (h : 0 < e) (f : S) : mulF f e (-1) = cv (U e) f := by
  rw [cv_U h]
  funext k
  show f k + (if e ≤ k then -1 * f (k - e) else 0) = f k - (if e ≤ k then f (k - e) else 0)
  split <;> omega
theorem mulF_pos {e : Nat} (h : 0 < e) (f : S) : mulF f e 1 = cv (U (2 * e)) (cv (G e) f) := by
  refine cancelU h ?_
  have e1 : cv (U e) (cv (U (2 * e)) (cv (G e) f)) = cv (U (2 * e)) f := by
    rw [← cv_assoc, cv_comm (U e) (U (2 * e)), cv_assoc, ← cv_assoc (U e) (G e), UG h, one_cv]
  rw [e1, cv_U h, cv_U (by omega)]
  funext k
  show f k + (if e ≤ k then 1 * f (k - e) else 0) - (if e ≤ k then f (k - e) + (if e ≤ k - e then 1 * f (k - e - e) else 0) else 0) = f k - (if 2 * e ≤ k then f (k - 2 * e) else 0)
  by_cases c : e ≤ k
  · rw [if_pos c, if_pos c]
    by_cases d : 2 * e ≤ k
    · have ek : k - e - e = k - 2 * e := by omega
      rw [if_pos d, if_pos (by omega), ek]
      omega
    · rw [if_neg d, if_neg (by omega)]
      omega
  · rw [if_neg c, if_neg c, if_neg (by omega)]
    omega
def shf (b : S) : S := fun i => b (i + 1)
theorem sS_congr' {p p' : S} : ∀ j, (∀ i, i < j → p i = p' i) → sS p j = sS p' j
  | 0, _ => rfl
  | j + 1, h => by
    show ad (sS p j) (sc (((j + 1 : Nat) : Int) * p j) (Ev (j + 1))) = ad (sS p' j) (sc (((j + 1 : Nat) : Int) * p' j) (Ev (j + 1)))
    rw [sS_congr' j (fun i hi => h i (by omega)), h j (by omega)]
theorem put_far {b : S} {e M : Nat} {c : Int} (h : M < e) : sS (shf (putS b e c)) M = sS (shf b) M := sS_congr' M fun i hi => by
  show (if i + 1 = e then _ else b (i + 1)) = b (i + 1)
  rw [if_neg (by omega)]
theorem put_near {b : S} {e : Nat} {c : Int} (h0 : 0 < e) : ∀ M, e ≤ M → sS (shf (putS b e c)) M = ad (sS (shf b) M) (sc ((e : Int) * c) (Ev e))
  | 0, h => absurd h (by omega)
  | j + 1, h => by
    show ad (sS (shf (putS b e c)) j) (sc (((j + 1 : Nat) : Int) * (if j + 1 = e then b (j + 1) + c else b (j + 1))) (Ev (j + 1))) = ad (ad (sS (shf b) j) (sc (((j + 1 : Nat) : Int) * b (j + 1)) (Ev (j + 1)))) (sc ((e : Int) * c) (Ev e))
    by_cases q : j + 1 = e
    · subst q
      rw [put_far (by omega), if_pos rfl]
      funext k
      show _ + _ * _ = _ + _ * _ + _ * _
      rw [Int.mul_add, Int.add_mul]
      omega
    · rw [put_near h0 j (by omega), if_neg q]
      funext k
      show _ + _ + _ = _ + _ + _
      omega
/-- the powers b (up to M) make up the product A (up to M) -/
def PI (M : Nat) (b A : S) : Prop := ∃ A', Lg (sS (shf b) M) A' ∧ A' 0 = 1 ∧ ∀ n, n ≤ M → A' n = A n
theorem mulF_far {A : S} {e n : Nat} {c : Int} (h : n < e) : mulF A e c n = A n := by
  show A n + (if e ≤ n then _ else 0) = A n
  rw [if_neg (by omega), Int.add_zero]
theorem mulF_congr {A A' : S} {e M : Nat} {c : Int} (h : ∀ n, n ≤ M → A' n = A n) : ∀ n, n ≤ M → mulF A' e c n = mulF A e c n := fun n hn => by
  show A' n + (if e ≤ n then c * A' (n - e) else 0) = A n + (if e ≤ n then c * A (n - e) else 0)
  rw [h n hn, h (n - e) (by omega)]
theorem mulF_zero {A : S} {e : Nat} {c : Int} (h : 0 < e) : mulF A e c 0 = A 0 := mulF_far h
theorem PI.start (M : Nat) : PI M (fun _ => 0) one := by
  refine ⟨one, ?_, rfl, fun _ _ => rfl⟩
  have e : ∀ j, sS (shf fun _ => (0 : Int)) j = fun _ => 0 := fun j => by
    induction j with
    | zero => rfl
    | succ j ih =>
      show ad (sS (shf fun _ => (0 : Int)) j) (sc (((j + 1 : Nat) : Int) * 0) (Ev (j + 1))) = _
      rw [ih]
      funext k
      show 0 + ((j + 1 : Nat) : Int) * 0 * _ = 0
      rw [Int.mul_zero, Int.zero_mul]
      rfl
  rw [e]
  exact Lg.one
theorem PI.neg {M e : Nat} {b A : S} (p : PI M b A) (h : 0 < e) : PI M (pfS b e (-1)) (mulF A e (-1)) := by
  obtain ⟨A', L, z, a⟩ := p
  have ep : pfS b e (-1) = putS b e (-1) := by
    unfold pfS
    rw [if_neg (by decide)]
  rw [ep]
  by_cases c : e ≤ M
  · refine ⟨mulF A' e (-1), ?_, by rw [mulF_zero h, z], mulF_congr a⟩
    rw [mulF_neg h, put_near h M c]
    have e1 : (e : Int) * -1 = -(e : Int) := by omega
    rw [e1]
    exact L.neg h
  · exact ⟨A', by rw [put_far (by omega)]; exact L, z, fun n hn => by rw [mulF_far (by omega), a n hn]⟩
theorem PI.pos {M e : Nat} {b A : S} (p : PI M b A) (h : 0 < e) : PI M (pfS b e 1) (mulF A e 1) := by
  obtain ⟨A', L, z, a⟩ := p
  have ep : pfS b e 1 = putS (putS b e 1) (2 * e) (-1) := by
    unfold pfS
    rw [if_pos rfl]
  rw [ep]
  by_cases c : e ≤ M
  · have L1 : Lg (sS (shf (putS b e 1)) M) (cv (G e) A') := by
      rw [put_near h M c, Int.mul_one]
      exact L.pos h
    by_cases d : 2 * e ≤ M
    · refine ⟨mulF A' e 1, ?_, by rw [mulF_zero h, z], mulF_congr a⟩
      rw [mulF_pos h, put_near (by omega) M d]
      have e1 : ((2 * e : Nat) : Int) * -1 = -((2 * e : Nat) : Int) := by omega
      rw [e1]
      exact L1.neg (by omega)
    · have e2 : ∀ n, n ≤ M → cv (G e) A' n = mulF A' e 1 n := fun n hn => by
        rw [mulF_pos h, cv_U (by omega)]
        show _ = cv (G e) A' n - (if 2 * e ≤ n then _ else 0)
        rw [if_neg (by omega), Int.sub_zero]
      refine ⟨cv (G e) A', by rw [put_far (by omega)]; exact L1, ?_, fun n hn => ?_⟩
      · rw [e2 0 (Nat.zero_le _), mulF_zero h, z]
      · rw [e2 n hn, mulF_congr a n hn]
  · refine ⟨A', ?_, z, fun n hn => by rw [mulF_far (by omega), a n hn]⟩
    rw [put_far (by omega), put_far (by omega)]
    exact L
theorem PI.sg {M e : Nat} {b A : S} {sg : Int} (p : PI M b A) (h : 0 < e) (hs : sg = 1 ∨ sg = -1) : PI M (pfS b e sg) (mulF A e sg) := by
  rcases hs with rfl | rfl
  · exact p.pos h
  · exact p.neg h
theorem PI.row {M : Nat} {b A : S} (p : PI M b A) {q : S} (hq : ∀ i, i < M → q i = b (i + 1)) : ∀ n, n ≤ M → prA q M n = A n := by
  obtain ⟨A', L, z, a⟩ := p
  have e : sS (shf b) M = sS q M := sS_congr' M fun i hi => (hq i hi).symm
  rw [e] at L
  intro n hn
  rw [← a n hn]
  refine lg_uniq (lg_prA q M) (b := A') (N := M) (by rw [prA_zero, z]) (fun n _ => ?_) n hn
  exact L.at_ (n + 1)
/-- sizes -/
theorem put_le {b : S} {e c : Nat} {s : Int} (h : ∀ n, (b n).natAbs ≤ c) (hs : s.natAbs ≤ 1) (n : Nat) : (putS b e s n).natAbs ≤ c + 1 := by
  have := h n
  show (if n = e then b n + s else b n).natAbs ≤ _
  split <;> omega
theorem pf_le {b : S} {e c : Nat} {s : Int} (h : ∀ n, (b n).natAbs ≤ c) (hs : s = 1 ∨ s = -1) (n : Nat) : (pfS b e s n).natAbs ≤ c + 2 := by
  unfold pfS
  split
  · exact put_le (put_le h (by decide)) (by decide) n
  · have := put_le (e := e) (s := s) h (by omega) n
    omega
/-- the first factors of a family -/
def famF (b : S) (e st : Nat) (sg : Int) : Nat → S
  | 0 => b
  | j + 1 => mulF (famF b e st sg j) (e + j * st) sg
/-- by families (exponent, step, sign), each with c e st factors -/
def prF (c : Nat → Nat → Nat) (fs : List (Nat × Nat × Int)) : Nat → S
  | 0 => one
  | i + 1 => famF (prF c fs i) (fs.getD i (1, 1, 1)).1 (fs.getD i (1, 1, 1)).2.1 (fs.getD i (1, 1, 1)).2.2 (c (fs.getD i (1, 1, 1)).1 (fs.getD i (1, 1, 1)).2.1)
end Ps

set_option Elab.async false
set_option linter.all false
set_option maxRecDepth 100000
set_option maxHeartbeats 4000000
set_option pp.deepTerms false
set_option pp.maxSteps 3000
namespace Dr
open PySem PySem.Spec PyProof.Rows L2
abbrev FnP (K : PySem.W.Frag) (x : Str) (st : Stmt) (f : Addr) (fd : FuncData) : Prop := FunD K x x (defArgs st) (defBody st) (defScope st) [] [] f fd
/-! ### the draw: a dict of four entries, two lists -/
def kLarge : Key := Sum.inr "large"
def kCells : Key := Sum.inr "cells"
def kRest : Key := Sum.inr "rest"
def kTurn : Key := Sum.inr "turn"
def drK (l c : Addr) (r t : Int) : List (Key × V) := [(kLarge, .ref l), (kCells, .ref c), (kRest, .int r), (kTurn, .int t)]
theorem k12 : ¬ kLarge = kCells := by decide +kernel
theorem k13 : ¬ kLarge = kRest := by decide +kernel
theorem k14 : ¬ kLarge = kTurn := by decide +kernel
theorem k23 : ¬ kCells = kRest := by decide +kernel
theorem k24 : ¬ kCells = kTurn := by decide +kernel
theorem k34 : ¬ kRest = kTurn := by decide +kernel
section
variable {l c : Addr} {r t z : Int}
theorem get_large : valV (drK l c r t) kLarge = some (.ref l) := valV_pos rfl
theorem get_cells : valV (drK l c r t) kCells = some (.ref c) := (valV_neg k12).trans (valV_pos rfl)
theorem get_rest : valV (drK l c r t) kRest = some (.int r) := (valV_neg k13).trans ((valV_neg k23).trans (valV_pos rfl))
theorem get_turn : valV (drK l c r t) kTurn = some (.int t) := (valV_neg k14).trans ((valV_neg k24).trans ((valV_neg k34).trans (valV_pos rfl)))
theorem put_rest : putK (drK l c r t) kRest (.int z) = drK l c z t := by
  have h1 := k13
  have h2 := k23
  have h3 : ¬ kTurn = kRest := fun e => k34 e.symm
  simp [putK, drK, h1, h2, h3]
theorem put_turn : putK (drK l c r t) kTurn (.int z) = drK l c r z := by
  have h1 := k14
  have h2 := k24
  have h3 := k34
  simp [putK, drK, h1, h2, h3]
end
/-- the draw at d, its lists at l and c -/
structure DrawAt (H : Hp) (d l c : Addr) (ls cs : List Int) (r t : Int) : Prop where
  dd : H d = some (.dK (drK l c r t))
  dl : H l = some (.lst (ls.map V.int))
  dc : H c = some (.lst (cs.map V.int))
  lc : l ≠ c
/-- all but d and l stays -/
def SameX (d l : Addr) (H H' : Hp) : Prop := ∀ b o, H b = some o → b ≠ d → b ≠ l → H' b = some o
/-- a draw at d (its list at l): what the callers keep -/
def Draw (H : Hp) (d l c : Addr) : Prop := ∃ ls cs r t, DrawAt H d l c ls cs r t
theorem SameX.refl (d l : Addr) (H : Hp) : SameX d l H H := fun _ _ e _ _ => e
theorem SameX.trans {d l : Addr} {H H1 H2 : Hp} (a : SameX d l H H1) (b : SameX d l H1 H2) : SameX d l H H2 := fun c o e n1 n2 => b c o (a c o e n1 n2) n1 n2
theorem SameX.of {d l : Addr} {H H' : Hp} (a : Same H H') : SameX d l H H' := fun c o e _ _ => a c o e
theorem DrawAt.nl {H : Hp} {d l c : Addr} {ls cs : List Int} {r t : Int} (D : DrawAt H d l c ls cs r t) : d ≠ l := ne_of D.dd D.dl (fun z => by cases z)
theorem DrawAt.nc {H : Hp} {d l c : Addr} {ls cs : List Int} {r t : Int} (D : DrawAt H d l c ls cs r t) : d ≠ c := ne_of D.dd D.dc (fun z => by cases z)
theorem DrawAt.same {H H' : Hp} {d l c : Addr} {ls cs : List Int} {r t : Int} (D : DrawAt H d l c ls cs r t) (s : Same H H') : DrawAt H' d l c ls cs r t := ⟨s _ _ D.dd, s _ _ D.dl, s _ _ D.dc, D.lc⟩
theorem Draw.same {H H' : Hp} {d l c : Addr} (D : Draw H d l c) (s : Same H H') : Draw H' d l c := by
  obtain ⟨ls, cs, r, t, D⟩ := D
  exact ⟨ls, cs, r, t, D.same s⟩
theorem Draw.put {H : Hp} {d l c p : Addr} {o : HO} (D : Draw H d l c) (h1 : p ≠ d) (h2 : p ≠ l) (h3 : p ≠ c) : Draw (upd H p o) d l c := by
  obtain ⟨ls, cs, r, t, D⟩ := D
  exact ⟨ls, cs, r, t, by rw [upd_ne h1.symm]; exact D.dd, by rw [upd_ne h2.symm]; exact D.dl, by rw [upd_ne h3.symm]; exact D.dc, D.lc⟩
theorem Draw.ne {H : Hp} {d l c p : Addr} (D : Draw H d l c) (n : H p = none) : p ≠ d ∧ p ≠ l ∧ p ≠ c := by
  obtain ⟨ls, cs, r, t, D⟩ := D
  exact ⟨(ne_of_none D.dd n).symm, (ne_of_none D.dl n).symm, (ne_of_none D.dc n).symm⟩
theorem DrawAt.rest {H : Hp} {d l c : Addr} {ls cs : List Int} {r t : Int} (D : DrawAt H d l c ls cs r t) (z : Int) : DrawAt (upd H d (.dK (drK l c z t))) d l c ls cs z t :=
  ⟨upd_same, by rw [upd_ne D.nl.symm]; exact D.dl, by rw [upd_ne D.nc.symm]; exact D.dc, D.lc⟩
theorem DrawAt.turn {H : Hp} {d l c : Addr} {ls cs : List Int} {r t : Int} (D : DrawAt H d l c ls cs r t) (z : Int) : DrawAt (upd H d (.dK (drK l c r z))) d l c ls cs r z :=
  ⟨upd_same, by rw [upd_ne D.nl.symm]; exact D.dl, by rw [upd_ne D.nc.symm]; exact D.dc, D.lc⟩
theorem DrawAt.pop {H : Hp} {d l c : Addr} {ls ls' cs : List Int} {r t : Int} (D : DrawAt H d l c ls cs r t) : DrawAt (upd H l (.lst (ls'.map V.int))) d l c ls' cs r t :=
  ⟨by rw [upd_ne D.nl]; exact D.dd, upd_same, by rw [upd_ne D.lc.symm]; exact D.dc, D.lc⟩
theorem sameX_d {H : Hp} {d l : Addr} {o : HO} : SameX d l H (upd H d o) := fun b o e n1 n2 => by rw [upd_ne n1]; exact e
theorem sameX_l {H : Hp} {d l : Addr} {o : HO} : SameX d l H (upd H l o) := fun b o e n1 n2 => by rw [upd_ne n2]; exact e
theorem sameX_new {H : Hp} {d l p : Addr} {o : HO} (n : H p = none) : SameX d l H (upd H p o) := fun b o e n1 n2 => by rw [upd_ne (ne_of_none e n)]; exact e
theorem same_new {H : Hp} {p : Addr} {o : HO} (n : H p = none) : Same H (upd H p o) := fun b o e => by rw [upd_ne (ne_of_none e n)]; exact e
theorem int_at {ns : List Int} {i : Nat} {x : V} (h : (ns.map V.int)[i]? = some x) : ∃ z, ns[i]? = some z ∧ x = .int z := by
  rw [List.getElem?_map] at h
  cases e : ns[i]? with
  | none =>
    rw [e] at h
    cases h
  | some z =>
    rw [e] at h
    exact ⟨z, rfl, (Option.some.inj h).symm⟩
theorem merge_dr {l c : Addr} {r t : Int} : mergeK [] (drK l c r t) = drK l c r t := by
  have h1 := k12
  have h2 := k13
  have h3 := k14
  have h4 := k23
  have h5 := k24
  have h6 := k34
  simp [mergeK, putK, drK, h1, h2, h3, h4, h5, h6]
theorem yesT {s : L2.St} {H : Hp} {A B : Hp → Prop} (h : A H) : tYes s H (fun b H3 => if b = true then A H3 else B H3) := by
  show if true = true then A H else B H
  rw [if_pos rfl]
  exact h
/-! ### lists of ints as data -/
def intsD (ls : List Int) : List PyData := ls.map PyData.int
theorem ints_lay : ∀ ls : List Int, PyData.canLayAll0 (intsD ls) = true
  | [] => rfl
  | z :: r => by
    show (PyData.canLay0 (.int z) && PyData.canLayAll0 (intsD r)) = true
    rw [ints_lay r]
    rfl
theorem ints_depth : ∀ ls : List Int, PyData.depthAll (intsD ls) = 0
  | [] => rfl
  | z :: r => by
    show max (PyData.depth (.int z)) (PyData.depthAll (intsD r)) = 0
    rw [ints_depth r]
    rfl
theorem ints_shaped (ls : List Int) : SeqAt.shaped (.list (intsD ls)) = true := by
  show (PyData.canLayAll0 (intsD ls) && decide (PyData.depthAll (intsD ls) + 1 ≤ 64)) = true
  rw [ints_lay, ints_depth]
  rfl
theorem ints_dp {K : PySem.W.Frag} {H : Hp} : ∀ ls : List Int, DpAll K H (ls.map V.int) (intsD ls)
  | [] => .nil
  | z :: r => .cons (.int z) (ints_dp r)
def spBegun (K : PySem.W.Frag) : Sp := fun vs H Q _ => ∃ (a : Addr) (ns : List Int), vs = [.ref a] ∧ SqL K H a (ns.map V.int) ∧ ns.length ≤ 1000 ∧
  ∀ (d l c : Addr) (H' : Hp), H d = none → H l = none → H c = none → Same H H' → Draw H' d l c → Q (.ref d) H'
section
variable {H : Hp} {d l c : Addr} {ls cs : List Int} {r t : Int}
theorem DrawAt.gLarge (D : DrawAt H d l c ls cs r t) : DGet H d (.str "large") (some (.ref l)) := by
  have z := DGet.k (k := kLarge) D.dd
  rw [get_large] at z
  exact z
theorem DrawAt.gCells (D : DrawAt H d l c ls cs r t) : DGet H d (.str "cells") (some (.ref c)) := by
  have z := DGet.k (k := kCells) D.dd
  rw [get_cells] at z
  exact z
theorem DrawAt.gRest (D : DrawAt H d l c ls cs r t) : DGet H d (.str "rest") (some (.int r)) := by
  have z := DGet.k (k := kRest) D.dd
  rw [get_rest] at z
  exact z
theorem DrawAt.gTurn (D : DrawAt H d l c ls cs r t) : DGet H d (.str "turn") (some (.int t)) := by
  have z := DGet.k (k := kTurn) D.dd
  rw [get_turn] at z
  exact z
theorem DrawAt.pRest (D : DrawAt H d l c ls cs r t) (z : Int) : DPut H d (.str "rest") (.int z) (upd H d (.dK (drK l c z t))) := by
  have q := DPut.k (k := kRest) (v := .int z) D.dd (by show 4 < sizeLine; decide)
  rw [put_rest] at q
  exact q
theorem DrawAt.pTurn (D : DrawAt H d l c ls cs r t) (z : Int) : DPut H d (.str "turn") (.int z) (upd H d (.dK (drK l c r z))) := by
  have q := DPut.k (k := kTurn) (v := .int z) D.dd (by show 4 < sizeLine; decide)
  rw [put_turn] at q
  exact q
end
def spBlend : Sp := fun vs H Q _ => ∃ (d l c : Addr) (ls cs : List Int) (r t : Int), vs = [.ref d] ∧ DrawAt H d l c ls cs r t ∧
  ∀ (v t' : Int) (H' : Hp), DrawAt H' d l c ls cs r t' → SameX d l H H' → Q (.int v) H'
def spTake : Sp := fun vs H Q _ => ∃ (d l c : Addr) (n : Int), vs = [.ref d, .int n] ∧ Draw H d l c ∧ 0 < n ∧ n.natAbs.log2 < 9000 ∧
  ∀ (v : Int) (H' : Hp), 0 ≤ v → v < n → Draw H' d l c → SameX d l H H' → Q (.int v) H'
theorem pow_small {z q : Int} (h0 : 0 ≤ z) (h1 : z < q) (hq : q ≤ 2147483648) : CPow z 5 := ⟨by decide, by decide, by
  have e : (2 : Nat) ^ 64 = 18446744073709551616 := by decide
  omega⟩
theorem pop_ix (n : Nat) : seqIndex? 0 (n + 1) = some 0 := by
  unfold seqIndex?
  simp
def spPick (K : PySem.W.Frag) : Sp := fun vs H Q _ => ∃ (d l c a : Addr) (xs : List V), vs = [.ref d, .ref a] ∧ Draw H d l c ∧ (∀ H', SameX d l H H' → SqL K H' a xs) ∧ xs ≠ [] ∧ xs.length ≤ 1000 ∧
  ∀ (v : V) (H' : Hp), v ∈ xs → Draw H' d l c → SameX d l H H' → Q v H'
theorem log_small {n : Nat} (h : n ≤ 1000) : ((n : Int)).natAbs.log2 < 9000 := by
  have e : ((n : Int)).natAbs = n := by omega
  rw [e]
  by_cases z : n = 0
  · rw [z]
    decide
  · have k : n.log2 < 10 := (Nat.log2_lt z).mpr (by omega)
    omega
end Dr

set_option Elab.async false
set_option linter.all false
set_option maxRecDepth 100000
set_option maxHeartbeats 4000000
set_option pp.maxSteps 3000
set_option exponentiation.threshold 500000
namespace Xv
open PySem PySem.Spec PyProof.Rows L2
/-- // by any divisor but 0 below 2 ^ 9000 -/
def CDivB (_ j : Int) : Prop := j ≠ 0 ∧ j.natAbs.log2 < 9000
theorem op_fdivB {X : Cx} : OpR X (binaryOp .FloorDiv) (rI CDivB fun i j => .int (i.fdiv j)) := opI fun i j _ _ _ _ _ hc q => floordiv_int hc.1 q (.inl (PyProof.noPylong_of_log2 hc.2))
end Xv
namespace Gn
open PySem PySem.Spec PyProof.Rows L2 Dr Xv LamX Ps
def qL : Str := "law.<locals>.<lambda>"
/-- an error class of the program's own -/
structure ErrT (K : PySem.W.Frag) (C S : Addr) : Prop where
  x : PySem.W.excIn K C [.type "ValueError", .type "Exception", .type "BaseException", .type "object"] "ValueError.__new__" = true
  k : PySem.W.keepIn K (.ref C) = true
  b : PySem.W.subIn K (.ref C) (.type "BaseException") = some true
  t : PySem.W.typeIn K (.ref C) = some (.type "type")
  m : PySem.W.exmOne K (.ref C) (.ref S) = some true
  e : ExcC K C
  i : PySem.W.kitOne K (.ref C) (.ref C) = some true
def rowOf (n : Nat) (b : S) : List V := ((List.range n).map b).map V.int
inductive PV (H : Hp) : V → Prop
  | non : PV H .non
  | bl (b : Bool) : PV H (.bl b)
  | int (i : Int) : PV H (.int i)
  | str (x : Str) : PV H (.str x)
  | lst {a : Addr} {xs : List V} : H a = some (.lst xs) → PV H (.ref a)
  | tup {a : Addr} {xs : List V} : H a = some (.tup xs) → PV H (.ref a)
  | dK {a : Addr} {kvs : List (Key × V)} : H a = some (.dK kvs) → PV H (.ref a)
theorem PV.same {H H' : Hp} {x : V} (h : PV H x) (s : Same H H') : PV H' x := by
  cases h with
  | non => exact .non
  | bl b => exact .bl b
  | int i => exact .int i
  | str x => exact .str x
  | lst e => exact .lst (s _ _ e)
  | tup e => exact .tup (s _ _ e)
  | dK e => exact .dK (s _ _ e)
def isNum : V → Bool
  | .int _ => true
  | _ => false
def kInt : V → Bool
  | .int _ => true
  | .bl _ => true
  | _ => false
def kBool : V → Bool
  | .bl _ => true
  | _ => false
theorem PV.ty {K : PySem.W.Frag} {H : Hp} {x : V} (h : PV H x) : ∃ t, TyX K H x t ∧ PySem.W.kitOne K t (.type "int") = some (kInt x) ∧ PySem.W.kitOne K t (.type "bool") = some (kBool x) := by
  cases h with
  | non => exact ⟨_, .base .non, kit_ty (r := false) (by decide +kernel), kit_ty (r := false) (by decide +kernel)⟩
  | bl b => exact ⟨_, .base (.bl b), kit_ty (r := true) (by decide +kernel), kit_ty (r := true) (by decide +kernel)⟩
  | int i => exact ⟨_, .base (.int i), kit_ty (r := true) (by decide +kernel), kit_ty (r := false) (by decide +kernel)⟩
  | str x => exact ⟨_, .base (.str x), kit_ty (r := false) (by decide +kernel), kit_ty (r := false) (by decide +kernel)⟩
  | lst e => exact ⟨_, .base (.lst e), kit_ty (r := false) (by decide +kernel), kit_ty (r := false) (by decide +kernel)⟩
  | tup e => exact ⟨_, .base (.tup e), kit_ty (r := false) (by decide +kernel), kit_ty (r := false) (by decide +kernel)⟩
  | dK e => exact ⟨_, .base (.dK e), kit_ty (r := false) (by decide +kernel), kit_ty (r := false) (by decide +kernel)⟩
theorem kInt_num (x : V) : (kInt x && !kBool x) = isNum x := by
  cases x <;> rfl
def within (x : V) (lo hi : Int) : Bool := match x with
  | .int i => decide (lo ≤ i) && decide (i ≤ hi)
  | _ => false
inductive Items (H : Hp) : V → Option (List V) → Prop
  | non : Items H .non none
  | bl (b : Bool) : Items H (.bl b) none
  | int (i : Int) : Items H (.int i) none
  | str (x : Str) : Items H (.str x) none
  | lst {a : Addr} {xs : List V} : H a = some (.lst xs) → Items H (.ref a) (some xs)
  | tup {a : Addr} {xs : List V} : H a = some (.tup xs) → Items H (.ref a) (some xs)
  | dK {a : Addr} {kvs : List (Key × V)} : H a = some (.dK kvs) → Items H (.ref a) none
theorem Items.same {H H' : Hp} {x : V} {o : Option (List V)} (h : Items H x o) (s : Same H H') : Items H' x o := by
  cases h with
  | non => exact .non
  | bl b => exact .bl b
  | int i => exact .int i
  | str x => exact .str x
  | lst e => exact .lst (s _ _ e)
  | tup e => exact .tup (s _ _ e)
  | dK e => exact .dK (s _ _ e)
theorem Items.pv {H : Hp} {x : V} {o : Option (List V)} (h : Items H x o) : PV H x := by
  cases h with
  | non => exact .non
  | bl b => exact .bl b
  | int i => exact .int i
  | str x => exact .str x
  | lst e => exact .lst e
  | tup e => exact .tup e
  | dK e => exact .dK e
def AllPV (H : Hp) (o : Option (List V)) : Prop := ∀ xs, o = some xs → ∀ v ∈ xs, PV H v
theorem AllPV.same {H H' : Hp} {o : Option (List V)} (h : AllPV H o) (s : Same H H') : AllPV H' o := fun xs e v hv => (h xs e v hv).same s
theorem take_snoc {α β : Type} {f : α → β} {xs : List α} {i : Nat} {x : α} (h : xs[i]? = some x) : (xs.take i).map f ++ [f x] = (xs.take (i + 1)).map f := by
  obtain ⟨hi, e⟩ := List.getElem?_eq_some_iff.mp h
  rw [List.take_succ, h]
  simp
theorem take_len {α β : Type} {f : α → β} {xs : List α} {i : Nat} : ((xs.take i).map f).length ≤ xs.length := by
  rw [List.length_map, List.length_take]
  omega
def itemsOk (x : Option (List V)) : Bool := match x with
  | some xs => xs.all isNum
  | none => false
def short (o : Option (List V)) : Prop := ∀ xs, o = some xs → xs.length < sizeLine
theorem isi_seq {K : PySem.W.Frag} {H : Hp} {x : V} {o : Option (List V)} (h : Items H x o) : ∃ t, TyX K H x t ∧ PySem.W.kitAny K t [.type "list", .type "tuple"] = some o.isSome := by
  cases h with
  | non => exact ⟨_, .base .non, kitAny_cons (b := false) (kit_ty (by decide +kernel)) (fun _ => kitAny_cons (b := false) (kit_ty (by decide +kernel)) (fun _ => rfl) (fun z => nomatch z)) (fun z => nomatch z)⟩
  | bl b => exact ⟨_, .base (.bl b), kitAny_cons (b := false) (kit_ty (by decide +kernel)) (fun _ => kitAny_cons (b := false) (kit_ty (by decide +kernel)) (fun _ => rfl) (fun z => nomatch z)) (fun z => nomatch z)⟩
  | int i => exact ⟨_, .base (.int i), kitAny_cons (b := false) (kit_ty (by decide +kernel)) (fun _ => kitAny_cons (b := false) (kit_ty (by decide +kernel)) (fun _ => rfl) (fun z => nomatch z)) (fun z => nomatch z)⟩
  | str x => exact ⟨_, .base (.str x), kitAny_cons (b := false) (kit_ty (by decide +kernel)) (fun _ => kitAny_cons (b := false) (kit_ty (by decide +kernel)) (fun _ => rfl) (fun z => nomatch z)) (fun z => nomatch z)⟩
  | lst e => exact ⟨_, .base (.lst e), kitAny_cons (b := true) (kit_ty (by decide +kernel)) (fun z => nomatch z) (fun _ => rfl)⟩
  | tup e => exact ⟨_, .base (.tup e), kitAny_cons (b := false) (kit_ty (by decide +kernel)) (fun _ => kitAny_cons (b := true) (kit_ty (by decide +kernel)) (fun z => nomatch z) (fun _ => rfl)) (fun z => nomatch z)⟩
  | dK e => exact ⟨_, .base (.dK e), kitAny_cons (b := false) (kit_ty (by decide +kernel)) (fun _ => kitAny_cons (b := false) (kit_ty (by decide +kernel)) (fun _ => rfl) (fun z => nomatch z)) (fun z => nomatch z)⟩
def isRow (o : Option (List V)) : Bool := match o with
  | some xs => xs.all isNum && (decide (1 ≤ (xs.length : Int)) && decide ((xs.length : Int) ≤ 3001))
  | none => false
def fnL (ns : List Int) : S := fun i => ns.getD i 0
def tms (f : S) (N : Nat) : List Nat := (List.range N).filter fun i => decide (0 < i) && decide (f i ≠ 0)
theorem tms_succ (f : S) (N : Nat) : tms f (N + 1) = tms f N ++ (if 0 < N ∧ f N ≠ 0 then [N] else []) := by
  unfold tms
  rw [List.range_succ, List.filter_append]
  congr 1
  by_cases h : 0 < N ∧ f N ≠ 0
  · rw [if_pos h, List.filter_cons_of_pos (by simp [h.1, h.2])]
    rfl
  · rw [if_neg h, List.filter_cons_of_neg (by
      simp only [Bool.and_eq_true, decide_eq_true_eq]
      exact h)]
    rfl
theorem tms_lt {f : S} {N i : Nat} (h : i ∈ tms f N) : i < N ∧ 0 < i := by
  unfold tms at h
  rw [List.mem_filter, List.mem_range] at h
  simp only [Bool.and_eq_true, decide_eq_true_eq] at h
  exact ⟨h.1, h.2.1⟩
theorem tms_split (f : S) (n : Nat) : ∀ k, ∃ r, tms f (n + 1 + k) = tms f (n + 1) ++ r ∧ ∀ i ∈ r, n < i
  | 0 => ⟨[], (List.append_nil _).symm, fun i h => by cases h⟩
  | k + 1 => by
    obtain ⟨r, e, h⟩ := tms_split f n k
    refine ⟨r ++ (if 0 < n + 1 + k ∧ f (n + 1 + k) ≠ 0 then [n + 1 + k] else []), ?_, fun i hi => ?_⟩
    · show tms f (n + 1 + k + 1) = _
      rw [tms_succ, e, List.append_assoc]
    · rcases List.mem_append.mp hi with z | z
      · exact h i z
      · split at z
        · rw [List.mem_singleton.mp z]
          omega
        · cases z
theorem tms_sum (f g : S) (hg : ∀ i, f i = 0 → g i = 0) : ∀ n, ((tms f (n + 1)).map g).sum = sm (fun i => g (i + 1)) n
  | 0 => by
    rw [tms_succ]
    show (List.map g ([] ++ _)).sum = 0
    rw [if_neg (by omega)]
    rfl
  | n + 1 => by
    rw [tms_succ, List.map_append, List.sum_append, tms_sum f g hg n]
    show _ = sm (fun i => g (i + 1)) n + g (n + 1)
    congr 1
    by_cases h : f (n + 1) ≠ 0
    · rw [if_pos ⟨by omega, h⟩]
      show g (n + 1) + 0 = _
      omega
    · rw [if_neg (fun z => h z.2), hg (n + 1) (by simpa using h)]
      rfl
theorem take_sum {g : S} {l : List Nat} {j x : Nat} (h : l[j]? = some x) : ((l.take (j + 1)).map g).sum = ((l.take j).map g).sum + g x := by
  rw [List.take_succ, h]
  show ((l.take j ++ [x]).map g).sum = _
  rw [List.map_append, List.sum_append]
  show _ + (g x + 0) = _
  omega
theorem cut_at {A r : List Nat} {N m i : Nat} (hA : ∀ x ∈ A, x ≤ N) (hr : ∀ x ∈ r, N < x) (h : (A ++ r)[m]? = some i) (hi : N < i) (hle : ∀ x ∈ (A ++ r).take m, x ≤ N) : (A ++ r).take m = A := by
  have hm := (List.getElem?_eq_some_iff.mp h).1
  rw [List.length_append] at hm
  have l1 : A.length ≤ m := by
    refine Nat.le_of_not_lt fun hlt => ?_
    rw [List.getElem?_append_left hlt] at h
    have := hA i (List.mem_of_getElem? h)
    omega
  have l2 : m ≤ A.length := by
    refine Nat.le_of_not_lt fun hlt => ?_
    have h0 : 0 < r.length := by omega
    have e : ((A ++ r).take m)[A.length]? = some r[0] := by
      rw [List.getElem?_take, if_pos hlt, List.getElem?_append_right (Nat.le_refl _), Nat.sub_self]
      simp [h0]
    have h1 := hle _ (List.mem_of_getElem? e)
    have h2 := hr r[0] (List.getElem_mem h0)
    omega
  have e : m = A.length := by omega
  rw [e, List.take_left]
theorem cut_end {A r : List Nat} {N : Nat} (hr : ∀ x ∈ r, N < x) (hle : ∀ x ∈ (A ++ r).take (A ++ r).length, x ≤ N) : A ++ r = A := by
  rw [List.take_length] at hle
  cases r with
  | nil => exact List.append_nil _
  | cons x s =>
    have h1 := hle x (by simp)
    have h2 := hr x (by simp)
    omega
theorem iteF' {b : Bool} {A B : Prop} (h : b = false) (q : B) : if b = true then A else B := by
  rw [h]
  exact iteF q
theorem iteT' {b : Bool} {A B : Prop} (h : b = true) (q : A) : if b = true then A else B := by
  rw [h]
  exact iteT q
theorem inV_pm (z : Int) : inV (.int z) [.int 1, .int (-1)] = decide (z = 1 ∨ z = -1) := by
  have e : inV (.int z) [.int 1, .int (-1)] = ((1 == z) || ((-1 == z) || false)) := by
    first
      | rfl
      | (simp [inV, eqV])
  rw [e]
  by_cases h1 : z = 1
  · subst h1
    rfl
  · by_cases h2 : z = -1
    · subst h2
      rfl
    · have e1 : (1 == z) = false := by simpa using fun h => h1 h.symm
      have e2 : (-1 == z) = false := by simpa using fun h => h2 h.symm
      rw [e1, e2, decide_eq_false (fun h => h.elim h1 h2)]
      rfl
theorem items_ref {H : Hp} {x : V} {xs : List V} (h : Items H x (some xs)) : ∃ a, x = .ref a ∧ (H a = some (.lst xs) ∨ H a = some (.tup xs)) := by
  cases h with
  | lst e => exact ⟨_, rfl, .inl e⟩
  | tup e => exact ⟨_, rfl, .inr e⟩
theorem hat {ns : List Int} {i : Nat} (hi : i < ns.length) : (ns.map V.int)[i]? = some (.int (fnL ns i)) := by
  rw [List.getElem?_map]
  unfold fnL
  rw [List.getD_eq_getElem?_getD]
  simp [hi]
theorem nums_of : ∀ {xs : List V}, xs.all isNum = true → ∃ ns : List Int, xs = ns.map V.int
  | [], _ => ⟨[], rfl⟩
  | x :: r, h => by
    rw [List.all_cons, Bool.and_eq_true] at h
    obtain ⟨ns, rfl⟩ := nums_of h.2
    cases x with
    | int z => exact ⟨z :: ns, rfl⟩
    | _ => cases h.1
theorem isRow_ints {o : Option (List V)} (h : isRow o = true) : ∃ ns : List Int, o = some (ns.map V.int) ∧ 1 ≤ ns.length ∧ ns.length ≤ 3001 := by
  cases o with
  | none => cases h
  | some xs =>
    have e1 : (xs.all isNum && (decide (1 ≤ (xs.length : Int)) && decide ((xs.length : Int) ≤ 3001))) = true := h
    simp only [Bool.and_eq_true, decide_eq_true_eq] at e1
    obtain ⟨ns, rfl⟩ := nums_of e1.1
    rw [List.length_map] at e1
    exact ⟨ns, rfl, by omega, by omega⟩
theorem within_int {m : V} {lo hi : Int} (h : within m lo hi = true) : ∃ i, m = .int i ∧ lo ≤ i ∧ i ≤ hi := by
  cases m with
  | int i =>
    have e : (decide (lo ≤ i) && decide (i ≤ hi)) = true := h
    simp only [Bool.and_eq_true, decide_eq_true_eq] at e
    exact ⟨i, rfl, e.1, e.2⟩
  | _ => cases h
theorem fnL_out {ns : List Int} {i : Nat} (h : ns.length ≤ i) : fnL ns i = 0 := by
  unfold fnL
  rw [List.getD_eq_getElem?_getD, List.getElem?_eq_none h]
  rfl
theorem tn {σ : L2.St} {H : Hp} {Q : List V → Hp → Prop} (h : Q [] H) : tNil σ H Q := h
theorem tn0 {v : V} {σ : L2.St} {H : Hp} {Q : List V → Hp → Prop} (h : Q [v] H) : tCons (tC v) tNil σ H Q := h
def zer (n : Nat) : List V := List.replicate n (.int 0)
theorem rep1 {x : V} : ∀ n : Nat, (List.replicate n [x]).flatten = List.replicate n x
  | 0 => rfl
  | n + 1 => by
    rw [List.replicate_succ, List.flatten_cons, rep1 n, List.replicate_succ]
    rfl
theorem row_ext {n : Nat} {b b' : S} (h : ∀ i, i < n → b i = b' i) : rowOf n b = rowOf n b' := by
  unfold rowOf
  congr 1
  exact List.map_congr_left fun i hi => h i (List.mem_range.mp hi)
theorem row_zero {n : Nat} {b : S} (h : ∀ i, i < n → b i = 0) : rowOf n b = zer n := by
  unfold rowOf zer
  refine List.eq_replicate_iff.mpr ⟨by simp, fun v hv => ?_⟩
  obtain ⟨z, hz, rfl⟩ := List.mem_map.mp hv
  obtain ⟨i, hi, rfl⟩ := List.mem_map.mp hz
  rw [h i (List.mem_range.mp hi)]
theorem row_one {n : Nat} (h : 1 ≤ n) : rowOf n one = .int 1 :: zer (n - 1) := by
  obtain ⟨m, rfl⟩ : ∃ m, n = m + 1 := ⟨n - 1, by omega⟩
  unfold rowOf
  rw [List.range_succ_eq_map, List.map_cons, List.map_cons]
  congr 1
  show List.map V.int (List.map one (List.map Nat.succ (List.range m))) = zer (m + 1 - 1)
  refine List.eq_replicate_iff.mpr ⟨by simp, fun v hv => ?_⟩
  obtain ⟨z, hz, rfl⟩ := List.mem_map.mp hv
  obtain ⟨i, hi, rfl⟩ := List.mem_map.mp hz
  obtain ⟨j, _, rfl⟩ := List.mem_map.mp hi
  rfl
theorem row_split {z n : Nat} {b c : S} (h0 : ∀ i, i < z → b i = 0) (h1 : ∀ i, i < n → b (z + i) = c i) : rowOf (z + n) b = zer z ++ rowOf n c := by
  unfold rowOf
  rw [List.range_add, List.map_append, List.map_append]
  congr 1
  · exact row_zero h0
  · refine congrArg (List.map V.int) ?_
    rw [List.map_map]
    exact List.map_congr_left fun i hi => h1 i (List.mem_range.mp hi)
theorem fnL_drop (ns : List Int) (z i : Nat) : fnL (ns.drop z) i = fnL ns (z + i) := by
  unfold fnL
  rw [List.getD_eq_getElem?_getD, List.getD_eq_getElem?_getD, List.getElem?_drop]
theorem fnL_take {ns : List Int} {m i : Nat} (h : i < m) : fnL (ns.take m) i = fnL ns i := by
  unfold fnL
  rw [List.getD_eq_getElem?_getD, List.getD_eq_getElem?_getD, List.getElem?_take, if_pos h]
theorem fnL_sh {ns : List Int} {z : Nat} (h : ∀ i, i < z → fnL ns i = 0) : fnL ns = sh z (fnL (ns.drop z)) := by
  funext i
  unfold sh
  by_cases c : i < z
  · rw [if_pos c, h i c]
  · rw [if_neg c, fnL_drop]
    congr 1
    omega
theorem cut_mid {ns : List Int} {i j : Nat} (h1 : i ≤ ns.length) (h2 : j ≤ ns.length) : cutV (ns.map V.int) (some (i : Int)) (some (j : Int)) = ((ns.drop i).take (j - i)).map V.int := by
  have hi : HT.sIx (ns.map V.int).length 0 (some (i : Int)) = i := by
    rw [List.length_map, HT.sIx_nat]
    omega
  have hj : HT.sIx (ns.map V.int).length (ns.map V.int).length (some (j : Int)) = j := by
    rw [List.length_map, HT.sIx_nat]
    omega
  unfold cutV
  rw [hi, hj, List.map_take, List.map_drop]
theorem blkOk_loc {N : List Str} {sc scope : Scope} {own : List (Str × Nat)} (h : blkC N scope scope own = true) (hf : (scope.names.all fun y => !decide (y.2 = NameKind.free)) = true) : BlkOk N sc scope own := by
  have b := blkOk_by h
  refine ⟨b.kind, b.uniq, b.ix, fun y hy e => ?_, b.own⟩
  have z := List.all_eq_true.mp hf y hy
  rw [decide_eq_true e] at z
  cases z
theorem row_get {n i : Nat} {b : S} (h : i < n) : (rowOf n b)[i]? = some (.int (b i)) := by
  unfold rowOf
  rw [List.getElem?_map, List.getElem?_map, List.getElem?_range h]
  rfl
theorem row_len {n : Nat} {b : S} : (rowOf n b).length = n := by
  unfold rowOf
  rw [List.length_map, List.length_map, List.length_range]
theorem row_succ {n : Nat} {b : S} : rowOf (n + 1) b = rowOf n b ++ [.int (b n)] := by
  unfold rowOf
  rw [List.range_succ, List.map_append, List.map_append]
  rfl
theorem row_self (ns : List Int) : rowOf ns.length (fnL ns) = ns.map V.int := by
  unfold rowOf
  congr 1
  refine List.ext_getElem (by simp) fun i h1 h2 => ?_
  simp at h1
  simp [fnL, h1]
theorem sum_sm (h : S) : ∀ n, ((List.range n).map h).sum = sm h n
  | 0 => rfl
  | n + 1 => by
    rw [List.range_succ, List.map_append, List.sum_append, sum_sm h n]
    show sm h n + (h n + 0) = sm h n + h n
    omega
theorem back_get {ms : List Int} {m i j : Nat} (hm : m ≤ ms.length) (hi : i < m) (hj : j ≤ i) : ((((ms.take m).reverse).drop (m - 1 - i)).map V.int)[j]? = some (.int (fnL ms (i - j))) := by
  have hl : (ms.take m).length = m := by
    rw [List.length_take]
    omega
  rw [List.getElem?_map, List.getElem?_drop, List.getElem?_reverse (by rw [hl]; omega), hl, List.getElem?_take, if_pos (by omega)]
  have e : m - 1 - (m - 1 - i + j) = i - j := by omega
  rw [e]
  unfold fnL
  rw [List.getD_eq_getElem?_getD]
  have h2 : i - j < ms.length := by omega
  simp [h2]
theorem back_len {ms : List Int} {m i : Nat} (hm : m ≤ ms.length) (hi : i < m) : ((((ms.take m).reverse).drop (m - 1 - i)).map V.int).length = i + 1 := by
  rw [List.length_map, List.length_drop, List.length_reverse, List.length_take]
  omega
theorem cut_head {ns : List Int} {m : Nat} (h : m ≤ ns.length) : cutV (ns.map V.int) none (some (m : Int)) = (ns.take m).map V.int := by
  unfold cutV
  rw [HT.sIx_none, HT.sIx_nat, List.length_map, Nat.sub_zero, List.drop_zero, Nat.min_eq_left h, List.map_take]
theorem cut_tail {ns : List Int} {i : Nat} : cutV (ns.map V.int) (some (i : Int)) none = (ns.drop i).map V.int := by
  unfold cutV
  rw [HT.sIx_none, HT.sIx_nat, List.length_map, List.map_drop]
  by_cases h : i ≤ ns.length
  · rw [Nat.min_eq_left h]
    refine List.take_of_length_le ?_
    rw [List.length_drop, List.length_map]
    omega
  · rw [Nat.min_eq_right (by omega), List.drop_eq_nil_of_le (by rw [List.length_map]; exact Nat.le_refl _), List.drop_eq_nil_of_le (by rw [List.length_map]; omega)]
    exact List.take_nil
def accS (f g : S) (i : Nat) : S := fun n => sm (fun k => if k ≤ n then f k * g (n - k) else 0) i
theorem acc_step {f g : S} {i n : Nat} : accS f g (i + 1) n = accS f g i n + (if i ≤ n then f i * g (n - i) else 0) := rfl
theorem acc_end {f g : S} {N n : Nat} (h : n < N) : accS f g N n = cv f g n := by
  unfold accS cv
  have e : N = (n + 1) + (N - (n + 1)) := by omega
  rw [e, sm_split]
  have e2 : sm (fun i => if n + 1 + i ≤ n then f (n + 1 + i) * g (n - (n + 1 + i)) else 0) (N - (n + 1)) = 0 := by
    refine Eq.trans (sm_congr _ fun i _ => ?_) (sm_zero _)
    rw [if_neg (by omega)]
  rw [e2, Int.add_zero]
  exact sm_congr _ fun i hi => by rw [if_pos (by omega)]
theorem row_set {N m : Nat} {b c : S} {z : Int} (hm : m < N) (h1 : c m = z) (h2 : ∀ i, i < N → i ≠ m → c i = b i) : (rowOf N b).set m (.int z) = rowOf N c := by
  refine List.ext_getElem? fun i => ?_
  rw [List.getElem?_set]
  by_cases e : m = i
  · subst e
    rw [if_pos rfl, if_pos (by rw [row_len]; exact hm), row_get hm, h1]
  · rw [if_neg e]
    by_cases hi : i < N
    · rw [row_get hi, row_get hi, h2 i hi (fun h => e h.symm)]
    · rw [List.getElem?_eq_none (by rw [row_len]; omega), List.getElem?_eq_none (by rw [row_len]; omega)]
theorem fnL_row {n : Nat} {b : S} {i : Nat} : fnL ((List.range n).map b) i = if i < n then b i else 0 := by
  unfold fnL
  rw [List.getD_eq_getElem?_getD, List.getElem?_map]
  by_cases h : i < n
  · rw [List.getElem?_range h, if_pos h]
    rfl
  · rw [List.getElem?_eq_none (by rw [List.length_range]; omega), if_neg h]
    rfl
theorem freeX {H H1 : Hp} {d l D : Addr} (s : SameX d l H H1) (n : H1 D = none) (nd : D ≠ d) (nl : D ≠ l) : H D = none := by
  cases e : H D with
  | none => rfl
  | some o =>
    rw [s _ _ e nd nl] at n
    cases n
def gR {α : Type} (us ws : List α) : List α := match us with
  | [] => ws.reverse
  | _ => []
theorem kbR {K : PySem.W.Frag} {x qual : Str} {params : Arguments} {body : List Stmt} {scope : Scope} {kws : List (Str × V)} {f : Addr} {fd : FuncData} {ps : List Str} (F : FunD K x qual params body scope [] kws f fd) (hps : ps ≠ [])
    (h : ∀ (kV doc pm : Value) (an : Option Addr) (cdv ct : Value) (ws : List Value), ws.length = ps.length → bindArgs (PySem.W.fnOf x qual params body scope .none kV doc pm an cdv ct) ⟨[], ps.reverse.zip ws⟩ = pure (ps.zip ws.reverse)) : KBinds K fd ps ps.reverse gR gR := by
  obtain ⟨oc, od, dV, kV, doc, pm, an, cdv, ct, osl, rfl, lk, hcd, hD, hK⟩ := F.ex
  refine ⟨fun s us ws hK' hl => ?_, fun {vs us zs ws} r1 r2 => ?_⟩
  · cases us with
    | cons u r =>
      exact absurd (List.length_eq_zero_iff.mp hl.symm) hps
    | nil =>
      rcases hD with ⟨_, rfl⟩ | ⟨e, _⟩
      · refine BindsTo.of_eq (h kV doc pm an cdv ct ws ?_)
        rw [← hl]
        exact (List.length_reverse).symm
      · exact absurd rfl e
  · cases r1 with
    | nil => exact r2.reverse
    | cons _ _ => exact .nil
def noArgs : Arguments := { posonlyargs := [], args := [], vararg := none, kwonlyargs := [], kw_defaults := [], kwarg := none, defaults := [] }
structure Own (H : Hp) (d l p : Addr) (xs : List V) : Prop where
  at_ : H p = some (.lst xs)
  nd : p ≠ d
  nl : p ≠ l
structure Wd (Pt : Addr) (H : Hp) (d l c : Addr) : Prop where
  dr : Draw H d l c
  tb : Tabs [(Pt, qL)] H
variable {H H' : Hp} {d l c p Pt : Addr} {xs : List V} {o : HO}
theorem Own.same (h : Own H d l p xs) (s : Same H H') : Own H' d l p xs := ⟨s _ _ h.at_, h.nd, h.nl⟩
theorem Own.sx (h : Own H d l p xs) (s : SameX d l H H') : Own H' d l p xs := ⟨s _ _ h.at_ h.nd h.nl, h.nd, h.nl⟩
theorem Own.ext (h : Own H d l p xs) (s : ExtN H H') : Own H' d l p xs := ⟨s _ _ h.at_ (fun ps z => by cases z), h.nd, h.nl⟩
theorem Own.new (D : Draw H d l c) (n : H p = none) : Own (upd H p (.lst xs)) d l p xs := ⟨upd_same, (D.ne n).1, (D.ne n).2.1⟩
theorem Wd.same (W : Wd Pt H d l c) (s : Same H H') : Wd Pt H' d l c := ⟨W.dr.same s, W.tb.ext s⟩
theorem Wd.sx (W : Wd Pt H d l c) (s : SameX d l H H') (D : Draw H' d l c) : Wd Pt H' d l c := by
  refine ⟨D, fun p hp => ?_⟩
  obtain ⟨ls, cs, r, t, D0⟩ := W.dr
  obtain ⟨ps, h1, h2, h3⟩ := W.tb p hp
  refine ⟨ps, s _ _ h1 (ne_of h1 D0.dd (fun z => by cases z)) (ne_of h1 D0.dl (fun z => by cases z)), h2, fun pos cv hc => ?_⟩
  obtain ⟨k, e1, e2⟩ := h3 pos cv hc
  refine ⟨k, e1, s _ _ e2 (ne_of e2 D0.dd (fun z => ?_)) (ne_of e2 D0.dl (fun z => ?_))⟩
  · unfold CodeO at z
    cases z
  · unfold CodeO at z
    cases z
theorem Draw.ext (D : Draw H d l c) (s : ExtN H H') : Draw H' d l c := by
  obtain ⟨ls, cs, r, t, D0⟩ := D
  exact ⟨ls, cs, r, t, s _ _ D0.dd (fun ps z => by cases z), s _ _ D0.dl (fun ps z => by cases z), s _ _ D0.dc (fun ps z => by cases z), D0.lc⟩
theorem Wd.upd {Pt d l c D' : Addr} {xs ys : List V} (W : Wd Pt H d l c) (h : H D' = some (.lst xs)) (n1 : D' ≠ d) (n2 : D' ≠ l) (n3 : D' ≠ c) : Wd Pt (upd H D' (.lst ys)) d l c := by
  refine ⟨W.dr.put n1 n2 n3, fun p hp => ?_⟩
  obtain ⟨ps, h1, h2, h3⟩ := W.tb p hp
  refine ⟨ps, by rw [upd_ne (ne_of h1 h (fun z => by cases z))]; exact h1, h2, fun pos cv hc => ?_⟩
  obtain ⟨k, e1, e2⟩ := h3 pos cv hc
  have nk : k ≠ D' := ne_of e2 h (fun z => by
    unfold CodeO at z
    cases z)
  exact ⟨k, e1, by rw [upd_ne nk]; exact e2⟩
theorem Own.upd {d l p D' : Addr} {xs : List V} {o : HO} (O : Own H d l p xs) (h : p ≠ D') : Own (upd H D' o) d l p xs := ⟨by rw [upd_ne h]; exact O.at_, O.nd, O.nl⟩
theorem eq_no (ls : List Int) : (!PyData.eqv (.list (intsD ls)) (.list (intsD ls))) = false := by
  have e := SeqAt.eqv_refl (.list (intsD ls)) (show PyData.canLay0 (.list (intsD ls)) = true from ints_lay ls)
  rw [e]
  rfl
structure OwnO (H : Hp) (d l p : Addr) (o : HO) : Prop where
  at_ : H p = some o
  nd : p ≠ d
  nl : p ≠ l
  nt : ∀ ps, o ≠ .tbl ps
theorem OwnO.same (h : OwnO H d l p o) (s : Same H H') : OwnO H' d l p o := ⟨s _ _ h.at_, h.nd, h.nl, h.nt⟩
theorem OwnO.sx (h : OwnO H d l p o) (s : SameX d l H H') : OwnO H' d l p o := ⟨s _ _ h.at_ h.nd h.nl, h.nd, h.nl, h.nt⟩
theorem OwnO.ext (h : OwnO H d l p o) (s : ExtN H H') : OwnO H' d l p o := ⟨s _ _ h.at_ h.nt, h.nd, h.nl, h.nt⟩
theorem OwnO.new (D : Draw H d l c) (n : H p = none) (nt : ∀ ps, o ≠ .tbl ps) : OwnO (upd H p o) d l p o := ⟨upd_same, (D.ne n).1, (D.ne n).2.1, nt⟩
theorem OwnO.upd {D' : Addr} {o' : HO} (O : OwnO H d l p o) (h : p ≠ D') : OwnO (upd H D' o') d l p o := ⟨by rw [upd_ne h]; exact O.at_, O.nd, O.nl, O.nt⟩
theorem all_num (ns : List Int) : (ns.map V.int).all isNum = true := by
  rw [List.all_map]
  exact List.all_eq_true.mpr fun _ _ => rfl
theorem row_ints {ns : List Int} (h1 : 1 ≤ ns.length) (h2 : ns.length ≤ 3001) : isRow (some (ns.map V.int)) = true := by
  show ((ns.map V.int).all isNum && (decide (1 ≤ ((ns.map V.int).length : Int)) && decide (((ns.map V.int).length : Int) ≤ 3001))) = true
  rw [all_num, List.length_map, decide_eq_true (by omega : 1 ≤ (ns.length : Int)), decide_eq_true (by omega : (ns.length : Int) ≤ 3001)]
  rfl
theorem pv_ints {H : Hp} (ns : List Int) : AllPV H (some (ns.map V.int)) := by
  intro xs e v hv
  cases e
  obtain ⟨z, _, rfl⟩ := List.mem_map.mp hv
  exact .int z
theorem short_ints {ns : List Int} (h2 : ns.length ≤ 3001) : short (some (ns.map V.int)) := by
  intro xs e
  cases e
  rw [List.length_map, sizeLine_eq]
  omega
def Bd (ns : List Int) : Prop := ∀ i, (fnL ns i).natAbs < 2 ^ 90
theorem Bd.to {ns : List Int} (h : Bd ns) {k : Nat} (hk : 90 ≤ k) : ∀ i, (fnL ns i).natAbs < 2 ^ k := fun i => Nat.lt_of_lt_of_le (h i) (Nat.pow_le_pow_right (by decide) hk)
theorem Bd.mem {ns : List Int} (h : Bd ns) {z : Int} (hz : z ∈ ns) : z.natAbs < 2 ^ 90 := by
  obtain ⟨i, hi⟩ := List.mem_iff_getElem?.mp hz
  have e := h i
  unfold fnL at e
  rw [List.getD_eq_getElem?_getD, hi] at e
  exact e
theorem bd_of {ns : List Int} (h : ∀ z ∈ ns, z.natAbs < 2 ^ 90) : Bd ns := fun i => by
  by_cases hi : i < ns.length
  · unfold fnL
    rw [List.getD_eq_getElem?_getD, List.getElem?_eq_getElem hi]
    exact h _ (List.getElem_mem hi)
  · rw [fnL_out (by omega)]
    exact Nat.pow_pos (by decide)
theorem ints_inj {a b : List Int} (h : some (a.map V.int) = some (b.map V.int)) : a = b := by
  have h2 := congrArg (fun o => (o.getD []).filterMap (fun v => match v with | V.int z => some z | _ => none)) h
  simp only [Option.getD_some, List.filterMap_map] at h2
  have e : ∀ l : List Int, l.filterMap ((fun v => match v with | V.int z => some z | _ => none) ∘ V.int) = l := fun l => by
    induction l with
    | nil => rfl
    | cons z r ih => rw [List.filterMap_cons]; exact congrArg (z :: ·) ih
  rw [e, e] at h2
  exact h2
theorem within_yes {i lo hi : Int} (h1 : lo ≤ i) (h2 : i ≤ hi) : within (.int i) lo hi = true := by
  show (decide (lo ≤ i) && decide (i ≤ hi)) = true
  rw [decide_eq_true h1, decide_eq_true h2]
  rfl
end Gn

set_option Elab.async false
set_option linter.all false
set_option maxRecDepth 100000
set_option maxHeartbeats 4000000
set_option pp.maxSteps 3000
set_option exponentiation.threshold 500000
/-! ranges by a step, lists as rows -/
namespace Gn
open PySem PySem.Spec PyProof.Rows L2 Dr Xv LamX Ps
def upN (a b d : Nat) : Nat := if a < b then (b - a - 1) / d + 1 else 0
theorem lt_upN {a b d t : Nat} (hd : 0 < d) : t < upN a b d ↔ a + t * d < b := by
  unfold upN
  by_cases h : a < b
  · rw [if_pos h, Nat.lt_succ_iff, Nat.le_div_iff_mul_le hd]
    omega
  · rw [if_neg h]
    constructor
    · intro z; omega
    · intro z; omega
theorem upN_le {a b d : Nat} (hd : 0 < d) : upN a b d ≤ b - a := by
  unfold upN
  split
  · have := Nat.div_le_self (b - a - 1) d
    omega
  · omega
theorem rg_up {a b d : Nat} (hd : 0 < d) (h1 : a < 2 ^ 29) (h2 : b < 2 ^ 29) (h3 : d < 2 ^ 29) : RgC (a : Int) (b : Int) (d : Int) (upN a b d) := by
  have e29 : (2 : Nat) ^ 29 = 536870912 := by decide
  have hn : Builtin.Range.rangeSize (a : Int) (b : Int) (d : Int) = (upN a b d : Nat) := by
    unfold Builtin.Range.rangeSize upN
    rw [if_pos (by omega : (d : Int) > 0)]
    by_cases h : a < b
    · rw [if_pos h, if_pos (by omega : (a : Int) < (b : Int))]
      have e : (b : Int) - (a : Int) - 1 = ((b - a - 1 : Nat) : Int) := by omega
      rw [e]
      simp
    · rw [if_neg h, if_neg (by omega)]
      rfl
  refine ⟨by omega, by omega, ?_, hn⟩
  unfold Builtin.Range.small
  have hu : upN a b d ≤ b - a := upN_le hd
  have hle : a + upN a b d * d < b + d + 1 ∨ upN a b d = 0 := by
    cases hz : upN a b d with
    | zero => exact .inr rfl
    | succ t =>
      have z := (lt_upN hd).mp (by omega : t < upN a b d)
      rw [Nat.add_mul, Nat.one_mul]
      exact .inl (by omega)
  rw [hn]
  simp only [Builtin.Range.rangeFitsLong, Bool.and_eq_true, Bool.or_eq_true, decide_eq_true_eq, beq_iff_eq, show ((d : Int) > 0) by omega, if_true]
  refine ⟨⟨⟨⟨?_, ?_⟩, ?_⟩, ?_⟩, ?_⟩ <;> try omega
theorem log_small2 {n : Nat} (h : n ≤ 4000) : ((n : Int)).natAbs.log2 < 9000 := by
  have e : ((n : Int)).natAbs = n := by omega
  rw [e]
  by_cases z : n = 0
  · rw [z]
    decide
  · have k : n.log2 < 12 := (Nat.log2_lt z).mpr (by omega)
    omega
/-- all but p stays -/
def SameO (p : Addr) (H H' : Hp) : Prop := ∀ b o, H b = some o → b ≠ p → H' b = some o
section
variable {p q : Addr} {H H0 H1 H' : Hp} {o : HO}
theorem SameO.refl : SameO p H H := fun _ _ e _ => e
theorem SameO.trans (a : SameO p H H1) (b : SameO p H1 H') : SameO p H H' := fun c o e n => b c o (a c o e n) n
theorem SameO.of (a : Same H H') : SameO p H H' := fun c o e _ => a c o e
theorem SameO.put : SameO p H (upd H p o) := fun c o e n => by rw [upd_ne n]; exact e
theorem SameO.new (h : H q = none) : SameO p H (upd H q o) := .of (same_new h)
theorem SameO.back (a : SameO p H H') (s : Same H0 H) (h : H0 p = none) : Same H0 H' := fun c o e => a c o (s c o e) (ne_of_none e h)
theorem SameO.row {K : PySem.W.Frag} {a : Addr} {xs : List V} (s : SameO p H H') (h : H a = some (.lst xs)) (n : a ≠ p) : SqL K H' a xs := SqL.of (s _ _ h n)
end
theorem sqx {K : PySem.W.Frag} {H : Hp} {b : Addr} {xs : List V} {tup : Bool} (h : H b = some (if tup then .tup xs else .lst xs)) : if tup then SqT K H b xs else SqL K H b xs := by
  cases tup with
  | true => exact SqT.of h
  | false => exact SqL.of h
theorem row_val {N i : Nat} {b : S} (h : i < N) : atI (rowOf N b) (i : Int) = some (.int (b i)) := atI_nat (row_get h)
theorem row_at {N i : Nat} {b : S} (h : i < N) : ixN (rowOf N b).length (i : Int) = some i := by
  unfold ixN
  rw [if_pos (by omega), row_len, if_pos (by omega)]
  simp
theorem take_at {ns : List Int} {m i : Nat} (hi : i < (ns.take m).length) : ((ns.take m).map V.int)[i]? = some (.int (fnL ns i)) := by
  rw [List.length_take] at hi
  rw [List.getElem?_map, List.getElem?_take, if_pos (by omega)]
  unfold fnL
  rw [List.getD_eq_getElem?_getD]
  have h2 : i < ns.length := by omega
  simp [h2]
/-- a list or a tuple of these numbers -/
def SeqI (H : Hp) (a : Addr) (ns : List Int) : Prop := H a = some (.lst (ns.map V.int)) ∨ H a = some (.tup (ns.map V.int))
theorem SeqI.same {H H' : Hp} {a : Addr} {ns : List Int} (h : SeqI H a ns) (s : Same H H') : SeqI H' a ns := h.imp (s _ _) (s _ _)
theorem SeqI.ne {H : Hp} {a p : Addr} {ns : List Int} (h : SeqI H a ns) (n : H p = none) : a ≠ p := by
  rcases h with e | e
  · exact ne_of_none e n
  · exact ne_of_none e n
theorem SeqI.len {K : PySem.W.Frag} {H : Hp} {a : Addr} {ns : List Int} (h : SeqI H a ns) : LenV K (.ref a) H (ns.map V.int).length := by
  rcases h with e | e
  · exact .inl ⟨_, SqL.of e, rfl⟩
  · exact .inr ⟨_, SqT.of e, rfl⟩
/-- xs[:n] of a list or a tuple -/
def rHead : V → Option Int → Option Int → Hp → VK → Prop := fun x l u H Q => ∃ (a : Addr) (ns : List Int) (n : Nat), x = .ref a ∧ l = none ∧ u = some (n : Int) ∧ SeqI H a ns ∧
  ∀ (tup : Bool) (b : Addr) (H2 : Hp), (b = a ∨ H b = none) → Same H H2 → H2 b = some (if tup then .tup ((ns.take n).map V.int) else .lst ((ns.take n).map V.int)) → Q (.ref b) H2
theorem sl_head {X : Cx} : SlR X rHead := by
  have main : ∀ {x : V} {lo hi : Option Int} {H : Hp} {Q : VK}, rHead x lo hi H Q → rSlL X.K x lo hi H Q ∨ rSlA X.K x lo hi H Q := by
    rintro x lo hi H Q ⟨a, ns, n, rfl, rfl, rfl, ha, k⟩
    have ecut : cutV (ns.map V.int) none (some (n : Int)) = (ns.take n).map V.int := by
      unfold cutV
      rw [HT.sIx_none, HT.sIx_nat, List.length_map, Nat.sub_zero, List.drop_zero, ← List.map_take]
      congr 1
      by_cases h : n ≤ ns.length
      · rw [Nat.min_eq_left h]
      · rw [Nat.min_eq_right (by omega), List.take_of_length_le (Nat.le_refl _), List.take_of_length_le (by omega)]
    rcases ha with e | e
    · refine .inl ⟨a, _, rfl, SqL.of e, fun p hp => ?_⟩
      rw [ecut]
      exact k false p _ (.inr hp) (same_new hp) upd_same
    · refine .inr ⟨a, _, rfl, SqT.of e, fun hw => ?_, fun _ p hp => ?_⟩
      · have e2 : (ns.take n).map V.int = ns.map V.int := by
          have z := hw.2
          rw [HT.sIx_nat, List.length_map] at z
          rw [List.take_of_length_le (by omega)]
        exact k true a H (.inl rfl) (fun _ _ q => q) (by rw [e2]; exact e)
      · rw [ecut]
        exact k true p _ (.inr hp) (same_new hp) upd_same
  intro pins s σ H x v vl vu lo hi sl Q I rx hs pl pu q
  exact SlR.or (X := X) sl_list sl_tupA pins s σ H x v vl vu lo hi sl Q I rx hs pl pu (main q)
end Gn

set_option Elab.async false
set_option linter.all false
set_option maxRecDepth 100000
set_option maxHeartbeats 4000000
set_option pp.maxSteps 3000
set_option exponentiation.threshold 500000
/-! what a law holds: the draw, the tables, its objects -/
namespace Gn
open PySem PySem.Spec PyProof.Rows L2 Dr Xv LamX Ps
structure Sta (Pt : Addr) (H : Hp) (d l c : Addr) (os : List (Addr × HO)) : Prop where
  W : Wd Pt H d l c
  O : ∀ x ∈ os, H x.1 = some x.2 ∧ x.1 ≠ d ∧ x.1 ≠ l ∧ x.1 ≠ c ∧ ∀ ps, x.2 ≠ .tbl ps
  P : os.Pairwise fun x y => x.1 ≠ y.1
namespace Sta
section
variable {Pt d l c p : Addr} {H H' : Hp} {o : HO} {os os' : List (Addr × HO)}
theorem same (S : Sta Pt H d l c os) (s : Same H H') : Sta Pt H' d l c os := ⟨S.W.same s, fun x hx => ⟨s _ _ (S.O x hx).1, (S.O x hx).2⟩, S.P⟩
theorem sx (S : Sta Pt H d l c os) (s : SameX d l H H') (D : Draw H' d l c) : Sta Pt H' d l c os := ⟨S.W.sx s D, fun x hx => ⟨s _ _ (S.O x hx).1 (S.O x hx).2.1 (S.O x hx).2.2.1, (S.O x hx).2⟩, S.P⟩
theorem ext (S : Sta Pt H d l c os) (s : ExtN H H') (T : Tabs [(Pt, qL)] H') : Sta Pt H' d l c os := ⟨⟨Draw.ext S.W.dr s, T⟩, fun x hx => ⟨s _ _ (S.O x hx).1 (S.O x hx).2.2.2.2, (S.O x hx).2⟩, S.P⟩
theorem res (S : Sta Pt H d l c os) (hp : H p = none) (s : Same H H') (e : H' p = some o) (nt : ∀ ps, o ≠ .tbl ps) : Sta Pt H' d l c ((p, o) :: os) := by
  have S' := S.same s
  have n := S.W.dr.ne hp
  refine ⟨S'.W, fun x hx => ?_, List.pairwise_cons.mpr ⟨fun x hx => (ne_of_none (S.O x hx).1 hp).symm, S.P⟩⟩
  rcases List.mem_cons.mp hx with rfl | hx
  · exact ⟨e, n.1, n.2.1, n.2.2, nt⟩
  · exact S'.O x hx
theorem new (S : Sta Pt H d l c os) (hp : H p = none) (nt : ∀ ps, o ≠ .tbl ps) : Sta Pt (upd H p o) d l c ((p, o) :: os) := S.res hp (same_new hp) upd_same nt
theorem newL {xs : List V} (S : Sta Pt H d l c os) (hp : H p = none) : Sta Pt (upd H p (.lst xs)) d l c ((p, .lst xs) :: os) := S.new hp (fun _ e => nomatch e)
theorem newT {xs : List V} (S : Sta Pt H d l c os) (hp : H p = none) : Sta Pt (upd H p (.tup xs)) d l c ((p, .tup xs) :: os) := S.new hp (fun _ e => nomatch e)
theorem resL {xs : List V} (S : Sta Pt H d l c os) (hp : H p = none) (s : Same H H') (e : H' p = some (.lst xs)) : Sta Pt H' d l c ((p, .lst xs) :: os) := S.res hp s e (fun _ e => nomatch e)
/-- a result of a drawing call -/
theorem resX {xs : List V} (S : Sta Pt H d l c os) (hp : H p = none) (s : SameX d l H H') (D : Draw H' d l c) (e : H' p = some (.lst xs)) : Sta Pt H' d l c ((p, .lst xs) :: os) := by
  have S' := S.sx s D
  have n := S.W.dr.ne hp
  refine ⟨S'.W, fun x hx => ?_, List.pairwise_cons.mpr ⟨fun x hx => (ne_of_none (S.O x hx).1 hp).symm, S.P⟩⟩
  rcases List.mem_cons.mp hx with rfl | hx
  · exact ⟨e, n.1, n.2.1, n.2.2, fun _ e => nomatch e⟩
  · exact S'.O x hx
theorem g (S : Sta Pt H d l c os) (i : Nat) {x : Addr × HO} (h : os[i]? = some x) : H x.1 = some x.2 := (S.O x (List.mem_of_getElem? h)).1
theorem gx (S : Sta Pt H d l c os) (i : Nat) {x : Addr × HO} (h : os[i]? = some x) (s : SameX d l H H') : H' x.1 = some x.2 := s _ _ (S.O x (List.mem_of_getElem? h)).1 (S.O x (List.mem_of_getElem? h)).2.1 (S.O x (List.mem_of_getElem? h)).2.2.1
theorem sub (S : Sta Pt H d l c os) (h : os'.Sublist os) : Sta Pt H d l c os' := ⟨S.W, fun x hx => S.O x (h.subset hx), S.P.sublist h⟩
theorem dr (S : Sta Pt H d l c os) : Draw H d l c := S.W.dr
theorem tb (S : Sta Pt H d l c os) : Tabs [(Pt, qL)] H := S.W.tb
/-- the list ahead is written -/
theorem put {xs ys : List V} (S : Sta Pt H d l c ((p, .lst xs) :: os)) : Sta Pt (upd H p (.lst ys)) d l c ((p, .lst ys) :: os) := by
  obtain ⟨h1, h2, h3, h4, h5⟩ := S.O _ (List.mem_cons_self ..)
  obtain ⟨q1, q2⟩ := List.pairwise_cons.mp S.P
  refine ⟨S.W.upd h1 h2 h3 h4, fun x hx => ?_, List.pairwise_cons.mpr ⟨q1, q2⟩⟩
  rcases List.mem_cons.mp hx with rfl | hx
  · exact ⟨upd_same, h2, h3, h4, fun _ e => nomatch e⟩
  · have z := S.O x (List.mem_cons_of_mem _ hx)
    exact ⟨by rw [upd_ne (q1 x hx).symm]; exact z.1, z.2⟩
theorem tl {x : Addr × HO} (S : Sta Pt H d l c (x :: os)) : Sta Pt H d l c os := S.sub (List.sublist_cons_self ..)
end
end Sta
/-- data of ints, equal -/
theorem eq_ints {a b : List Int} (h : a = b) : (!PyData.eqv (.list (intsD a)) (.list (intsD b))) = false := by
  subst h
  exact eq_no a
def intsOf (n : Nat) (b : S) : List Int := (List.range n).map b
theorem row_ofI {n : Nat} {b : S} : rowOf n b = (intsOf n b).map V.int := rfl
theorem fnL_ints {n : Nat} {b : S} {i : Nat} (h : i < n) : fnL (intsOf n b) i = b i := by
  unfold intsOf
  rw [fnL_row, if_pos h]
theorem len_ints {n : Nat} {b : S} : (intsOf n b).length = n := by
  unfold intsOf
  rw [List.length_map, List.length_range]
theorem fnL_snoc_le {ns : List Int} {z : Int} {c : Nat} (h : ∀ i, (fnL ns i).natAbs ≤ c) (hz : z.natAbs ≤ c) (i : Nat) : (fnL (ns ++ [z]) i).natAbs ≤ c := by
  have hi := h i
  unfold fnL at hi ⊢
  rw [List.getD_eq_getElem?_getD] at hi ⊢
  by_cases h1 : i < ns.length
  · rw [List.getElem?_append_left h1]
    exact hi
  · rw [List.getElem?_append_right (by omega)]
    by_cases h2 : i - ns.length = 0
    · rw [h2]
      exact hz
    · rw [List.getElem?_eq_none (by simp; omega)]
      exact Nat.zero_le _
theorem cut_full (ns : List Int) (m : Nat) : cutV (ns.map V.int ++ zer m) none (some (m : Int)) = rowOf m (fnL ns) := by
  have e : cutV (ns.map V.int ++ zer m) none (some (m : Int)) = (ns.map V.int ++ zer m).take m := by
    unfold cutV
    rw [HT.sIx_none, HT.sIx_nat, Nat.sub_zero, List.drop_zero, Nat.min_eq_left (by
      rw [List.length_append]
      unfold zer
      rw [List.length_replicate]
      omega)]
  rw [e]
  refine List.ext_getElem? fun i => ?_
  rw [List.getElem?_take]
  by_cases h : i < m
  · rw [if_pos h, row_get h]
    by_cases h2 : i < ns.length
    · rw [List.getElem?_append_left (by rw [List.length_map]; exact h2), List.getElem?_map]
      unfold fnL
      rw [List.getD_eq_getElem?_getD]
      simp [h2]
    · rw [List.getElem?_append_right (by rw [List.length_map]; omega), fnL_out (by omega), List.length_map]
      unfold zer
      rw [List.getElem?_replicate, if_pos (by omega)]
  · rw [if_neg h, List.getElem?_eq_none (by rw [row_len]; omega)]
end Gn

set_option Elab.async false
set_option linter.all false
set_option maxRecDepth 100000
set_option maxHeartbeats 4000000
set_option pp.maxSteps 3000
/-! errors of classes with an __init__ of their own -/
namespace Gn
open PySem PySem.Spec PyProof.Rows L2 Dr Xv LamX Ps
structure InitT (K : PySem.W.Frag) (C S fI : Addr) (f : Str) : Prop where
  ox : OexC K C
  iC : PySem.W.findIn K (.ref C) "__init__" = some (some (.ref fI))
  tI : PySem.W.typeIn K (.ref fI) = some (.type "function")
  no : PySem.W.findIn K (.ref C) f = some none
  m : PySem.W.exmOne K (.ref C) (.ref S) = some true
  e : ExcC K C
  i : PySem.W.kitOne K (.ref C) (.ref C) = some true
  x : XfC K C
  kS : PySem.W.keepIn K (.ref S) = true
  rS : PySem.W.readsIn K S (.type "type") = true
  sS : PySem.W.specialIn K (.ref S) "__getattribute__" = some (some (.builtin "type.__getattribute__"))
  vS : PySem.W.findCls K (.ref S) (.type "type") "__init__" = some (.val (.builtin "ValueError.__init__"))
def spInit (C : Addr) (f : Str) : Sp := fun vs H Q _ => ∃ (a : Addr) (v : V), vs = [.ref a, v] ∧ H a = some (exo a C none) ∧ ∀ d, H d = none → d ≠ a → Q .non (upd (upd H d (exd d [(f, v)])) a (exo a C (some d)))
theorem mk_init {C : Addr} {f : Str} {v : V} {H : Hp} {Q : Value → Option Addr → Hp → Prop} (q : ∀ d H', H d = none → Same H H' → H' d = some (.xd [(f, v)]) → Q (.ref C) (some d) H') :
    [v].length ≤ 1000 ∧ ∀ a, H a = none → spInit C f (.ref a :: ([v] ++ [])) (upd H a (exo a C none)) (fun w H2 => w = .non ∧ ∃ (d : Addr) (fs : List (Str × V)), H2 a = some (exo a C (some d)) ∧ H2 d = some (exd d fs) ∧ H d = none ∧ Q (.ref C) (some d) (upd (del H2 a) d (.xd fs))) (fun _ _ _ => False) := by
  refine ⟨(by show 1 ≤ 1000; decide), fun a ha => ⟨a, v, rfl, upd_same, fun d hd nd => ?_⟩⟩
  have hd' : H d = none := by rw [upd_ne nd] at hd; exact hd
  refine ⟨rfl, d, _, upd_same, by rw [upd_ne nd, upd_same], hd', q d _ hd' (fun b o e => ?_) upd_same⟩
  have n1 := ne_of_none e ha
  have n2 := ne_of_none e hd'
  rw [upd_ne n2]
  unfold del
  rw [if_neg n1, upd_ne n1, upd_ne n2, upd_ne n1]
  exact e
/-- such an error, caught -/
theorem erc_init {H H' : Hp} {a C d : Addr} {fs : List (Str × V)} (hd : H d = some (.xd fs)) (ha : H a = none) : ErC (upd H a (ErX (.ref C) (some d) a)) a C (some fs) :=
  .inr ⟨d, fs, rfl, upd_same, by rw [upd_ne (ne_of_none hd ha)]; exact hd⟩
end Gn

set_option Elab.async false
set_option linter.all false
set_option maxRecDepth 100000
set_option maxHeartbeats 4000000
set_option pp.maxSteps 3000
/-! zip of two tuples as a walk; tuples and other values; lists of tuples of ints as data -/
namespace Gn
open PySem PySem.Spec PyProof.Rows L2 Dr Xv LamX Ps
theorem walk_zipT {K : PySem.W.Frag} {a b : Addr} {xs ys : List V} {n : Nat} (hn : n = min xs.length ys.length) : Walk (RZ.ItzT K a b) n (fun H => SqT K H a xs ∧ SqT K H b ys) (YPair (fun i => xs[i]?) (fun i => ys[i]?)) := by
  refine ⟨fun i H hi q => ?_, fun H q => ?_, fun i H v H' hi q y => ?_⟩
  · have h1 : i < xs.length := by omega
    have h2 : i < ys.length := by omega
    exact ⟨xs, ys, xs[i], ys[i], q.1, q.2, by simp [h1], by simp [h2]⟩
  · exact ⟨xs, ys, q.1, q.2, by omega⟩
  · obtain ⟨T, x, z, h1, h2, h3, h4, h5⟩ := y
    exact ⟨T, x, z, h1, h2, h3, h4 xs q.1, h5 ys q.2⟩
/-- len's reading, named for comprehensions -/
def rLenK (K : PySem.W.Frag) : List V → Hp → VK → Prop := fun xs H Q => ∃ x n, xs = [x] ∧ LenV K x H n ∧ Q (V.int ↑n) H
/-- a tuple with these items, or no tuple -/
inductive Tp (H : Hp) : V → Option (List V) → Prop
  | non : Tp H .non none
  | bl (b : Bool) : Tp H (.bl b) none
  | int (i : Int) : Tp H (.int i) none
  | str (x : Str) : Tp H (.str x) none
  | lst {a : Addr} {xs : List V} : H a = some (.lst xs) → Tp H (.ref a) none
  | tup {a : Addr} {xs : List V} : H a = some (.tup xs) → Tp H (.ref a) (some xs)
  | dK {a : Addr} {kvs : List (Key × V)} : H a = some (.dK kvs) → Tp H (.ref a) none
theorem Tp.same {H H' : Hp} {x : V} {o : Option (List V)} (h : Tp H x o) (s : Same H H') : Tp H' x o := by
  cases h with
  | non => exact .non
  | bl b => exact .bl b
  | int i => exact .int i
  | str x => exact .str x
  | lst e => exact .lst (s _ _ e)
  | tup e => exact .tup (s _ _ e)
  | dK e => exact .dK (s _ _ e)
theorem Tp.pv {H : Hp} {x : V} {o : Option (List V)} (h : Tp H x o) : PV H x := by
  cases h with
  | non => exact .non
  | bl b => exact .bl b
  | int i => exact .int i
  | str x => exact .str x
  | lst e => exact .lst e
  | tup e => exact .tup e
  | dK e => exact .dK e
theorem Tp.ty {K : PySem.W.Frag} {H : Hp} {x : V} {o : Option (List V)} (h : Tp H x o) : ∃ t, TyX K H x t ∧ PySem.W.kitOne K t (.type "tuple") = some o.isSome := by
  cases h with
  | non => exact ⟨_, .base .non, kit_ty (r := false) (by decide +kernel)⟩
  | bl b => exact ⟨_, .base (.bl b), kit_ty (r := false) (by decide +kernel)⟩
  | int i => exact ⟨_, .base (.int i), kit_ty (r := false) (by decide +kernel)⟩
  | str x => exact ⟨_, .base (.str x), kit_ty (r := false) (by decide +kernel)⟩
  | lst e => exact ⟨_, .base (.lst e), kit_ty (r := false) (by decide +kernel)⟩
  | tup e => exact ⟨_, .base (.tup e), kit_ty (r := true) (by decide +kernel)⟩
  | dK e => exact ⟨_, .base (.dK e), kit_ty (r := false) (by decide +kernel)⟩
theorem Tp.ref {H : Hp} {x : V} {xs : List V} (h : Tp H x (some xs)) : ∃ a, x = .ref a ∧ H a = some (.tup xs) := by
  cases h with
  | tup e => exact ⟨_, rfl, e⟩
/-- the ints among values -/
def numsV (xs : List V) : List Int := xs.filterMap fun v => match v with | V.int z => some z | _ => none
theorem numsV_map : ∀ ns : List Int, numsV (ns.map V.int) = ns
  | [] => rfl
  | z :: r => congrArg (z :: ·) (numsV_map r)
/-! data -/
def tupD (ns : List Int) : PyData := .tuple (intsD ns)
theorem tup_lay (ns : List Int) : (tupD ns).canLay0 = true := ints_lay ns
theorem tup_depth (ns : List Int) : (tupD ns).depth ≤ 1 := by
  show PyData.depthAll (intsD ns) + 1 ≤ 1
  rw [ints_depth]
  exact Nat.le_refl _
theorem tup_shaped (ns : List Int) : SeqAt.shaped (tupD ns) = true := by
  show (PyData.canLayAll0 (intsD ns) && decide (PyData.depthAll (intsD ns) + 1 ≤ 64)) = true
  rw [ints_lay, ints_depth]
  rfl
theorem tups_lay : ∀ l : List (List Int), PyData.canLayAll0 (l.map tupD) = true
  | [] => rfl
  | z :: r => by
    show (PyData.canLay0 (tupD z) && PyData.canLayAll0 (r.map tupD)) = true
    rw [tups_lay r, tup_lay]
    rfl
theorem tups_depth : ∀ l : List (List Int), PyData.depthAll (l.map tupD) ≤ 1
  | [] => Nat.zero_le _
  | z :: r => by
    show max (PyData.depth (tupD z)) (PyData.depthAll (r.map tupD)) ≤ 1
    exact Nat.max_le.mpr ⟨tup_depth z, tups_depth r⟩
theorem tups_shaped (l : List (List Int)) : SeqAt.shaped (.list (l.map tupD)) = true := by
  show (PyData.canLayAll0 (l.map tupD) && decide (PyData.depthAll (l.map tupD) + 1 ≤ 64)) = true
  rw [tups_lay, decide_eq_true (by have := tups_depth l; omega)]
  rfl
theorem tup_dp {K : PySem.W.Frag} {H : Hp} {a : Addr} {ns : List Int} (h : H a = some (.tup (ns.map V.int))) : Dp K H (.ref a) (tupD ns) := .tup (SqT.of h) (ints_dp ns)
/-- these places hold these tuples of ints -/
def TupI (H : Hp) (ts : List Addr) (pss : List (List Int)) : Prop := ts.length = pss.length ∧ ∀ (i : Nat) (t : Addr) (ns : List Int), ts[i]? = some t → pss[i]? = some ns → H t = some (.tup (ns.map V.int))
theorem TupI.same {H H' : Hp} {ts : List Addr} {pss : List (List Int)} (h : TupI H ts pss) (s : Same H H') : TupI H' ts pss := ⟨h.1, fun i t ns e1 e2 => s _ _ (h.2 i t ns e1 e2)⟩
theorem TupI.nil {H : Hp} : TupI H [] [] := ⟨rfl, fun i t ns e => by cases e⟩
theorem TupI.append {H : Hp} {ts us : List Addr} {ps qs : List (List Int)} (h : TupI H ts ps) (g : TupI H us qs) : TupI H (ts ++ us) (ps ++ qs) := by
  refine ⟨by rw [List.length_append, List.length_append, h.1, g.1], fun i t ns e1 e2 => ?_⟩
  by_cases c : i < ts.length
  · rw [List.getElem?_append_left c] at e1
    rw [List.getElem?_append_left (by rw [← h.1]; exact c)] at e2
    exact h.2 i t ns e1 e2
  · rw [List.getElem?_append_right (by omega)] at e1
    rw [List.getElem?_append_right (by rw [← h.1]; omega), ← h.1] at e2
    exact g.2 _ t ns e1 e2
theorem TupI.one {H : Hp} {t : Addr} {ns : List Int} (h : H t = some (.tup (ns.map V.int))) : TupI H [t] [ns] := by
  refine ⟨rfl, fun i t' ns' e1 e2 => ?_⟩
  cases i with
  | zero =>
    cases e1
    cases e2
    exact h
  | succ i => cases e1
theorem TupI.mem {H : Hp} {ts : List Addr} {ps : List (List Int)} (h : TupI H ts ps) {t : Addr} (ht : t ∈ ts) : ∃ ns ∈ ps, H t = some (.tup (ns.map V.int)) := by
  obtain ⟨i, hi⟩ := List.mem_iff_getElem?.mp ht
  have hl := (List.getElem?_eq_some_iff.mp hi).1
  have hl2 : i < ps.length := by rw [← h.1]; exact hl
  exact ⟨ps[i], List.getElem_mem hl2, h.2 i t _ hi (by simp [hl2])⟩
theorem TupI.get {H : Hp} {ts : List Addr} {ps : List (List Int)} (h : TupI H ts ps) {i : Nat} {t : Addr} (ht : ts[i]? = some t) : ∃ ns, ps[i]? = some ns ∧ H t = some (.tup (ns.map V.int)) := by
  have hl := (List.getElem?_eq_some_iff.mp ht).1
  have hl2 : i < ps.length := by rw [← h.1]; exact hl
  exact ⟨ps[i], by simp [hl2], h.2 i t _ ht (by simp [hl2])⟩
theorem TupI.dp {K : PySem.W.Frag} {H : Hp} : ∀ {ts : List Addr} {ps : List (List Int)}, TupI H ts ps → DpAll K H (ts.map V.ref) (ps.map tupD)
  | [], [], _ => .nil
  | [], _ :: _, h => absurd h.1 (by simp)
  | _ :: _, [], h => absurd h.1 (by simp)
  | t :: ts, p :: ps, h => .cons (tup_dp (h.2 0 t p rfl rfl)) (TupI.dp ⟨by have := h.1; simpa using this, fun i t' ns e1 e2 => h.2 (i + 1) t' ns e1 e2⟩)
theorem eq_tup (ns : List Int) : (!PyData.eqv (tupD ns) (tupD ns)) = false := by
  rw [SeqAt.eqv_refl _ (tup_lay ns)]
  rfl
theorem eq_tups (l : List (List Int)) : (!PyData.eqv (.list (l.map tupD)) (.list (l.map tupD))) = false := by
  rw [SeqAt.eqv_refl (.list (l.map tupD)) (show PyData.canLay0 (.list (l.map tupD)) = true from tups_lay l)]
  rfl
end Gn

set_option Elab.async false
set_option linter.all false
set_option maxRecDepth 100000
set_option maxHeartbeats 4000000
set_option pp.maxSteps 3000
/-! range(a, b, c) as an object, tuple() of it -/
namespace Gn
open PySem PySem.Spec PyProof.Rows L2 Dr Xv LamX Ps
/-- at r a range -/
def RgX (r : Addr) (i j c : Int) : HO := .ext fun h => ∃ t u v, IsRange h r i j c t u v
theorem rgx_ok {prog : Program} {w : World} {H : Hp} {h : Heap} {r : Addr} {i j c : Int} {t u v : Tok} (e : IsRange h r i j c t u v) : ObjOk prog w H h r (RgX r i j c) :=
  ⟨⟨t, u, v, e⟩, ⟨_, e⟩, fun h1 h2 q k => by
    obtain ⟨t, u, v, q⟩ := q
    exact ⟨t, u, v, k _ q⟩⟩
theorem cr_range3 {X : Cx} : CallR X (.type "range") (fun xs H Q => ∃ i j c, xs = [.int i, .int j, .int c] ∧ c ≠ 0 ∧ c.natAbs < 1073741824 ∧ ∀ p, H p = none → Q (.ref p) (upd H p (RgX p i j c))) := by
  intro pins s σ H xs us Q I r h
  obtain ⟨i, j, c, rfl, c0, c1, q⟩ := h
  cases r with
  | cons r1 r =>
    cases r with
    | cons r2 r =>
      cases r with
      | cons r3 r =>
        cases r
        obtain ⟨t, rfl⟩ := r1
        obtain ⟨u, rfl⟩ := r2
        obtain ⟨v, rfl⟩ := r3
        obtain ⟨hp, g, dr, tk, os⟩ := s
        refine PySem.call_range_3 c0 ?_ (.inl ?_)
        · exact ⟨.ref hp.objs.size, _, I.laid (t' := tk) (o := RgX hp.objs.size i j c) (fun b o z => Heap.get?_push_of_some _ z) (Nat.le_refl _) (rgx_ok (Heap.get?_push_size _ rfl)), rfl, q _ (I.hok.fresh (Nat.le_refl _))⟩
        · refine PyProof.noPylong_of_log2 ?_
          have k : c.natAbs.log2 < 30 := (Nat.log2_lt (by omega)).mpr (by
            have e : (2 : Nat) ^ 30 = 1073741824 := by decide
            omega)
          omega
/-- the items of a range -/
def rgL (i c : Int) (n : Nat) : List Int := (List.range n).map fun k : Nat => i + (k : Int) * c
theorem vals_of : ∀ (l : List Value) (f : Nat → V), (∀ j v, l[j]? = some v → RelV (f j) v) → Vals ((List.range l.length).map f) l
  | [], _, _ => .nil
  | v :: l, f, h => by
    rw [List.length_cons, List.range_succ_eq_map, List.map_cons, List.map_map]
    exact .cons (h 0 v rfl) (vals_of l (fun k => f (k + 1)) fun j w e => h (j + 1) w e)
theorem call_tuple_rg3 {X : Cx} (hc : X.calm = true) : CallR X (.type "tuple") (fun xs H Q => ∃ r i j c n, xs = [.ref r] ∧ H r = some (RgX r i j c) ∧ RgC i j c n ∧ n ≤ 2 ^ 24 ∧ ∀ p, H p = none → Q (.ref p) (upd H p (.tup ((rgL i c n).map V.int)))) := by
  intro pins s σ H xs us Q I r h
  obtain ⟨a, i, j, c, n, rfl, ha, hr, hn, q⟩ := h
  cases r with
  | cons r1 r =>
    cases r
    cases r1
    have ho : ObjOk X.prog X.w H s.heap a (RgX a i j c) := I.hok a _ ha
    obtain ⟨⟨t, u, v, e⟩, _⟩ := ho
    refine L2.call_tuple_range (I.ok.hd hc) e hr.2.2.1 hr.2.2.2 hn fun h' tk acc kp it => ?_
    have I1 : Inv X pins σ H { s with heap := h', toks := tk } := I.kept kp
    have hv : Vals ((rgL i c n).map V.int) acc.toList := by
      have z := vals_of acc.toList (fun k => V.int (i + (k : Int) * c)) fun j v e => by
        obtain ⟨t, rfl⟩ := it.2 j v (by simpa using e)
        exact ⟨t, rfl⟩
      have hl : acc.toList.length = n := by
        rw [Array.length_toList]
        exact it.1
      rw [hl] at z
      unfold rgL
      rw [List.map_map]
      exact z
    refine ⟨.ref h'.objs.size, _, I1.laid (t' := tk) (o := .tup ((rgL i c n).map V.int)) (fun b o z => Heap.get?_push_of_some _ z) (Nat.le_refl _) ⟨?_, acc.toList, hv, ⟨_, Heap.get?_push_size _ rfl, rfl, 0, ?_⟩⟩, rfl, q _ (I1.hok.fresh (Nat.le_refl _))⟩
    · unfold rgL
      rw [List.length_map, List.length_map, List.length_range, sizeLine_eq]
      omega
    · rfl
end Gn
namespace Gn
open PySem PySem.Spec PyProof.Rows L2
theorem hu65 {k : Nat} {A : Around} (hr : Room k A) : A.units + 65 < cLine := by
  have := hr.un
  omega
end Gn
namespace Gn
open PySem PySem.Spec PyProof.Rows L2 Dr Xv LamX Ps
/-- a test that tells b and changes nothing -/
def PureT (c : TT) (σ : L2.St) (H : Hp) (b : Bool) : Prop := ∀ Q : Bool → Hp → Prop, Q b H → c σ H Q
theorem pure_or {c d : TT} {σ : L2.St} {H : Hp} {a b : Bool} (h : PureT c σ H a) (k : PureT d σ H b) : PureT (tOr c d) σ H (a || b) := fun Q q => by
  refine h _ ?_
  cases a with
  | true => exact iteT q
  | false => exact iteF (k _ q)
theorem pure_and {c d : TT} {σ : L2.St} {H : Hp} {a b : Bool} (h : PureT c σ H a) (k : PureT d σ H b) : PureT (tAnd c d) σ H (a && b) := fun Q q => by
  refine h _ ?_
  cases a with
  | true => exact iteT (k _ q)
  | false => exact iteF q
end Gn
namespace Gn
open PySem PySem.Spec PyProof.Rows L2
theorem np {σ : L2.St} {H : Hp} {Q : Option Int → Hp → Prop} (h : Q none H) : tNoPart σ H Q := h
end Gn

set_option Elab.async false
set_option linter.all false
set_option maxRecDepth 100000
set_option maxHeartbeats 4000000
set_option pp.maxSteps 3000
/-! sum of a tuple -/
namespace Gn
open PySem PySem.Spec PyProof.Rows L2 Dr Xv LamX Ps
theorem preSum_take (ns : List Int) : ∀ k, k ≤ ns.length → PySem.preSum (fun i => ns.getD i 0) k = (ns.take k).sum
  | 0, _ => by
    rw [List.take_zero]
    rfl
  | k + 1, h => by
    have ih := preSum_take ns k (by omega)
    show PySem.preSum (fun i => ns.getD i 0) k + ns.getD k 0 = _
    rw [ih, List.take_succ, List.getElem?_eq_getElem (by omega : k < ns.length), List.sum_append, List.getD_eq_getElem?_getD, List.getElem?_eq_getElem (by omega : k < ns.length)]
    show _ + ns[k] = _ + (ns[k] + 0)
    omega
theorem sum_bd : ∀ (ns : List Int) (b : Nat), (∀ x ∈ ns, x.natAbs ≤ b) → ns.sum.natAbs ≤ ns.length * b
  | [], b, _ => Nat.zero_le _
  | x :: r, b, h => by
    have h1 := sum_bd r b fun y hy => h y (List.mem_cons_of_mem _ hy)
    have h2 := h x (List.mem_cons_self ..)
    rw [List.sum_cons, List.length_cons, Nat.add_mul, Nat.one_mul]
    have := Int.natAbs_add_le x r.sum
    omega
def rSumT (K : PySem.W.Frag) : List V → Hp → VK → Prop := fun vs H Q => ∃ (a : Addr) (ns : List Int), vs = [V.ref a] ∧ SqT K H a (ns.map V.int) ∧ ns.length ≤ 1000 ∧ (∀ x ∈ ns, x.natAbs ≤ 1000000000) ∧ Q (V.int ns.sum) H
theorem cr_sumT {X : Cx} (hc : X.calm = true) : CallR X (.builtin "sum") (rSumT X.K) := by
  intro pins s σ H xs us Q I r h
  obtain ⟨a, ns, rfl, hq, hl, hb, q⟩ := h
  cases r with
  | cons r1 r =>
    cases r
    cases r1
    obtain ⟨its, rv, p, hz⟩ := I.tuple hq
    have hlen : its.length = ns.length := by
      have := rv.length
      rw [List.length_map] at this
      exact this.symm
    have hal : a < s.heap.objs.size := by
      obtain ⟨o, ho, _⟩ := id p
      exact Heap.lt_size ho
    refine PySem.call_sum_walk (wpAny_pyIter_tuple (show s.heap.IsTuple a its.toArray from p) ?_)
    refine ⟨s.heap.objs.size, [s.heap.objs.size, a], [s.heap.objs.size], its.toArray.size, _, _, fun i => ns.getD i 0, rfl, Walks.tuple (prog := X.prog) (w := X.w) (A := X.A.in1) (I.ok.hd hc) s.heap.objs.size a (Nat.ne_of_lt hal) its.toArray, ⟨⟨_, Heap.get?_push_size _ rfl, rfl, rfl⟩, ?_⟩, fun b hb => ?_, fun i v hv => ?_, fun j hj => ?_, fun h' tk t' kp => ?_⟩
    · obtain ⟨o, ho, h2⟩ := id p
      exact ⟨o, Heap.get?_push_of_some _ ho, h2⟩
    · have e : b = s.heap.objs.size ∨ b = a := by simpa using hb
      show b < (s.heap.push _).objs.size
      rw [Heap.size_push]
      rcases e with z | z
      · rw [z]
        exact Nat.lt_succ_self _
      · rw [z]
        exact Nat.lt_succ_of_lt hal
    · have hv' : its[i]? = some v := by simpa using hv
      have hi := (List.getElem?_eq_some_iff.mp hv').1
      have e : (ns.map V.int)[i]? = some (.int (ns.getD i 0)) := by
        rw [List.getElem?_map, List.getElem?_eq_getElem (by omega : i < ns.length), List.getD_eq_getElem?_getD, List.getElem?_eq_getElem (by omega : i < ns.length)]
        rfl
      obtain ⟨u, hu, ru⟩ := rv.get e
      rw [hv'] at hu
      cases hu
      exact ru
    · have hj' : j < ns.length := by
        rw [List.size_toArray] at hj
        omega
      have h1 : (ns.getD j 0).natAbs ≤ 1000000000 := hb _ (List.mem_of_getElem? (by rw [List.getD_eq_getElem?_getD, List.getElem?_eq_getElem hj']; rfl))
      have h2 := sum_bd (ns.take (j + 1)) 1000000000 fun x hx => hb x (List.mem_of_mem_take hx)
      rw [List.length_take] at h2
      have h3 : min (j + 1) ns.length * 1000000000 ≤ 1000 * 1000000000 := Nat.mul_le_mul_right _ (by omega)
      dsimp only
      rw [preSum_take ns (j + 1) (by omega)]
      unfold InLong
      refine ⟨⟨by omega, by omega⟩, by omega, by omega⟩
    · have I1 : Inv X pins σ H { s with heap := h', toks := tk } := I.kept fun b o e => kp b o (fun z => by
        have z2 : b = s.heap.objs.size := by simpa using z
        have w := Heap.lt_size e
        rw [z2] at w
        exact Nat.lt_irrefl _ w) (Heap.get?_push_of_some _ e)
      have e : PySem.preSum (fun i => ns.getD i 0) its.toArray.size = ns.sum := by
        rw [List.size_toArray, hlen, preSum_take ns _ (Nat.le_refl _), List.take_length]
      rw [e]
      exact ⟨.int ns.sum, H, I1, ⟨_, rfl⟩, q⟩
end Gn

set_option Elab.async false
set_option linter.all false
set_option maxRecDepth 100000
set_option maxHeartbeats 4000000
/-! partitions: all of them, what mirrors one -/
namespace Pt
/-- all partitions of n with no part above g, descending; f bounds the depth -/
def pw : Nat → Nat → Nat → List (List Int)
  | 0, _, _ => []
  | f + 1, n, g => if n = 0 then [[]] else ((List.range (min n g)).map fun i => (pw f (n - (min n g - i)) (min n g - i)).map fun r => (((min n g - i : Nat) : Int)) :: r).flatten
/-- the first j turns of the loop -/
def pwJ (f n g j : Nat) : List (List Int) := ((List.range j).map fun i => (pw f (n - (min n g - i)) (min n g - i)).map fun r => (((min n g - i : Nat) : Int)) :: r).flatten
theorem pwJ_zero (f n g : Nat) : pwJ f n g 0 = [] := rfl
theorem pwJ_succ (f n g j : Nat) : pwJ f n g (j + 1) = pwJ f n g j ++ (pw f (n - (min n g - j)) (min n g - j)).map fun r => (((min n g - j : Nat) : Int)) :: r := by
  unfold pwJ
  rw [List.range_succ, List.map_append, List.flatten_append]
  simp
theorem pw_zero (f g : Nat) : pw (f + 1) 0 g = [[]] := by
  unfold pw
  rw [if_pos rfl]
theorem pw_pos {f n g : Nat} (h : n ≠ 0) : pw (f + 1) n g = pwJ f n g (min n g) := by
  conv => lhs; unfold pw
  rw [if_neg h]
  rfl
def desc : List Int → Bool
  | [] => true
  | x :: r => (match r with | [] => true | y :: _ => decide (y ≤ x)) && desc r
def small (ns : List Int) (lo hi : Int) : Bool := ns.all fun x => decide (lo ≤ x) && decide (x ≤ hi)
/-- one of the partitions told -/
structure Good (ns : List Int) (n g : Nat) : Prop where
  ds : ns.Pairwise (fun x y => y ≤ x)
  lo : ∀ x ∈ ns, 1 ≤ x
  hi : ∀ x ∈ ns, x ≤ g
  hn : ∀ x ∈ ns, x ≤ n
  ln : ns.length ≤ n
theorem pw_good : ∀ (f n g : Nat) (ns : List Int), ns ∈ pw f n g → Good ns n g
  | 0, n, g, ns, h => by cases h
  | f + 1, n, g, ns, h => by
    by_cases z : n = 0
    · subst z
      rw [pw_zero] at h
      rw [List.mem_singleton.mp h]
      exact ⟨.nil, (fun x h => by cases h), (fun x h => by cases h), (fun x h => by cases h), Nat.zero_le _⟩
    · rw [pw_pos z] at h
      unfold pwJ at h
      obtain ⟨l, hl, hns⟩ := List.mem_flatten.mp h
      obtain ⟨i, hi, rfl⟩ := List.mem_map.mp hl
      obtain ⟨r, hr, rfl⟩ := List.mem_map.mp hns
      have hi' := List.mem_range.mp hi
      have G := pw_good f _ _ r hr
      obtain ⟨a, ea⟩ : ∃ a, a = min n g - i := ⟨_, rfl⟩
      rw [← ea] at G ⊢
      have a1 : 1 ≤ a := by omega
      have a2 : a ≤ n := by omega
      have a3 : a ≤ g := by omega
      refine ⟨List.pairwise_cons.mpr ⟨fun x hx => G.hi x hx, G.ds⟩, ?_, ?_, ?_, ?_⟩
      · intro x hx
        rcases List.mem_cons.mp hx with rfl | hx
        · omega
        · exact G.lo x hx
      · intro x hx
        rcases List.mem_cons.mp hx with rfl | hx
        · omega
        · have := G.hi x hx
          omega
      · intro x hx
        rcases List.mem_cons.mp hx with rfl | hx
        · omega
        · have := G.hi x hx
          omega
      · rw [List.length_cons]
        have := G.ln
        omega
/-! what mirrors one -/
def cnt (ns : List Int) (k : Int) : Nat := (ns.filter fun x => decide (k ≤ x)).length
def mir (ns : List Int) (top : Nat) : List Int := (List.range top).map fun k : Nat => ((cnt ns ((k : Int) + 1) : Nat) : Int)
theorem mir_len (ns : List Int) (top : Nat) : (mir ns top).length = top := by
  unfold mir
  rw [List.length_map, List.length_range]
theorem cnt_cons (x : Int) (r : List Int) (k : Int) : cnt (x :: r) k = (if k ≤ x then 1 else 0) + cnt r k := by
  unfold cnt
  by_cases h : k ≤ x
  · rw [List.filter_cons_of_pos (by simpa using h), if_pos h, List.length_cons]
    omega
  · rw [List.filter_cons_of_neg (by simpa using h), if_neg h, Nat.zero_add]
theorem cnt_zero {ns : List Int} {k : Int} (h : ∀ x ∈ ns, x < k) : cnt ns k = 0 := by
  unfold cnt
  rw [List.filter_eq_nil_iff.mpr (fun x hx => by
    have := h x hx
    simp
    omega)]
  rfl
theorem cnt_all {ns : List Int} {k : Int} (h : ∀ x ∈ ns, k ≤ x) : cnt ns k = ns.length := by
  unfold cnt
  rw [List.filter_eq_self.mpr (fun x hx => by simpa using h x hx)]
theorem cnt_le (ns : List Int) (k : Int) : cnt ns k ≤ ns.length := List.length_filter_le _ _
theorem cnt_mono (ns : List Int) {j k : Int} (h : j ≤ k) : cnt ns k ≤ cnt ns j := by
  induction ns with
  | nil => exact Nat.le_refl _
  | cons x r ih =>
    rw [cnt_cons, cnt_cons]
    split <;> split <;> omega
/-- the i-th part is k or more exactly if more than i are -/
theorem cnt_ix : ∀ (ns : List Int) (i : Nat) (k x : Int), ns.Pairwise (fun x y => y ≤ x) → ns[i]? = some x → (i < cnt ns k ↔ k ≤ x)
  | [], i, k, x, _, h => by cases h
  | y :: r, i, k, x, hp, h => by
    obtain ⟨h1, h2⟩ := List.pairwise_cons.mp hp
    rw [cnt_cons]
    cases i with
    | zero =>
      cases h
      by_cases z : k ≤ y
      · rw [if_pos z]
        exact ⟨fun _ => z, fun _ => by omega⟩
      · rw [if_neg z, cnt_zero (fun x hx => by have := h1 x hx; omega)]
        exact ⟨fun h => absurd h (by omega), fun h => absurd h z⟩
    | succ i =>
      have h' : r[i]? = some x := h
      have ih := cnt_ix r i k x h2 h'
      have hx := h1 x (List.mem_of_getElem? h')
      by_cases z : k ≤ y
      · rw [if_pos z]
        constructor
        · intro q
          exact ih.mp (by omega)
        · intro q
          have := ih.mpr q
          omega
      · rw [if_neg z, cnt_zero (fun x hx => by have := h1 x hx; omega)]
        constructor
        · intro q
          omega
        · intro q
          omega
theorem cnt_range (x : Nat) : ∀ top : Nat, ((List.range top).filter fun k => decide (k < x)).length = min top x
  | 0 => by simp
  | t + 1 => by
    rw [List.range_succ, List.filter_append, List.length_append, cnt_range x t]
    by_cases h : t < x
    · rw [List.filter_cons_of_pos (by simpa using h)]
      simp
      omega
    · rw [List.filter_cons_of_neg (by simpa using h)]
      simp
      omega
/-- a partition: its parts descend and are positive, the first one is the greatest -/
structure Par (ns : List Int) (top : Nat) : Prop where
  ds : ns.Pairwise (fun x y => y ≤ x)
  lo : ∀ x ∈ ns, 1 ≤ x
  hi : ∀ x ∈ ns, x ≤ (top : Int)
  hd : (top : Int) = ns.headD 0
theorem Par.pos {ns : List Int} {top : Nat} (h : Par ns top) (t : top ≠ 0) : ns ≠ [] := fun z => by
  have := h.hd
  rw [z] at this
  have e : (top : Int) = 0 := this
  omega
/-- mirrored twice is itself -/
theorem mir_mir {ns : List Int} {top : Nat} (h : Par ns top) : mir (mir ns top) ns.length = ns := by
  refine List.ext_getElem? fun i => ?_
  by_cases hi : i < ns.length
  · obtain ⟨x, hx⟩ : ∃ x, ns[i]? = some x := ⟨ns[i], by simp [hi]⟩
    have hm := List.mem_of_getElem? hx
    have x1 := h.lo x hm
    have x2 := h.hi x hm
    obtain ⟨m, rfl⟩ : ∃ m : Nat, x = (m : Int) := ⟨x.toNat, by omega⟩
    have e : (mir (mir ns top) ns.length)[i]? = some ((cnt (mir ns top) ((i : Int) + 1) : Nat) : Int) := by
      unfold mir
      rw [List.getElem?_map, List.getElem?_range hi]
      rfl
    rw [e, hx]
    have e2 : cnt (mir ns top) ((i : Int) + 1) = m := by
      unfold cnt mir
      rw [List.filter_map, List.length_map]
      have e3 : (List.range top).filter ((fun x : Int => decide ((i : Int) + 1 ≤ x)) ∘ fun k : Nat => ((cnt ns ((k : Int) + 1) : Nat) : Int)) = (List.range top).filter fun k => decide (k < m) := by
        refine List.filter_congr fun k _ => ?_
        have z := cnt_ix ns i ((k : Int) + 1) m h.ds hx
        show decide ((i : Int) + 1 ≤ ((cnt ns ((k : Int) + 1) : Nat) : Int)) = decide (k < m)
        by_cases q : k < m
        · rw [decide_eq_true q, decide_eq_true]
          have := z.mpr (by omega)
          omega
        · rw [decide_eq_false q, decide_eq_false]
          intro w
          have := z.mp (by omega)
          omega
      rw [e3, cnt_range]
      omega
    rw [e2]
  · rw [List.getElem?_eq_none (by rw [mir_len]; omega), List.getElem?_eq_none (by omega)]
theorem mir_mem {ns : List Int} {top : Nat} {x : Int} (h : x ∈ mir ns top) : ∃ k : Nat, k < top ∧ x = ((cnt ns ((k : Int) + 1) : Nat) : Int) := by
  unfold mir at h
  obtain ⟨k, hk, rfl⟩ := List.mem_map.mp h
  exact ⟨k, List.mem_range.mp hk, rfl⟩
/-- what mirrors a partition is one -/
theorem mir_par {ns : List Int} {top : Nat} (h : Par ns top) (t : ns ≠ []) : Par (mir ns top) ns.length := by
  have h0 : ∃ x r, ns = x :: r := by
    cases ns with
    | nil => exact absurd rfl t
    | cons x r => exact ⟨x, r, rfl⟩
  have ht : (top : Int) ∈ ns := by
    obtain ⟨x, r, rfl⟩ := h0
    have := h.hd
    rw [this]
    exact List.mem_cons_self ..
  have tp : 1 ≤ top := by
    have := h.lo _ ht
    omega
  refine ⟨?_, fun x hx => ?_, fun x hx => ?_, ?_⟩
  · unfold mir
    rw [List.pairwise_map]
    refine List.Pairwise.imp ?_ (List.pairwise_lt_range)
    intro a b hab
    have := cnt_mono ns (j := (a : Int) + 1) (k := (b : Int) + 1) (by omega)
    omega
  · obtain ⟨k, hk, rfl⟩ := mir_mem hx
    have q := List.mem_iff_getElem?.mp ht
    obtain ⟨i, hi⟩ := q
    have z := (cnt_ix ns i ((k : Int) + 1) top h.ds hi).mpr (by omega)
    omega
  · obtain ⟨k, hk, rfl⟩ := mir_mem hx
    have := cnt_le ns ((k : Int) + 1)
    omega
  · obtain ⟨m, rfl⟩ : ∃ m, top = m + 1 := ⟨top - 1, by omega⟩
    unfold mir
    rw [List.range_succ_eq_map, List.map_cons]
    show _ = ((cnt ns (((0 : Nat) : Int) + 1) : Nat) : Int)
    rw [cnt_all (fun x hx => by have := h.lo x hx; omega)]
/-- what the program asks -/
def isPt (ns : List Int) : Bool := decide (ns.length ≤ 200) && (small ns 1 1000000 && (List.zip ns (ns.drop 1)).all fun p => decide (p.2 ≤ p.1))
theorem zip_desc : ∀ {ns : List Int}, ns.Pairwise (fun x y => y ≤ x) → ((List.zip ns (ns.drop 1)).all fun p => decide (p.2 ≤ p.1)) = true
  | [], _ => rfl
  | [x], _ => rfl
  | x :: y :: r, h => by
    obtain ⟨h1, h2⟩ := List.pairwise_cons.mp h
    have ih := zip_desc h2
    show (decide (y ≤ x) && ((List.zip (y :: r) r).all fun p => decide (p.2 ≤ p.1))) = true
    rw [decide_eq_true (h1 y (List.mem_cons_self ..)), Bool.true_and]
    exact ih
theorem desc_zip : ∀ {ns : List Int}, ((List.zip ns (ns.drop 1)).all fun p => decide (p.2 ≤ p.1)) = true → ns.Pairwise (fun x y => y ≤ x)
  | [], _ => .nil
  | [x], _ => List.pairwise_singleton _ _
  | x :: y :: r, h => by
    have h' : (decide (y ≤ x) && ((List.zip (y :: r) r).all fun p => decide (p.2 ≤ p.1))) = true := h
    rw [Bool.and_eq_true, decide_eq_true_eq] at h'
    have ih : (y :: r).Pairwise (fun x y => y ≤ x) := desc_zip h'.2
    refine List.pairwise_cons.mpr ⟨fun z hz => ?_, ih⟩
    rcases List.mem_cons.mp hz with rfl | hz
    · exact h'.1
    · have := (List.pairwise_cons.mp ih).1 z hz
      omega
theorem Par.is {ns : List Int} {top : Nat} (h : Par ns top) (l : ns.length ≤ 200) (t : top ≤ 1000000) : isPt ns = true := by
  unfold isPt small
  rw [decide_eq_true l, zip_desc h.ds, Bool.true_and, Bool.and_true]
  refine List.all_eq_true.mpr fun x hx => ?_
  have h1 := h.lo x hx
  have h2 := h.hi x hx
  rw [decide_eq_true h1, decide_eq_true (by omega : x ≤ 1000000)]
  rfl
theorem isPt_par {ns : List Int} (h : isPt ns = true) : Par ns (ns.headD 0).toNat ∧ ns.length ≤ 200 ∧ ∀ x ∈ ns, x ≤ 1000000 := by
  unfold isPt small at h
  simp only [Bool.and_eq_true, decide_eq_true_eq, List.all_eq_true] at h
  obtain ⟨h1, h2, h3⟩ := h
  have ds := desc_zip (ns := ns) (List.all_eq_true.mpr fun p hp => by simpa using h3 p hp)
  refine ⟨⟨ds, fun x hx => (h2 x hx).1, fun x hx => ?_, ?_⟩, h1, fun x hx => (h2 x hx).2⟩
  · cases ns with
    | nil => cases hx
    | cons y r =>
      have := (h2 y (List.mem_cons_self ..)).1
      show x ≤ ((y.toNat : Nat) : Int)
      rcases List.mem_cons.mp hx with rfl | hx
      · omega
      · have := (List.pairwise_cons.mp ds).1 x hx
        omega
  · cases ns with
    | nil => rfl
    | cons y r =>
      have := (h2 y (List.mem_cons_self ..)).1
      show ((y.toNat : Nat) : Int) = y
      omega
/-! the numbers of partitions -/
def pnum : List Int := [1, 1, 2, 3, 5, 7, 11, 15, 22, 30, 42, 56, 77, 101, 135]
theorem pw_count : ∀ n, n < 15 → ((pw 15 n n).length : Int) = pnum.getD n 0 := by decide +kernel
end Pt

set_option Elab.async false
set_option linter.all false
set_option maxRecDepth 100000
set_option maxHeartbeats 4000000
/-! Franklin's exchange -/
namespace Fk
def gl (p : List Int) : Nat → Int := fun i => p.getD i 0
def mk (n : Nat) (g : Nat → Int) : List Int := (List.range n).map g
theorem mk_len (n : Nat) (g : Nat → Int) : (mk n g).length = n := by
  unfold mk
  rw [List.length_map, List.length_range]
theorem mk_get {n : Nat} {g : Nat → Int} {i : Nat} (h : i < n) : (mk n g)[i]? = some (g i) := by
  unfold mk
  rw [List.getElem?_map, List.getElem?_range h]
  rfl
theorem gl_mk {n : Nat} {g : Nat → Int} {i : Nat} (h : i < n) : gl (mk n g) i = g i := by
  unfold gl
  rw [List.getD_eq_getElem?_getD, mk_get h]
  rfl
theorem get_gl {p : List Int} {i : Nat} (h : i < p.length) : p[i]? = some (gl p i) := by
  unfold gl
  rw [List.getD_eq_getElem?_getD]
  simp [h]
theorem mk_self (p : List Int) : mk p.length (gl p) = p := by
  refine List.ext_getElem? fun i => ?_
  by_cases h : i < p.length
  · rw [mk_get h, get_gl h]
  · rw [List.getElem?_eq_none (by rw [mk_len]; omega), List.getElem?_eq_none (by omega)]
theorem mk_ext {n : Nat} {g h : Nat → Int} (e : ∀ i, i < n → g i = h i) : mk n g = mk n h := by
  unfold mk
  exact List.map_congr_left fun i hi => e i (List.mem_range.mp hi)
/-- the stairs that p begins with -/
structure IsSt (n : Nat) (g : Nat → Int) (m : Nat) : Prop where
  lo : 1 ≤ m
  hi : m ≤ n
  run : ∀ i, i < m → g i = g 0 - i
  stop : m < n → g m ≠ g 0 - m
theorem IsSt.uniq {n : Nat} {g : Nat → Int} {a b : Nat} (h : IsSt n g a) (k : IsSt n g b) : a = b := by
  rcases Nat.lt_trichotomy a b with z | z | z
  · exact absurd (k.run a z) (h.stop (by have := k.hi; omega))
  · exact z
  · exact absurd (h.run b z) (k.stop (by have := h.hi; omega))
def stG (n : Nat) (g : Nat → Int) : Nat → Nat → Nat
  | 0, m => m
  | f + 1, m => if m < n ∧ g m = g 0 - m then stG n g f (m + 1) else m
theorem stG_is {n : Nat} {g : Nat → Int} : ∀ f m, n ≤ f + m → 1 ≤ m → m ≤ n → (∀ i, i < m → g i = g 0 - i) → IsSt n g (stG n g f m)
  | 0, m, h, h1, h2, h3 => ⟨h1, h2, h3, fun z => by
    have : m < n := z
    omega⟩
  | f + 1, m, h, h1, h2, h3 => by
    unfold stG
    by_cases c : m < n ∧ g m = g 0 - m
    · rw [if_pos c]
      refine stG_is f (m + 1) (by omega) (by omega) (by omega) fun i hi => ?_
      by_cases e : i = m
      · rw [e]
        exact c.2
      · exact h3 i (by omega)
    · rw [if_neg c]
      exact ⟨h1, h2, h3, fun z q => c ⟨z, q⟩⟩
def stair (n : Nat) (g : Nat → Int) : Nat := stG n g n 1
theorem stair_is {n : Nat} {g : Nat → Int} (h : 1 ≤ n) : IsSt n g (stair n g) := stG_is n 1 (by omega) (Nat.le_refl _) h fun i hi => by
  have e : i = 0 := by omega
  subst e
  show g 0 = g 0 - ((0 : Nat) : Int)
  omega
def caseA (n m : Nat) (l : Int) : Bool := decide (l ≤ m) && (decide (m < n) || decide (l < m))
def caseB (n m : Nat) (l : Int) : Bool := decide ((m : Int) < l) && (decide (m < n) || decide ((m : Int) + 1 < l))
def fA (l : Int) (g : Nat → Int) : Nat → Int := fun i => if (i : Int) < l then g i + 1 else g i
def fB (n m : Nat) (g : Nat → Int) : Nat → Int := fun i => if i < m then g i - 1 else if i < n then g i else m
def fk (p : List Int) : List Int :=
  if p.length = 0 then [] else
  if caseA p.length (stair p.length (gl p)) (gl p (p.length - 1)) then mk (p.length - 1) (fA (gl p (p.length - 1)) (gl p)) else
  if caseB p.length (stair p.length (gl p)) (gl p (p.length - 1)) then mk (p.length + 1) (fB p.length (stair p.length (gl p)) (gl p)) else p
/-- unlike parts, all positive -/
structure Ap (n : Nat) (g : Nat → Int) : Prop where
  ds : ∀ i, i + 1 < n → g (i + 1) < g i
  ps : ∀ i, i < n → 1 ≤ g i
theorem Ap.far {n : Nat} {g : Nat → Int} (h : Ap n g) (i : Nat) : ∀ k, i + k < n → g (i + k) + k ≤ g i
  | 0, _ => by
    show g i + ((0 : Nat) : Int) ≤ g i
    omega
  | k + 1, hk => by
    have h1 := h.far i k (by omega)
    have h2 := h.ds (i + k) (by omega)
    have e : i + (k + 1) = i + k + 1 := by omega
    rw [e]
    omega
theorem Ap.lt {n : Nat} {g : Nat → Int} (h : Ap n g) {i j : Nat} (hij : i < j) (hj : j < n) : g j + (j - i : Nat) ≤ g i := by
  have := h.far i (j - i) (by omega)
  rwa [show i + (j - i) = j by omega] at this
theorem Ap.congr {n : Nat} {g h : Nat → Int} (a : Ap n g) (e : ∀ i, i < n → g i = h i) : Ap n h :=
  ⟨fun i hi => by
    have := a.ds i hi
    rw [e i (by omega), e (i + 1) hi] at this
    exact this, fun i hi => by
    have := a.ps i hi
    rw [e i hi] at this
    exact this⟩
theorem IsSt.congr {n : Nat} {g h : Nat → Int} {m : Nat} (a : IsSt n g m) (e : ∀ i, i < n → g i = h i) : IsSt n h m := by
  have h1 := a.lo
  have h2 := a.hi
  refine ⟨h1, h2, fun i hi => ?_, fun z => ?_⟩
  · have := a.run i hi
    rw [e i (by omega), e 0 (by omega)] at this
    exact this
  · have := a.stop z
    rw [e m z, e 0 (by omega)] at this
    exact this
section
variable {n m : Nat} {g : Nat → Int} {l : Int}
/-- the first case: what comes of it -/
theorem okA (a : Ap n g) (s : IsSt n g m) (c : caseA n m (g (n - 1)) = true) : ∃ k : Nat, g (n - 1) = (k : Int) ∧ 1 ≤ k ∧ k ≤ m ∧ k + 1 ≤ n ∧ Ap (n - 1) (fA (g (n - 1)) g) ∧ IsSt (n - 1) (fA (g (n - 1)) g) k ∧ caseA (n - 1) k (fA (g (n - 1)) g (n - 2)) = false ∧ caseB (n - 1) k (fA (g (n - 1)) g (n - 2)) = true := by
  unfold caseA at c
  simp only [Bool.and_eq_true, Bool.or_eq_true, decide_eq_true_eq] at c
  have s1 := s.lo
  have s2 := s.hi
  have p1 := a.ps (n - 1) (by omega)
  obtain ⟨k, hk⟩ : ∃ k : Nat, g (n - 1) = (k : Int) := ⟨(g (n - 1)).toNat, by omega⟩
  rw [hk] at c p1 ⊢
  have k1 : 1 ≤ k := by omega
  have k2 : k ≤ m := by omega
  have k3 : k + 1 ≤ n := by omega
  have e : ∀ i, fA (k : Int) g i = if i < k then g i + 1 else g i := fun i => by
    unfold fA
    by_cases z : i < k
    · rw [if_pos z, if_pos (by omega)]
    · rw [if_neg z, if_neg (by omega)]
  have st : IsSt (n - 1) (fA (k : Int) g) k := by
    refine ⟨k1, by omega, fun i hi => ?_, fun z => ?_⟩
    · rw [e, e, if_pos hi, if_pos (by omega)]
      have := s.run i (by omega)
      omega
    · rw [e, e, if_neg (Nat.lt_irrefl _), if_pos (by omega)]
      have h1 := a.lt (i := 0) (j := k) (by omega) (by omega)
      omega
  have ap : Ap (n - 1) (fA (k : Int) g) := by
    refine ⟨fun i hi => ?_, fun i hi => ?_⟩
    · have := a.ds i (by omega)
      rw [e, e]
      split <;> split <;> omega
    · have := a.ps i (by omega)
      rw [e]
      split <;> omega
  have lst : (k : Int) < fA (k : Int) g (n - 2) ∧ (k < n - 1 ∨ (k : Int) + 1 < fA (k : Int) g (n - 2)) := by
    have h1 := a.ds (n - 2) (by omega)
    rw [show n - 2 + 1 = n - 1 by omega, hk] at h1
    rw [e]
    split <;> omega
  refine ⟨k, rfl, k1, k2, k3, ap, st, ?_, ?_⟩
  · unfold caseA
    rw [decide_eq_false (by omega : ¬ fA (k : Int) g (n - 2) ≤ (k : Int))]
    rfl
  · unfold caseB
    rw [decide_eq_true lst.1, Bool.true_and]
    rcases lst.2 with z | z
    · rw [decide_eq_true z, Bool.true_or]
    · rw [decide_eq_true z, Bool.or_true]
/-- the second case -/
theorem okB (a : Ap n g) (s : IsSt n g m) (c : caseB n m (g (n - 1)) = true) : Ap (n + 1) (fB n m g) ∧ (∃ m', IsSt (n + 1) (fB n m g) m' ∧ m ≤ m') ∧ fB n m g n = (m : Int) := by
  unfold caseB at c
  simp only [Bool.and_eq_true, Bool.or_eq_true, decide_eq_true_eq] at c
  have s1 := s.lo
  have s2 := s.hi
  have e : ∀ i, fB n m g i = if i < m then g i - 1 else if i < n then g i else (m : Int) := fun i => rfl
  have en : fB n m g n = (m : Int) := by rw [e, if_neg (by omega), if_neg (Nat.lt_irrefl _)]
  have big : ∀ i, i < n → (m : Int) < g i := fun i hi => by
    by_cases z : i = n - 1
    · rw [z]
      exact c.1
    · have := a.lt (i := i) (j := n - 1) (by omega) (by omega)
      omega
  have ap : Ap (n + 1) (fB n m g) := by
    refine ⟨fun i hi => ?_, fun i hi => ?_⟩
    · by_cases q : i + 1 = n
      · rw [q, en, e]
        have hb := big i (by omega)
        by_cases h1 : i < m
        · rw [if_pos h1]
          have hm : m = n := by omega
          have hi2 : i = n - 1 := by omega
          subst hi2
          omega
        · rw [if_neg h1, if_pos (by omega)]
          exact hb
      · have hd := a.ds i (by omega)
        rw [e, e]
        by_cases h2 : i + 1 < m
        · rw [if_pos h2, if_pos (by omega)]
          omega
        · rw [if_neg h2, if_pos (by omega)]
          by_cases h1 : i < m
          · rw [if_pos h1]
            have hm : m = i + 1 := by omega
            have r1 := s.run i h1
            have r2 := s.stop (by omega)
            rw [hm] at r2
            omega
          · rw [if_neg h1, if_pos (by omega)]
            exact hd
    · rw [e]
      by_cases h1 : i < m
      · rw [if_pos h1]
        have := big i (by omega)
        omega
      · rw [if_neg h1]
        by_cases h2 : i < n
        · rw [if_pos h2]
          exact a.ps i h2
        · rw [if_neg h2]
          omega
  refine ⟨ap, ⟨stair (n + 1) (fB n m g), stair_is (by omega), ?_⟩, en⟩
  have S := stair_is (n := n + 1) (g := fB n m g) (by omega)
  obtain ⟨t, et⟩ : ∃ t, t = stair (n + 1) (fB n m g) := ⟨_, rfl⟩
  rw [← et] at S ⊢
  refine Nat.le_of_not_lt fun z => ?_
  refine S.stop (by omega) ?_
  rw [e, e, if_pos z, if_pos (by omega)]
  have := s.run t z
  omega
end
theorem fk_nil : fk [] = [] := rfl
theorem len_ne {p : List Int} (h : p ≠ []) : 1 ≤ p.length := List.length_pos_iff.mpr h
theorem st_mk {n m : Nat} {g : Nat → Int} (s : IsSt n g m) (h : 1 ≤ n) : stair n (gl (mk n g)) = m :=
  (stair_is h).uniq (s.congr fun i hi => (gl_mk hi).symm)
/-- twice is itself -/
theorem fk_fk {p : List Int} (a : Ap p.length (gl p)) : fk (fk p) = p := by
  by_cases p0 : p = []
  · subst p0
    rfl
  have n1 := len_ne p0
  obtain ⟨n, en⟩ : ∃ n, n = p.length := ⟨_, rfl⟩
  obtain ⟨g, eg⟩ : ∃ g, g = gl p := ⟨_, rfl⟩
  have s := stair_is (n := p.length) (g := gl p) n1
  obtain ⟨m, em⟩ : ∃ m, m = stair p.length (gl p) := ⟨_, rfl⟩
  have ep : p = mk n g := by rw [en, eg, mk_self]
  have e0 : fk p = if caseA n m (g (n - 1)) then mk (n - 1) (fA (g (n - 1)) g) else if caseB n m (g (n - 1)) then mk (n + 1) (fB n m g) else p := by
    unfold fk
    rw [if_neg (by omega), ← em, ← en, ← eg]
  rw [← em] at s
  rw [← en, ← eg] at s a
  rw [← en] at n1
  by_cases cA : caseA n m (g (n - 1)) = true
  · obtain ⟨k, hk, k1, k2, k3, ap, st, h1, h2⟩ := okA a s cA
    rw [e0, if_pos cA]
    unfold fk
    rw [mk_len, if_neg (by omega), st_mk st (by omega), gl_mk (by omega), show n - 1 - 1 = n - 2 by omega, if_neg (by rw [h1]; exact Bool.false_ne_true), if_pos h2]
    rw [show n - 1 + 1 = n by omega, ep]
    refine mk_ext fun i hi => ?_
    unfold fB
    by_cases z : i < k
    · rw [if_pos z, gl_mk (by omega)]
      unfold fA
      rw [if_pos (by omega)]
      omega
    · rw [if_neg z]
      by_cases z2 : i < n - 1
      · rw [if_pos z2, gl_mk z2]
        unfold fA
        rw [if_neg (by omega)]
      · rw [if_neg z2, show i = n - 1 by omega, hk]
  · by_cases cB : caseB n m (g (n - 1)) = true
    · obtain ⟨ap, ⟨m', st, hm⟩, hl⟩ := okB a s cB
      have s1 := s.lo
      have s2 := s.hi
      have t2 := st.hi
      rw [e0, if_neg cA, if_pos cB]
      unfold fk
      rw [mk_len, if_neg (by omega), st_mk st (by omega), gl_mk (by omega), show n + 1 - 1 = n by omega, hl]
      have cA' : caseA (n + 1) m' (m : Int) = true := by
        unfold caseA
        rw [decide_eq_true (by omega : (m : Int) ≤ (m' : Int)), Bool.true_and]
        by_cases z : m' < n + 1
        · rw [decide_eq_true z, Bool.true_or]
        · rw [decide_eq_true (by omega : (m : Int) < (m' : Int)), Bool.or_true]
      rw [if_pos cA', ep]
      refine mk_ext fun i hi => ?_
      unfold fA
      by_cases z : i < m
      · rw [if_pos (by omega), gl_mk (by omega)]
        unfold fB
        rw [if_pos z]
        omega
      · rw [if_neg (by omega), gl_mk (by omega)]
        unfold fB
        rw [if_neg z, if_pos hi]
    · have e1 : fk p = p := by rw [e0, if_neg cA, if_neg cB]
      rw [e1, e1]
/-- what comes of it is of unlike parts again -/
theorem fk_ap {p : List Int} (a : Ap p.length (gl p)) : Ap (fk p).length (gl (fk p)) ∧ (fk p).length ≤ p.length + 1 ∧ ∀ x ∈ fk p, ∀ b : Int, (∀ y ∈ p, y ≤ b) → (p.length : Int) ≤ b → x ≤ b + 1 := by
  by_cases p0 : p = []
  · subst p0
    exact ⟨a, by decide, fun x hx => by cases hx⟩
  have n1 := len_ne p0
  have s := stair_is (n := p.length) (g := gl p) n1
  have hm : ∀ i, i < p.length → gl p i ∈ p := fun i hi => List.mem_of_getElem? (get_gl hi)
  have e0 : fk p = if caseA p.length (stair p.length (gl p)) (gl p (p.length - 1)) then mk (p.length - 1) (fA (gl p (p.length - 1)) (gl p)) else if caseB p.length (stair p.length (gl p)) (gl p (p.length - 1)) then mk (p.length + 1) (fB p.length (stair p.length (gl p)) (gl p)) else p := by
    conv => lhs; unfold fk
    rw [if_neg (by omega)]
  rw [e0]
  by_cases cA : caseA p.length (stair p.length (gl p)) (gl p (p.length - 1)) = true
  · obtain ⟨k, hk, k1, k2, k3, ap, st, h1, h2⟩ := okA a s cA
    rw [if_pos cA, mk_len]
    refine ⟨ap.congr fun i hi => (gl_mk hi).symm, by omega, fun x hx b hb _ => ?_⟩
    obtain ⟨i, hi, rfl⟩ := List.mem_map.mp hx
    have := hb _ (hm i (by have := List.mem_range.mp hi; omega))
    unfold fA
    split <;> omega
  · rw [if_neg cA]
    by_cases cB : caseB p.length (stair p.length (gl p)) (gl p (p.length - 1)) = true
    · obtain ⟨ap, ⟨m', st, hm2⟩, hl⟩ := okB a s cB
      rw [if_pos cB, mk_len]
      refine ⟨ap.congr fun i hi => (gl_mk hi).symm, by omega, fun x hx b hb hn => ?_⟩
      obtain ⟨i, hi, rfl⟩ := List.mem_map.mp hx
      have s2 := s.hi
      unfold fB
      by_cases z : i < stair p.length (gl p)
      · rw [if_pos z]
        have := hb _ (hm i (by omega))
        omega
      · rw [if_neg z]
        by_cases z2 : i < p.length
        · rw [if_pos z2]
          have := hb _ (hm i z2)
          omega
        · rw [if_neg z2]
          omega
    · rw [if_neg cB]
      exact ⟨a, by omega, fun x hx b hb _ => by have := hb x hx; omega⟩
/-! all partitions with unlike parts -/
def uw : Nat → Nat → Nat → List (List Int)
  | 0, _, _ => []
  | f + 1, n, g => if n = 0 then [[]] else ((List.range (min n g)).map fun i => (uw f (n - (min n g - i)) (min n g - i - 1)).map fun r => (((min n g - i : Nat) : Int)) :: r).flatten
def uwJ (f n g j : Nat) : List (List Int) := ((List.range j).map fun i => (uw f (n - (min n g - i)) (min n g - i - 1)).map fun r => (((min n g - i : Nat) : Int)) :: r).flatten
theorem uwJ_succ (f n g j : Nat) : uwJ f n g (j + 1) = uwJ f n g j ++ (uw f (n - (min n g - j)) (min n g - j - 1)).map fun r => (((min n g - j : Nat) : Int)) :: r := by
  unfold uwJ
  rw [List.range_succ, List.map_append, List.flatten_append]
  simp
theorem uw_zero (f g : Nat) : uw (f + 1) 0 g = [[]] := by
  unfold uw
  rw [if_pos rfl]
theorem uw_pos {f n g : Nat} (h : n ≠ 0) : uw (f + 1) n g = uwJ f n g (min n g) := by
  conv => lhs; unfold uw
  rw [if_neg h]
  rfl
theorem uw_len : ∀ (f n g : Nat) (ns : List Int), ns ∈ uw f n g → ns.length ≤ n
  | 0, n, g, ns, h => by cases h
  | f + 1, n, g, ns, h => by
    by_cases z : n = 0
    · subst z
      rw [uw_zero] at h
      rw [List.mem_singleton.mp h]
      exact Nat.zero_le _
    · rw [uw_pos z] at h
      unfold uwJ at h
      obtain ⟨l, hl, hns⟩ := List.mem_flatten.mp h
      obtain ⟨i, hi, rfl⟩ := List.mem_map.mp hl
      obtain ⟨r, hr, rfl⟩ := List.mem_map.mp hns
      have hi' := List.mem_range.mp hi
      have := uw_len f _ _ r hr
      rw [List.length_cons]
      omega
/-- descending ranges: the ones left alone -/
def alone1 (k : Nat) : List Int := mk k fun i => 2 * (k : Int) - 1 - i
def alone2 (k : Nat) : List Int := mk k fun i => 2 * (k : Int) - i
def isAlone (p : List Int) : Bool := decide (p = alone1 p.length) || decide (p = alone2 p.length) || decide (p = [])
def apB (p : List Int) : Bool := ((List.range (p.length - 1)).all fun i => decide (gl p (i + 1) < gl p i)) && p.all fun x => decide (1 ≤ x) && decide (x ≤ 100)
theorem apB_ok {p : List Int} (h : apB p = true) : Ap p.length (gl p) ∧ ∀ x ∈ p, x ≤ 100 := by
  unfold apB at h
  simp only [Bool.and_eq_true, List.all_eq_true, decide_eq_true_eq] at h
  refine ⟨⟨fun i hi => h.1 i (List.mem_range.mpr (by omega)), fun i hi => (h.2 _ (List.mem_of_getElem? (get_gl hi))).1⟩, fun x hx => (h.2 x hx).2⟩
/-- what the law asks of one of n -/
def fine (n : Nat) (p : List Int) : Bool := apB p && (decide ((fk p).sum = (n : Int)) && (decide (decide (fk p = p) = isAlone p) && (decide (fk p = p) || decide (((fk p).length + p.length) % 2 ≠ 0))))
def bal (ps : List (List Int)) : Int := (ps.map fun p => if p.length % 2 = 0 then (1 : Int) else -1).sum
theorem fine_all : ∀ n, n < 31 → (uw 31 n n).all (fine n) = true := by decide +kernel
theorem alone_fk : ∀ k, k < 31 → fk (alone1 k) = alone1 k ∧ fk (alone2 k) = alone2 k := by decide +kernel
theorem uw_short : ∀ n, n < 31 → (uw 31 n n).length ≤ 300 := by decide +kernel
end Fk

set_option Elab.async false
set_option linter.all false
set_option maxRecDepth 100000
set_option maxHeartbeats 4000000
set_option pp.maxSteps 3000
namespace Fk
theorem resA {p : List Int} {k : Nat} (h : k ≤ p.length - 1) : ((p.take (p.length - 1)).take k).map (fun x => x + 1) ++ (p.take (p.length - 1)).drop k = mk (p.length - 1) (fA (k : Int) (gl p)) := by
  refine List.ext_getElem? fun i => ?_
  by_cases hi : i < p.length - 1
  · rw [mk_get hi]
    unfold fA
    by_cases c : i < k
    · rw [List.getElem?_append_left (by rw [List.length_map, List.length_take, List.length_take]; omega), List.getElem?_map, List.getElem?_take, if_pos c, List.getElem?_take, if_pos hi, get_gl (by omega), if_pos (by omega)]
      rfl
    · rw [List.getElem?_append_right (by rw [List.length_map, List.length_take, List.length_take]; omega), List.length_map, List.length_take, List.length_take, List.getElem?_drop, List.getElem?_take, if_pos (by omega), if_neg (by omega)]
      rw [show k + (i - min k (min (p.length - 1) p.length)) = i by omega, get_gl (by omega)]
  · have e1 : (((p.take (p.length - 1)).take k).map (fun x => x + 1) ++ (p.take (p.length - 1)).drop k)[i]? = none := List.getElem?_eq_none (by
      rw [List.length_append, List.length_map, List.length_take, List.length_take, List.length_drop, List.length_take]
      omega)
    rw [e1, List.getElem?_eq_none (by rw [mk_len]; omega)]
theorem resB {p : List Int} {m : Nat} (h : m ≤ p.length) : (p.take m).map (fun x => x - 1) ++ p.drop m ++ [(m : Int)] = mk (p.length + 1) (fB p.length m (gl p)) := by
  refine List.ext_getElem? fun i => ?_
  by_cases hi : i < p.length + 1
  · rw [mk_get hi]
    unfold fB
    by_cases c : i < m
    · rw [List.getElem?_append_left (by rw [List.length_append, List.length_map, List.length_take, List.length_drop]; omega), List.getElem?_append_left (by rw [List.length_map, List.length_take]; omega), List.getElem?_map, List.getElem?_take, if_pos c, get_gl (by omega), if_pos c]
      rfl
    · rw [if_neg c]
      by_cases d : i < p.length
      · rw [List.getElem?_append_left (by rw [List.length_append, List.length_map, List.length_take, List.length_drop]; omega), List.getElem?_append_right (by rw [List.length_map, List.length_take]; omega), List.length_map, List.length_take, List.getElem?_drop, if_pos d]
        rw [show m + (i - min m p.length) = i by omega, get_gl d]
      · rw [List.getElem?_append_right (by rw [List.length_append, List.length_map, List.length_take, List.length_drop]; omega), List.length_append, List.length_map, List.length_take, List.length_drop, if_neg d]
        rw [show i - (min m p.length + (p.length - m)) = 0 by omega]
        rfl
  · have e1 : ((p.take m).map (fun x => x - 1) ++ p.drop m ++ [(m : Int)])[i]? = none := List.getElem?_eq_none (by
      rw [List.length_append, List.length_append, List.length_map, List.length_take, List.length_drop, List.length_singleton]
      omega)
    rw [e1, List.getElem?_eq_none (by rw [mk_len]; omega)]
/-- the law's own words for both cases -/
theorem lawA {p : List Int} {k : Nat} : mk (p.length - 1) (fun i => if (i : Int) < (k : Int) then gl p i + 1 else gl p i) = mk (p.length - 1) (fA (k : Int) (gl p)) := rfl
theorem st_eq {n m : Nat} {g : Nat → Int} (h : IsSt n g m) : stair n g = m := (stair_is (by have := h.lo; have := h.hi; omega)).uniq h
theorem fk_st {p : List Int} {m : Nat} (h : IsSt p.length (gl p) m) : fk p = if caseA p.length m (gl p (p.length - 1)) then mk (p.length - 1) (fA (gl p (p.length - 1)) (gl p)) else if caseB p.length m (gl p (p.length - 1)) then mk (p.length + 1) (fB p.length m (gl p)) else p := by
  have h1 := h.lo
  have h2 := h.hi
  unfold fk
  rw [if_neg (by omega), st_eq h]
end Fk
namespace Gn
open PySem PySem.Spec PyProof.Rows L2 Dr Xv LamX Ps
theorem cut_whole {α : Type} {xs : List α} {lo hi : Option Int} (h : HT.sIx xs.length 0 lo = 0 ∧ HT.sIx xs.length xs.length hi = xs.length) : (xs.drop (HT.sIx xs.length 0 lo)).take (HT.sIx xs.length xs.length hi - HT.sIx xs.length 0 lo) = xs := by
  rw [h.1, h.2, List.drop_zero, Nat.sub_zero, List.take_length]
theorem slA {K : PySem.W.Frag} {H : Hp} {a : Addr} {xs : List V} {lo hi : Option Int} {G : VK} (e : H a = some (.tup xs)) (h : ∀ b H', Same H H' → H' b = some (.tup (cutV xs lo hi)) → G (.ref b) H') : rSlA K (.ref a) lo hi H G :=
  ⟨a, xs, rfl, SqT.of e, fun w => h a H (fun _ _ q => q) (by
    rw [e]
    congr 2
    unfold cutV
    exact (cut_whole w).symm), fun _ p hp => h p _ (same_new hp) upd_same⟩
theorem catT {K : PySem.W.Frag} {H : Hp} {a b : Addr} {xs ys : List V} {G : VK} (e1 : H a = some (.tup xs)) (e2 : H b = some (.tup ys)) (n0 : xs ≠ []) (hl : xs.length + ys.length ≤ 100000) (h : ∀ c H', Same H H' → H' c = some (.tup (xs ++ ys)) → G (.ref c) H') : rCatT K (.ref a) (.ref b) H G := by
  refine ⟨a, b, xs, ys, rfl, rfl, SqT.of e1, SqT.of e2, n0, by rw [sizeLine_eq]; omega, fun z => h a H (fun _ _ q => q) (by rw [e1, z, List.append_nil]), fun _ p hp => h p _ (same_new hp) upd_same⟩
theorem cut_last (ns : List Int) : cutV (ns.map V.int) none (some (-1)) = (ns.take (ns.length - 1)).map V.int := by
  unfold cutV
  have e : HT.sIx (ns.map V.int).length (ns.map V.int).length (some (-1)) = ns.length - 1 := by
    rw [List.length_map]
    unfold HT.sIx
    simp
    omega
  rw [HT.sIx_none, e, Nat.sub_zero, List.drop_zero, List.map_take]
theorem at_gl {ns : List Int} {i : Nat} (h : i < ns.length) : atI (ns.map V.int) (i : Int) = some (.int (Fk.gl ns i)) := atI_nat (by
  rw [List.getElem?_map, Fk.get_gl h]
  rfl)
theorem at_last {ns : List Int} (h : 1 ≤ ns.length) : atI (ns.map V.int) (-1) = some (.int (Fk.gl ns (ns.length - 1))) := by
  unfold atI ixN
  rw [if_neg (by decide), List.length_map]
  rw [if_pos (by omega)]
  show (ns.map V.int)[(-1 + (ns.length : Int)).toNat]? = _
  rw [show (-1 + (ns.length : Int)).toNat = ns.length - 1 by omega, List.getElem?_map, Fk.get_gl (by omega)]
  rfl
end Gn

set_option Elab.async false
set_option linter.all false
set_option maxRecDepth 100000
set_option maxHeartbeats 4000000
set_option pp.deepTerms false
set_option pp.maxSteps 3000
namespace Dr
open PySem PySem.Spec PyProof.Rows L2
def top (i : Nat) : Stmt := PySem.Challenge.pw_etasure_k81_whole_franklins_exchange.main.body.getD i (.Pass ⟨0, 0, 0, 0⟩)
abbrev sBegun : Stmt := top 15
abbrev sBlend : Stmt := top 16
abbrev sTake : Stmt := top 17
abbrev sPick : Stmt := top 18
section
variable {P : Program} {w : World} {K : PySem.W.Frag} {mg : Str → Option Value} {base : Heap} {f fB fT : Addr} {fd fdB fdT : FuncData}
theorem scBegun : FnScope ["script", "large", "cell"] ["script"] (defScope sBegun) := ⟨rfl, rfl, rfl, by decide +kernel, rfl, by decide +kernel, by decide +kernel⟩
theorem ok_begun (F : FnP K "_law_begun" sBegun f fd) (abs0 : mg "abs" = none) : FnOk P w K mg base CX0 1 f fd ["script"] (spBegun K) := by
  refine F.ok scBegun (fun vs H Q E h => ?_) (fun cdv A outer s H vs Q E hr h => ?_)
  · obtain ⟨a, ns, rfl, _⟩ := h
    rfl
  · obtain ⟨a, ns, rfl, hS, hlen, k⟩ := h
    refine ⟨_, PSs.nox (pss_cons (ps_setLc (i := 1) (own := [("cell", 2)]) (g := gName 2) rfl scBegun.nd rfl rfl (sw_true rfl rfl rfl (by decide +kernel)) (pi_list (pv 0)) (blkOk_by (own := [("cell", 2)]) (N := ["script", "large", "cell"]) (sc := defScope sBegun) (by decide +kernel))
        (fun _ _ _ _ _ => pg_name (i := 2) scBegun.nd rfl (Or.inl rfl)) (fun _ _ _ _ _ => pts_one (pt_cmpR op_ge (pe_callB call_abs (by rfl) abs0 boot_abs (pa_cons (pv 2) pa_nil)) (pe_op op_pow pe_int pe_int) (nomark _)))
        (fun _ _ _ _ _ => pe_op op_sub (pe_callB call_abs (by rfl) abs0 boot_abs (pa_cons (pv 2) pa_nil)) (pe_op op_pow pe_int pe_int)))
      (pss_one (ps_ret (pe_disp (pps_cons pe_str (pv 1) (pps_cons pe_str (pe_lc (own := [("cell", 2)]) (g := gName 2) rfl scBegun.nd (pi_list (pv 0)) (blkOk_by (own := [("cell", 2)]) (N := ["script", "large", "cell"]) (sc := defScope sBegun) (by decide +kernel))
        (fun _ _ _ _ _ => pg_name (i := 2) scBegun.nd rfl (Or.inl rfl)) (fun _ _ _ _ _ => pts_nil) (fun _ _ _ _ _ => pe_callB call_abs (by rfl) abs0 boot_abs (pa_cons (pv 2) pa_nil)))
        (pps_cons pe_str pe_int (pps_cons pe_str pe_int pps_nil)))) (by rfl) (by rfl) (fun z => by cases z) (by decide))))), ?_⟩
    refine ⟨_, rfl, a, rfl, ⟨_, hS⟩, fun D hD => lc_list (K := K) (a := a) (xs := ns.map V.int) (fun i H' => ∃ out : List Int, H' D = some (.lst (out.map V.int)) ∧ out.length ≤ i ∧ Same H H')
      ⟨[], upd_same, Nat.le_refl _, same_new hD⟩ (fun i H' _ ⟨_, _, _, s⟩ => s.seq hS) ?_ ?_⟩
    · rintro i x H' hi ⟨out, h1, h2, s⟩
      obtain ⟨z, hz, rfl⟩ := int_at hi
      have hlt : i < ns.length := by
        by_cases q : i < ns.length
        · exact q
        · rw [List.getElem?_eq_none (by omega)] at hz
          cases hz
      refine ⟨rfl, _, rfl, _, rfl, _, _, rfl, rfl, ⟨by decide, by decide, by decide⟩, _, _, rfl, rfl, _, rfl, ?_⟩
      refine ite2 (fun _ => ?_) (fun _ => ?_)
      · refine ⟨_, rfl, _, rfl, _, _, rfl, rfl, ⟨by decide, by decide, by decide⟩, _, _, rfl, rfl, _, h1, ?_, ?_⟩
        · rw [List.length_map]
          exact small1000 (by omega)
        · exact ⟨out ++ [(if z < 0 then -z else z) - 10 ^ (18 : Int).toNat], by rw [upd_same, List.map_append]; rfl, by rw [List.length_append]; show out.length + 1 ≤ i + 1; omega, fun b o e => by rw [upd_ne (ne_of_none e hD)]; exact s b o e⟩
      · exact ⟨out, h1, by omega, s⟩
    · rintro H1 ⟨out, h1, h2, s⟩
      intro p hp
      refine ⟨_, rfl, _, rfl, a, rfl, ⟨ns.map V.int, ?_⟩, fun D2 hD2 => lc_list (K := K) (a := a) (xs := ns.map V.int) (fun i H' => ∃ out : List Int, H' D2 = some (.lst (out.map V.int)) ∧ out.length ≤ i ∧ Same (upd H1 p (.dK [])) H')
        ⟨[], upd_same, Nat.le_refl _, same_new hD2⟩ (fun i H' _ ⟨_, _, _, s2⟩ => (s.trans ((same_new hp).trans s2)).seq hS) ?_ ?_⟩
      · exact ((same_new hp).seq (s.seq hS))
      · rintro i x H' hi ⟨out2, g1, g2, s2⟩
        obtain ⟨z, hz, rfl⟩ := int_at hi
        have hlt : i < ns.length := by
          by_cases q : i < ns.length
          · exact q
          · rw [List.getElem?_eq_none (by omega)] at hz
            cases hz
        refine ⟨rfl, yesT ?_⟩
        refine ⟨_, rfl, _, rfl, _, g1, ?_, ?_⟩
        · rw [List.length_map]
          exact small1000 (by omega)
        · exact ⟨out2 ++ [(if z < 0 then -z else z)], by rw [upd_same, List.map_append]; rfl, by rw [List.length_append]; show out2.length + 1 ≤ i + 1; omega, fun b o e => by rw [upd_ne (ne_of_none e hD2)]; exact s2 b o e⟩
      · rintro H2 ⟨out2, g1, g2, s2⟩
        have hp2 : H2 p = some (.dK []) := s2 _ _ upd_same
        refine ⟨hp2, drK D D2 0 0, rfl, (by show 4 ≤ 15; decide), ?_⟩
        have nD : D ≠ p := ne_of_none h1 hp
        have nD2 : D2 ≠ p := (ne_of_none upd_same hD2).symm
        have e1 : H2 D = some (.lst (out.map V.int)) := s2 _ _ (by rw [upd_ne nD]; exact h1)
        have nDD : D ≠ D2 := ne_of_none (o := .lst (out.map V.int)) (by rw [upd_ne nD]; exact h1) hD2
        have em : mergeK [] (drK D D2 0 0) = drK D D2 0 0 := merge_dr
        rw [em]
        refine k p D D2 _ (s.free hp) hD ((s.trans (same_new hp)).free hD2) (fun b o e => ?_) ⟨out, out2, 0, 0, upd_same, by rw [upd_ne nD]; exact e1, by rw [upd_ne nD2]; exact g1, nDD⟩
        have nb : b ≠ p := ne_of_none (s b o e) hp
        rw [upd_ne nb]
        exact s2 b o (by rw [upd_ne nb]; exact s b o e)
theorem scBlend : FnScope ["draw", "turn", "found", "prime", "stirred", "cell"] ["draw"] (defScope sBlend) := ⟨rfl, rfl, rfl, by decide +kernel, rfl, by decide +kernel, by decide +kernel⟩
theorem ok_blend (F : FnP K "_law_blend" sBlend f fd) (int0 : mg "int" = none) : FnOk P w K mg base CX0 1 f fd ["draw"] spBlend := by
  refine F.ok scBlend (fun vs H Q E h => ?_) (fun cdv A outer s H vs Q E hr h => ?_)
  · obtain ⟨d, l, c, ls, cs, r, t, rfl, _⟩ := h
    rfl
  · obtain ⟨d, l, c, ls, cs, r, t, rfl, D, k⟩ := h
    have hu := hu_of hr
    refine ⟨_, PSs.nox (pss_cons (ps_par (i := 1) (j := 2) (by rfl) scBlend.nd rfl rfl (by decide) rfl rfl (pa_cons (pe_op op_add (pe_dget hu (pv 0) pe_str (fun _ _ => rfl)) pe_int) (pa_cons pe_int pa_nil)) (by rfl))
      (pss_cons (ps_dput hu (pv 0) pe_str (pv 1) rfl)
      (pss_cons (ps_for PassesOwn.never rfl (pi_list (pe_lst (pa_cons pe_int (pa_cons pe_int (pa_cons pe_int pa_nil))))) (pg_name (i := 3) scBlend.nd rfl (Or.inl rfl))
        (pss_cons (ps_set (i := 4) scBlend.nd rfl (Or.inl rfl) (pe_op op_mod (pe_callTy call_int1 (by rfl) int0 boot_int (pa_cons (pe_op op_add (pe_op op_mul (pv 1) pe_int) (pe_op op_fdiv (pv 3) pe_int)) pa_nil)) (pv 3)))
        (pss_cons (ps_for PassesOwn.never rfl (pi_list (pe_dget hu (pv 0) pe_str (fun _ _ => rfl))) (pg_name (i := 5) scBlend.nd rfl (Or.inl rfl))
          (pss_one (ps_set (i := 4) scBlend.nd rfl (Or.inl rfl) (pe_op op_mod (pe_callTy call_int1 (by rfl) int0 boot_int (pa_cons (pe_op op_add (pe_op op_add (pe_op op_mul (pv 4) pe_int) (pe_callTy call_int1 (by rfl) int0 boot_int (pa_cons (pv 5) pa_nil))) pe_int) pa_nil)) (pv 3)))))
        (pss_one (ps_set (i := 2) scBlend.nd rfl (Or.inl rfl) (pe_op op_add (pe_op op_mul (pv 2) pe_int) (pe_op op_mod (pe_callTy call_int1 (by rfl) int0 boot_int (pa_cons (pe_op op_pow (pv 4) pe_int) pa_nil)) (pv 3))))))))
      (pss_one (ps_ret (pv 2)))))), ?_⟩
    refine ⟨_, rfl, d, _, rfl, D.gTurn, _, _, rfl, rfl, _, _, rfl, ?_⟩
    refine ⟨_, rfl, _, rfl, d, _, rfl, D.pTurn _, ?_⟩
    have D1 := D.turn (t + 1)
    refine ⟨(by show 3 ≤ sizeLine; decide), fun p hp => ?_⟩
    have D2 := D1.same (same_new (o := .lst ([2147483629, 2147483587, 2147483579].map V.int)) hp)
    refine ⟨p, rfl, ⟨[2147483629, 2147483587, 2147483579].map V.int, SqL.of upd_same⟩, for_list (K := K) (a := p) (xs := [2147483629, 2147483587, 2147483579].map V.int)
      (fun i σ H2 => ∃ (v : Int) (x3 x4 x5 : Option V), σ = [some (.ref d), some (.int (t + 1)), some (.int v), x3, x4, x5] ∧ H2 = upd (upd H d (.dK (drK l c r (t + 1)))) p (.lst ([2147483629, 2147483587, 2147483579].map V.int)))
      ⟨0, none, none, none, rfl, rfl⟩ (fun i σ H2 _ ⟨_, _, _, _, _, e⟩ => by rw [e]; exact SqL.of upd_same) ?_ ?_⟩
    · rintro i x σ H2 hi ⟨v, x3, x4, x5, rfl, rfl⟩
      obtain ⟨q, hq, rfl⟩ := int_at hi
      have hq2 : 0 < q ∧ q ≤ 2147483648 := by
        rcases i with _ | _ | _ | i
        · cases hq; exact ⟨by decide, by decide⟩
        · cases hq; exact ⟨by decide, by decide⟩
        · cases hq; exact ⟨by decide, by decide⟩
        · cases hq
      refine ⟨_, rfl, _, _, rfl, rfl, .inr ⟨by decide, by decide⟩, _, rfl, _, _, rfl, rfl, ⟨by decide, by decide⟩, _, _, rfl, rfl, .inl ⟨_, rfl, _, rfl, _, _, rfl, rfl, hq2.1, ?_⟩⟩
      refine ⟨_, rfl, d, _, rfl, D2.gCells, c, rfl, ⟨cs.map V.int, SqL.of D2.dc⟩, for_list (K := K) (a := c) (xs := cs.map V.int)
        (fun j σ H2 => ∃ (z : Int) (y5 : Option V), σ = [some (.ref d), some (.int (t + 1)), some (.int v), some (.int q), some (.int z), y5] ∧ 0 ≤ z ∧ z < q ∧ H2 = upd (upd H d (.dK (drK l c r (t + 1)))) p (.lst ([2147483629, 2147483587, 2147483579].map V.int)))
        ⟨_, x5, rfl, Int.emod_nonneg _ (by omega), Int.emod_lt_of_pos _ hq2.1, rfl⟩ (fun j σ H2 _ ⟨_, _, _, _, _, e⟩ => by rw [e]; exact SqL.of D2.dc) ?_ ?_⟩
      · rintro j x σ H2 hj ⟨z, y5, rfl, z0, z1, rfl⟩
        obtain ⟨u, hu2, rfl⟩ := int_at hj
        refine ⟨_, rfl, _, _, rfl, rfl, .inr ⟨by decide, by decide⟩, _, rfl, .inl ⟨_, rfl, _, _, rfl, rfl, _, _, rfl, rfl, .inl ⟨_, rfl, _, rfl, _, _, rfl, rfl, hq2.1, ?_⟩⟩⟩
        exact ⟨_, some (.int u), rfl, Int.emod_nonneg _ (by omega), Int.emod_lt_of_pos _ hq2.1, rfl⟩
      · rintro σ H2 ⟨z, y5, rfl, z0, z1, rfl⟩
        refine ⟨_, rfl, _, _, rfl, rfl, .inr ⟨by decide, by decide⟩, _, rfl, _, _, rfl, rfl, pow_small z0 z1 hq2.2, .inl ⟨_, rfl, _, rfl, _, _, rfl, rfl, hq2.1, _, _, rfl, rfl, ?_⟩⟩
        exact ⟨_, some (.int q), some (.int z), y5, rfl, rfl⟩
    · rintro σ H2 ⟨v, x3, x4, x5, rfl, rfl⟩
      exact ⟨_, rfl, k v (t + 1) _ D2 (sameX_d.trans (sameX_new hp))⟩
theorem scTake : FnScope ["draw", "size", "found"] ["draw", "size"] (defScope sTake) := ⟨rfl, rfl, rfl, by decide +kernel, rfl, by decide +kernel, by decide +kernel⟩
theorem ok_take (F : FnP K "_law_take" sTake f fd) (int0 : mg "int" = none) (FB : FnP K "_law_blend" sBlend fB fdB) (gB : mg "_law_blend" = some (.ref fB)) : FnOk P w K mg base CX0 2 f fd ["draw", "size"] spTake := by
  have GB : FnOk P w K mg base CX0 1 fB fdB ["draw"] spBlend := ok_blend FB int0
  have bB : Binds K fdB ["draw"] [] := FB.bindsN fun _ _ _ _ _ _ us hl => match us, hl with | [_], _ => rfl
  refine F.ok scTake (fun vs H Q E h => ?_) (fun cdv A outer s H vs Q E hr h => ?_)
  · obtain ⟨d, l, c, n, rfl, _⟩ := h
    rfl
  · obtain ⟨d, l, c, n, rfl, ⟨ls, cs, r, t, D⟩, n0, n1, k⟩ := h
    have hu := hu_of hr
    refine ⟨_, PSs.nox (pss_cons (ps_while PassesOwn.never (PW.pt (pw_and (pt_cmpR op_eq (pe_dget hu (pv 0) pe_str (fun _ _ => rfl)) pe_int (nomark _)) (pw_and1 (pt_cmpR (op_neD hr.units) (pe_dget hu (pv 0) pe_str (fun _ _ => rfl)) (pe_lst pa_nil) (nomark _)))))
        (pss_one (ps_dput hu (pv 0) pe_str (pe_bm PySem.F.plainAttrs_list PySem.F.slot_list_pop PySem.F.type_list_pop mt_popAt (pe_dget hu (pv 0) pe_str (fun _ _ => rfl)) (pa_cons pe_int pa_nil)) rfl)))
      (pss_cons (ps_if (pt_cmpR op_eq (pe_dget hu (pv 0) pe_str (fun _ _ => rfl)) pe_int (nomark _))
          (pss_one (ps_dput hu (pv 0) pe_str (pe_call GB hr rfl gB FB.kp bB .nil pass0 (pa_cons (pv 0) pa_nil)) rfl)) pss_nil)
      (pss_cons (ps_set (i := 2) scTake.nd rfl (Or.inl rfl) (pe_op op_mod (pe_callTy call_int1 (by rfl) int0 boot_int (pa_cons (pe_dget hu (pv 0) pe_str (fun _ _ => rfl)) pa_nil)) (pv 1)))
      (pss_cons (ps_dput hu (pv 0) pe_str (pe_op op_fdivW (pe_callTy call_int1 (by rfl) int0 boot_int (pa_cons (pe_dget hu (pv 0) pe_str (fun _ _ => rfl)) pa_nil)) (pv 1)) rfl)
      (pss_one (ps_ret (pv 2))))))), ?_⟩
    refine ⟨fun m σ H' => ∃ (ls' : List Int) (r' : Int), σ = [some (.ref d), some (.int n), none] ∧ DrawAt H' d l c ls' cs r' t ∧ SameX d l H H' ∧ m = ls'.length, ⟨_, ls, r, rfl, D, SameX.refl _ _ _, rfl⟩, ?_⟩
    rintro m σ H1 ⟨ls1, r1, rfl, D1, s1, rfl⟩
    refine ⟨_, rfl, d, _, rfl, D1.gRest, rfl, _, rfl, ?_⟩
    refine ite2 (fun e0 => ?_) (fun e0 => ?_)
    · refine ⟨_, rfl, d, _, rfl, D1.gLarge, ?_⟩
      refine ⟨(by show 0 ≤ sizeLine; decide), fun p hp => ?_⟩
      have D2 := D1.same (same_new (o := .lst []) hp)
      have s2 := s1.trans (sameX_new (o := .lst []) hp)
      refine ⟨.list (intsD ls1), .list [], .lst (SqL.of D2.dl) (ints_dp _), .lst (SqL.of upd_same) .nil, ints_shaped _, rfl, _, rfl, ?_⟩
      cases ls1 with
      | nil =>
        refine iteF ?_
        have D1 := D2
        have s1 := s2
        refine ⟨_, rfl, d, _, rfl, D1.gRest, rfl, _, rfl, ?_⟩
        refine ite2 (fun _ => ?_) (fun _ => ?_)
        · refine ⟨_, rfl, d, l, c, _, cs, _, t, rfl, D1, fun v t' H2 D2 s2 => ?_⟩
          have DD := D2.rest v
          have SS := (s1.trans s2).trans (sameX_d (o := .dK (drK l c v t')))
          refine ⟨_, rfl, d, _, rfl, D2.pRest v, ?_⟩
          refine ⟨_, rfl, d, _, rfl, DD.gRest, .inl ⟨_, rfl, _, rfl, _, _, rfl, rfl, n0, ?_⟩⟩
          refine ⟨_, rfl, d, _, rfl, DD.gRest, .inl ⟨_, rfl, _, rfl, _, _, rfl, rfl, ⟨n0, n1⟩, _, rfl, d, _, rfl, DD.pRest _, _, rfl, ?_⟩⟩
          exact k _ _ (Int.emod_nonneg _ (by omega)) (Int.emod_lt_of_pos _ n0) ⟨_, cs, _, _, DD.rest _⟩ (SS.trans sameX_d)
        · have DD := D1
          have SS := s1
          refine ⟨_, rfl, d, _, rfl, DD.gRest, .inl ⟨_, rfl, _, rfl, _, _, rfl, rfl, n0, ?_⟩⟩
          refine ⟨_, rfl, d, _, rfl, DD.gRest, .inl ⟨_, rfl, _, rfl, _, _, rfl, rfl, ⟨n0, n1⟩, _, rfl, d, _, rfl, DD.pRest _, _, rfl, ?_⟩⟩
          exact k _ _ (Int.emod_nonneg _ (by omega)) (Int.emod_lt_of_pos _ n0) ⟨_, cs, _, _, DD.rest _⟩ (SS.trans sameX_d)
      | cons z zs =>
        refine iteT ⟨_, fun σ' H' e => e, ?_⟩
        refine ⟨_, rfl, d, _, rfl, D2.gLarge, .inl ⟨rfl, _, SqL.of D2.dl⟩, ?_⟩
        refine ⟨l, _, _, 0, V.int z, rfl, rfl, D2.dl, by decide, by decide, pop_ix _, rfl, ?_⟩
        have D3 := D2.pop (ls' := zs)
        refine ⟨_, rfl, d, _, rfl, D3.pRest _, ?_⟩
        exact ⟨zs.length, Nat.lt_succ_self _, zs, z, rfl, D3.rest z, (s2.trans sameX_l).trans sameX_d, rfl⟩
    · refine iteF ?_
      refine ⟨_, rfl, d, _, rfl, D1.gRest, rfl, _, rfl, ?_⟩
      refine ite2 (fun _ => ?_) (fun _ => ?_)
      · refine ⟨_, rfl, d, l, c, _, cs, _, t, rfl, D1, fun v t' H2 D2 s2 => ?_⟩
        have DD := D2.rest v
        have SS := (s1.trans s2).trans (sameX_d (o := .dK (drK l c v t')))
        refine ⟨_, rfl, d, _, rfl, D2.pRest v, ?_⟩
        refine ⟨_, rfl, d, _, rfl, DD.gRest, .inl ⟨_, rfl, _, rfl, _, _, rfl, rfl, n0, ?_⟩⟩
        refine ⟨_, rfl, d, _, rfl, DD.gRest, .inl ⟨_, rfl, _, rfl, _, _, rfl, rfl, ⟨n0, n1⟩, _, rfl, d, _, rfl, DD.pRest _, _, rfl, ?_⟩⟩
        exact k _ _ (Int.emod_nonneg _ (by omega)) (Int.emod_lt_of_pos _ n0) ⟨_, cs, _, _, DD.rest _⟩ (SS.trans sameX_d)
      · have DD := D1
        have SS := s1
        refine ⟨_, rfl, d, _, rfl, DD.gRest, .inl ⟨_, rfl, _, rfl, _, _, rfl, rfl, n0, ?_⟩⟩
        refine ⟨_, rfl, d, _, rfl, DD.gRest, .inl ⟨_, rfl, _, rfl, _, _, rfl, rfl, ⟨n0, n1⟩, _, rfl, d, _, rfl, DD.pRest _, _, rfl, ?_⟩⟩
        exact k _ _ (Int.emod_nonneg _ (by omega)) (Int.emod_lt_of_pos _ n0) ⟨_, cs, _, _, DD.rest _⟩ (SS.trans sameX_d)
/-! ### _law_pick -/
theorem scPick : FnScope ["draw", "some"] ["draw", "some"] (defScope sPick) := ⟨rfl, rfl, rfl, by decide +kernel, rfl, by decide +kernel, by decide +kernel⟩
theorem ok_pick (F : FnP K "_law_pick" sPick f fd) (len0 : mg "len" = none) (GT : FnOk P w K mg base CX0 2 fT fdT ["draw", "size"] spTake) (bT : Binds K fdT ["draw", "size"] []) (gT : mg "_law_take" = some (.ref fT)) (kT : PySem.W.keepIn K (.ref fT) = true) :
    FnOk P w K mg base CX0 3 f fd ["draw", "some"] (spPick K) := by
  refine F.ok scPick (fun vs H Q E h => ?_) (fun cdv A outer s H vs Q E hr h => ?_)
  · obtain ⟨d, l, c, a, xs, rfl, _⟩ := h
    rfl
  · obtain ⟨d, l, c, a, xs, rfl, D, hA, hne, hlen, q⟩ := h
    refine ⟨_, PSs.nox (pss_one (ps_ret (pe_ix ix_list (pv 1) (pe_call GT hr rfl gT kT bT .nil pass0 (pa_cons (pv 0) (pa_cons (pe_callB call_len (by rfl) len0 PySem.boot_len (pa_cons (pv 1) pa_nil)) pa_nil))) (fun _ _ => rfl)))), ?_⟩
    have h0 : 0 < xs.length := List.length_pos_iff.mpr hne
    refine ⟨_, rfl, _, rfl, _, rfl, _, xs.length, rfl, .inl ⟨_, hA H (SameX.refl _ _ _), rfl⟩, d, l, c, _, rfl, D, by omega, log_small hlen, fun v H' v0 v1 D' s' => ?_⟩
    obtain ⟨i, rfl⟩ : ∃ i : Nat, v = (i : Int) := ⟨v.toNat, by omega⟩
    have hi : i < xs.length := by omega
    refine ⟨a, xs, _, xs[i], rfl, rfl, hA H' s', atI_nat (by simp [hi]), ?_⟩
    exact q _ _ (List.getElem_mem hi) D' s'
end
end Dr

set_option Elab.async false
set_option linter.all false
set_option maxRecDepth 100000
set_option maxHeartbeats 4000000
set_option pp.maxSteps 3000
set_option exponentiation.threshold 500000
namespace K81
open PySem PySem.Spec PyProof.Rows L2 Dr Xv LamX Ps Gn
abbrev s_is_number : Stmt := top 5
abbrev s_are_numbers : Stmt := top 6
abbrev s_is_number_tuple : Stmt := top 7
abbrev s_is_partition : Stmt := top 11
abbrev s_check_partition : Stmt := top 12
abbrev s_franklin : Stmt := top 13
abbrev s__law_begun : Stmt := top 15
abbrev s__law_blend : Stmt := top 16
abbrev s__law_take : Stmt := top 17
abbrev s__law_pick : Stmt := top 18
abbrev s__law_caught : Stmt := top 19
abbrev s__law_sigmas : Stmt := top 20
abbrev s__law_row : Stmt := top 21
abbrev s__law_unlike : Stmt := top 22
abbrev s__law_due : Stmt := top 23
abbrev s__law_is_alone : Stmt := top 24
abbrev s_law : Stmt := top 25
abbrev N_is_number : List Str := List.map Str.ofString ["thing"]
theorem sc_is_number : FnScope N_is_number ["thing"] (defScope s_is_number) := ⟨rfl, rfl, rfl, by decide +kernel, rfl, by decide +kernel, by decide +kernel⟩
abbrev N_are_numbers : List Str := List.map Str.ofString ["things", "thing"]
theorem sc_are_numbers : FnScope N_are_numbers ["things"] (defScope s_are_numbers) := ⟨rfl, rfl, rfl, by decide +kernel, rfl, by decide +kernel, by decide +kernel⟩
abbrev N_is_number_tuple : List Str := List.map Str.ofString ["thing"]
theorem sc_is_number_tuple : FnScope N_is_number_tuple ["thing"] (defScope s_is_number_tuple) := ⟨rfl, rfl, rfl, by decide +kernel, rfl, by decide +kernel, by decide +kernel⟩
abbrev N_is_partition : List Str := List.map Str.ofString ["thing", "part", "one", "other"]
theorem sc_is_partition : FnScope N_is_partition ["thing"] (defScope s_is_partition) := ⟨rfl, rfl, rfl, by decide +kernel, rfl, by decide +kernel, by decide +kernel⟩
abbrev N_check_partition : List Str := List.map Str.ofString ["partition"]
theorem sc_check_partition : FnScope N_check_partition ["partition"] (defScope s_check_partition) := ⟨rfl, rfl, rfl, by decide +kernel, rfl, by decide +kernel, by decide +kernel⟩
abbrev N_franklin : List Str := List.map Str.ofString ["partition", "last", "stairs", "is_outside", "rest", "one", "other", "part"]
theorem sc_franklin : FnScope N_franklin ["partition"] (defScope s_franklin) := ⟨rfl, rfl, rfl, by decide +kernel, rfl, by decide +kernel, by decide +kernel⟩
abbrev N__law_caught : List Str := List.map Str.ofString ["work", "caught", "error"]
theorem sc__law_caught : FnScope N__law_caught ["work"] (defScope s__law_caught) := ⟨rfl, rfl, rfl, by decide +kernel, rfl, by decide +kernel, by decide +kernel⟩
abbrev N__law_sigmas : List Str := List.map Str.ofString ["most", "found", "d", "n"]
theorem sc__law_sigmas : FnScope N__law_sigmas ["most"] (defScope s__law_sigmas) := ⟨rfl, rfl, rfl, by decide +kernel, rfl, by decide +kernel, by decide +kernel⟩
abbrev N__law_row : List Str := List.map Str.ofString ["quotient", "most", "sums", "weights", "d", "n", "found", "k"]
theorem sc__law_row : FnScope N__law_row ["quotient", "most"] (defScope s__law_row) := ⟨rfl, rfl, rfl, by decide +kernel, rfl, by decide +kernel, by decide +kernel⟩
abbrev N__law_unlike : List Str := List.map Str.ofString ["n", "first", "found", "part", "other"]
theorem sc__law_unlike : FnScope N__law_unlike ["n", "first"] (defScope s__law_unlike) := ⟨rfl, rfl, rfl, by decide +kernel, rfl, by decide +kernel, by decide +kernel⟩
abbrev N__law_due : List Str := List.map Str.ofString ["partition", "last", "many", "taken", "lowered", "k", "part"]
theorem sc__law_due : FnScope N__law_due ["partition"] (defScope s__law_due) := ⟨rfl, rfl, rfl, by decide +kernel, rfl, by decide +kernel, by decide +kernel⟩
abbrev N__law_is_alone : List Str := List.map Str.ofString ["partition", "k"]
theorem sc__law_is_alone : FnScope N__law_is_alone ["partition"] (defScope s__law_is_alone) := ⟨rfl, rfl, rfl, by decide +kernel, rfl, by decide +kernel, by decide +kernel⟩
abbrev N_law : List Str := List.map Str.ofString ["script", "draw", "lap", "n", "balance", "partition", "other", "drawn", "some", "k", "alone", "twice", "bad", "part"]
theorem sc_law : FnScope N_law ["script"] (defScope s_law) := ⟨rfl, rfl, rfl, by decide +kernel, rfl, by decide +kernel, by decide +kernel⟩
/-- what the top has left -/
structure Mod (P : Program) (w : World) (K : PySem.W.Frag) (mg : Str → Option Value) (base : Heap) : Type where
  (f_is_number f_are_numbers f_is_number_tuple f_is_partition f_check_partition f_franklin f__law_begun f__law_blend f__law_take f__law_pick f__law_caught f__law_sigmas f__law_row f__law_unlike f__law_due f__law_is_alone f_law : Addr)
  (d_is_number d_are_numbers d_is_number_tuple d_is_partition d_check_partition d_franklin d__law_begun d__law_blend d__law_take d__law_pick d__law_caught d__law_sigmas d__law_row d__law_unlike d__law_due d__law_is_alone d_law : FuncData)
  (a_SeriesError a_BadPartition a_NotApart : Addr)
  (t_MOST_PARTS t_GREATEST_PART : Tok)
  F_is_number : FnP K "is_number" s_is_number f_is_number d_is_number
  g_is_number : mg "is_number" = some (.ref f_is_number)
  F_are_numbers : FnP K "are_numbers" s_are_numbers f_are_numbers d_are_numbers
  g_are_numbers : mg "are_numbers" = some (.ref f_are_numbers)
  F_is_number_tuple : FnP K "is_number_tuple" s_is_number_tuple f_is_number_tuple d_is_number_tuple
  g_is_number_tuple : mg "is_number_tuple" = some (.ref f_is_number_tuple)
  F_is_partition : FnP K "is_partition" s_is_partition f_is_partition d_is_partition
  g_is_partition : mg "is_partition" = some (.ref f_is_partition)
  F_check_partition : FnP K "check_partition" s_check_partition f_check_partition d_check_partition
  g_check_partition : mg "check_partition" = some (.ref f_check_partition)
  F_franklin : FnP K "franklin" s_franklin f_franklin d_franklin
  g_franklin : mg "franklin" = some (.ref f_franklin)
  F__law_begun : FnP K "_law_begun" s__law_begun f__law_begun d__law_begun
  g__law_begun : mg "_law_begun" = some (.ref f__law_begun)
  F__law_blend : FnP K "_law_blend" s__law_blend f__law_blend d__law_blend
  g__law_blend : mg "_law_blend" = some (.ref f__law_blend)
  F__law_take : FnP K "_law_take" s__law_take f__law_take d__law_take
  g__law_take : mg "_law_take" = some (.ref f__law_take)
  F__law_pick : FnP K "_law_pick" s__law_pick f__law_pick d__law_pick
  g__law_pick : mg "_law_pick" = some (.ref f__law_pick)
  F__law_caught : FnP K "_law_caught" s__law_caught f__law_caught d__law_caught
  g__law_caught : mg "_law_caught" = some (.ref f__law_caught)
  F__law_sigmas : FnP K "_law_sigmas" s__law_sigmas f__law_sigmas d__law_sigmas
  g__law_sigmas : mg "_law_sigmas" = some (.ref f__law_sigmas)
  F__law_row : FnP K "_law_row" s__law_row f__law_row d__law_row
  g__law_row : mg "_law_row" = some (.ref f__law_row)
  F__law_unlike : FnP K "_law_unlike" s__law_unlike f__law_unlike d__law_unlike
  g__law_unlike : mg "_law_unlike" = some (.ref f__law_unlike)
  F__law_due : FnP K "_law_due" s__law_due f__law_due d__law_due
  g__law_due : mg "_law_due" = some (.ref f__law_due)
  F__law_is_alone : FnP K "_law_is_alone" s__law_is_alone f__law_is_alone d__law_is_alone
  g__law_is_alone : mg "_law_is_alone" = some (.ref f__law_is_alone)
  F_law : FnP K "law" s_law f_law d_law
  g_law : mg "law" = some (.ref f_law)
  c_MOST_PARTS : mg "MOST_PARTS" = some (.int 200 t_MOST_PARTS)
  c_GREATEST_PART : mg "GREATEST_PART" = some (.int 1000000 t_GREATEST_PART)
  g_SeriesError : mg "SeriesError" = some (.ref a_SeriesError)
  g_BadPartition : mg "BadPartition" = some (.ref a_BadPartition)
  g_NotApart : mg "NotApart" = some (.ref a_NotApart)
  E_BadPartition : ErrT K a_BadPartition a_SeriesError
  E_NotApart : ErrT K a_NotApart a_SeriesError
  abs0 : mg "abs" = none
  all0 : mg "all" = none
  bool0 : mg "bool" = none
  enumerate0 : mg "enumerate" = none
  int0 : mg "int" = none
  isinstance0 : mg "isinstance" = none
  len0 : mg "len" = none
  list0 : mg "list" = none
  min0 : mg "min" = none
  range0 : mg "range" = none
  sum0 : mg "sum" = none
  tuple0 : mg "tuple" = none
  zip0 : mg "zip" = none
namespace Mod
variable {P : Program} {w : World} {K : PySem.W.Frag} {mg : Str → Option Value} {base : Heap} (M : Mod P w K mg base)
theorem k_is_number : PySem.W.keepIn K (.ref M.f_is_number) = true := M.F_is_number.kp
theorem b_is_number : L2.Binds K M.d_is_number ["thing"] [] := M.F_is_number.bindsN fun _ _ _ _ _ _ us hl => match us, hl with | [_], _ => rfl
theorem k_are_numbers : PySem.W.keepIn K (.ref M.f_are_numbers) = true := M.F_are_numbers.kp
theorem b_are_numbers : L2.Binds K M.d_are_numbers ["things"] [] := M.F_are_numbers.bindsN fun _ _ _ _ _ _ us hl => match us, hl with | [_], _ => rfl
theorem k_is_number_tuple : PySem.W.keepIn K (.ref M.f_is_number_tuple) = true := M.F_is_number_tuple.kp
theorem b_is_number_tuple : L2.Binds K M.d_is_number_tuple ["thing"] [] := M.F_is_number_tuple.bindsN fun _ _ _ _ _ _ us hl => match us, hl with | [_], _ => rfl
theorem k_is_partition : PySem.W.keepIn K (.ref M.f_is_partition) = true := M.F_is_partition.kp
theorem b_is_partition : L2.Binds K M.d_is_partition ["thing"] [] := M.F_is_partition.bindsN fun _ _ _ _ _ _ us hl => match us, hl with | [_], _ => rfl
theorem k_check_partition : PySem.W.keepIn K (.ref M.f_check_partition) = true := M.F_check_partition.kp
theorem b_check_partition : L2.Binds K M.d_check_partition ["partition"] [] := M.F_check_partition.bindsN fun _ _ _ _ _ _ us hl => match us, hl with | [_], _ => rfl
theorem k_franklin : PySem.W.keepIn K (.ref M.f_franklin) = true := M.F_franklin.kp
theorem b_franklin : L2.Binds K M.d_franklin ["partition"] [] := M.F_franklin.bindsN fun _ _ _ _ _ _ us hl => match us, hl with | [_], _ => rfl
theorem k__law_begun : PySem.W.keepIn K (.ref M.f__law_begun) = true := M.F__law_begun.kp
theorem b__law_begun : L2.Binds K M.d__law_begun ["script"] [] := M.F__law_begun.bindsN fun _ _ _ _ _ _ us hl => match us, hl with | [_], _ => rfl
theorem k__law_blend : PySem.W.keepIn K (.ref M.f__law_blend) = true := M.F__law_blend.kp
theorem b__law_blend : L2.Binds K M.d__law_blend ["draw"] [] := M.F__law_blend.bindsN fun _ _ _ _ _ _ us hl => match us, hl with | [_], _ => rfl
theorem k__law_take : PySem.W.keepIn K (.ref M.f__law_take) = true := M.F__law_take.kp
theorem b__law_take : L2.Binds K M.d__law_take ["draw", "size"] [] := M.F__law_take.bindsN fun _ _ _ _ _ _ us hl => match us, hl with | [_, _], _ => rfl
theorem k__law_pick : PySem.W.keepIn K (.ref M.f__law_pick) = true := M.F__law_pick.kp
theorem b__law_pick : L2.Binds K M.d__law_pick ["draw", "some"] [] := M.F__law_pick.bindsN fun _ _ _ _ _ _ us hl => match us, hl with | [_, _], _ => rfl
theorem k__law_caught : PySem.W.keepIn K (.ref M.f__law_caught) = true := M.F__law_caught.kp
theorem b__law_caught : L2.Binds K M.d__law_caught ["work"] [] := M.F__law_caught.bindsN fun _ _ _ _ _ _ us hl => match us, hl with | [_], _ => rfl
theorem k__law_sigmas : PySem.W.keepIn K (.ref M.f__law_sigmas) = true := M.F__law_sigmas.kp
theorem b__law_sigmas : L2.Binds K M.d__law_sigmas ["most"] [] := M.F__law_sigmas.bindsN fun _ _ _ _ _ _ us hl => match us, hl with | [_], _ => rfl
theorem k__law_row : PySem.W.keepIn K (.ref M.f__law_row) = true := M.F__law_row.kp
theorem b__law_row : L2.Binds K M.d__law_row ["quotient", "most"] [] := M.F__law_row.bindsN fun _ _ _ _ _ _ us hl => match us, hl with | [_, _], _ => rfl
theorem k__law_unlike : PySem.W.keepIn K (.ref M.f__law_unlike) = true := M.F__law_unlike.kp
theorem b__law_unlike : L2.Binds K M.d__law_unlike ["n", "first"] [] := M.F__law_unlike.bindsN fun _ _ _ _ _ _ us hl => match us, hl with | [_, _], _ => rfl
theorem k__law_due : PySem.W.keepIn K (.ref M.f__law_due) = true := M.F__law_due.kp
theorem b__law_due : L2.Binds K M.d__law_due ["partition"] [] := M.F__law_due.bindsN fun _ _ _ _ _ _ us hl => match us, hl with | [_], _ => rfl
theorem k__law_is_alone : PySem.W.keepIn K (.ref M.f__law_is_alone) = true := M.F__law_is_alone.kp
theorem b__law_is_alone : L2.Binds K M.d__law_is_alone ["partition"] [] := M.F__law_is_alone.bindsN fun _ _ _ _ _ _ us hl => match us, hl with | [_], _ => rfl
theorem k_law : PySem.W.keepIn K (.ref M.f_law) = true := M.F_law.kp
theorem b_law : L2.Binds K M.d_law ["script"] [] := M.F_law.bindsN fun _ _ _ _ _ _ us hl => match us, hl with | [_], _ => rfl
theorem h_franklin : KBinds K M.d_franklin ["partition"] ["partition"] gR gR := kbR M.F_franklin (by decide) fun _ _ _ _ _ _ ws hl => match ws, hl with | [_], _ => rfl
end Mod
section
variable {P : Program} {w : World} {K : PySem.W.Frag} {mg : Str → Option Value} {base : Heap}
theorem ok__law_begun (M : Mod P w K mg base) : FnOk P w K mg base CX0 1 M.f__law_begun M.d__law_begun ["script"] (spBegun K) := ok_begun M.F__law_begun M.abs0
theorem ok__law_take (M : Mod P w K mg base) : FnOk P w K mg base CX0 2 M.f__law_take M.d__law_take ["draw", "size"] spTake := ok_take M.F__law_take M.int0 M.F__law_blend M.g__law_blend
theorem ok__law_pick (M : Mod P w K mg base) : FnOk P w K mg base CX0 3 M.f__law_pick M.d__law_pick ["draw", "some"] (spPick K) := ok_pick M.F__law_pick M.len0 (ok__law_take M) M.b__law_take M.g__law_take M.k__law_take
def sp_is_number : Sp := fun vs H Q _ => ∃ x, vs = [x] ∧ PV H x ∧ Q (.bl (isNum x)) H
theorem ok_is_number (M : Mod P w K mg base) : FnOk P w K mg base CX0 1 M.f_is_number M.d_is_number ["thing"] sp_is_number := by
  refine M.F_is_number.ok sc_is_number (fun vs H Q E h => ?_) (fun cdv A outer s H vs Q E hr h => ?_)
  · obtain ⟨x, rfl, _⟩ := h
    rfl
  · obtain ⟨x, rfl, hx, q⟩ := h
    refine ⟨_, PSs.nox (pss_one (ps_ret (pe_and (pe_callB call_isi (by rfl) M.isinstance0 boot_isinstance (pa_cons (pv 0) (pa_cons (pe_bltn (v := .ty "int") rfl M.int0 (by decide +kernel) rfl) pa_nil))) (pe_one (pe_not (pe_callB call_isi (by rfl) M.isinstance0 boot_isinstance (pa_cons (pv 0) (pa_cons (pe_bltn (v := .ty "bool") rfl M.bool0 (by decide +kernel) rfl) pa_nil)))))))), ?_⟩
    obtain ⟨t, ty, k1, k2⟩ := hx.ty (K := K)
    refine ⟨_, rfl, x, _, t, _, _, rfl, .ty "int", ty, k1, kInt x, rfl, ?_⟩
    have e := kInt_num x
    cases hk : kInt x with
    | true =>
      refine iteT ⟨_, rfl, x, _, t, _, _, rfl, .ty "bool", ty, k2, kBool x, rfl, ?_⟩
      rw [hk, Bool.true_and] at e
      rw [e]
      exact q
    | false =>
      refine iteF ?_
      rw [hk, Bool.false_and] at e
      rw [e]
      exact q
def sp_are_numbers : Sp := fun vs H Q _ => ∃ (a : Addr) (xs : List V), vs = [.ref a] ∧ Items H (.ref a) (some xs) ∧ xs.length < sizeLine ∧ (∀ v ∈ xs, PV H v) ∧ ∀ H', Same H H' → Q (.bl (xs.all isNum)) H'
theorem ok_are_numbers (M : Mod P w K mg base) : FnOk P w K mg base CX0 2 M.f_are_numbers M.d_are_numbers ["things"] sp_are_numbers := by
  refine M.F_are_numbers.ok sc_are_numbers (fun vs H Q E h => ?_) (fun cdv A outer s H vs Q E hr h => ?_)
  · obtain ⟨a, xs, rfl, _⟩ := h
    rfl
  · obtain ⟨a, xs, rfl, hi, hl, hp, q⟩ := h
    cases hi with
    | lst e =>
      refine ⟨_, PSs.nox (pss_one (ps_ret (pe_callB (cr_all rfl) (by rfl) M.all0 (by decide +kernel) (pa_cons (pe_lc (own := [("thing", 1)]) (g := (gName 1)) (by rfl) sc_are_numbers.nd (pi_list (pv 0)) (blkOk_by (own := [("thing", 1)]) (N := N_are_numbers) (sc := defScope s_are_numbers) (by decide +kernel))
        (fun _ _ _ _ _ => (pg_name (i := 1) sc_are_numbers.nd rfl (Or.inl rfl))) (fun _ _ _ _ _ => pts_nil) (fun _ _ _ _ _ => (pe_call (ok_is_number M) (hr.mono (by decide)) rfl M.g_is_number M.k_is_number M.b_is_number .nil pass0 (pa_cons (pv 1) pa_nil)))) pa_nil)))), ?_⟩
      refine ⟨_, rfl, a, rfl, ⟨_, SqL.of e⟩, fun D hD => lc_list (K := K) (a := a) (xs := xs) (fun i H' => H' D = some (.lst ((xs.take i).map fun v => V.bl (isNum v))) ∧ Same H H')
        ⟨upd_same, same_new hD⟩ (fun i H' _ ⟨_, s⟩ => SqL.of (s _ _ e)) ?_ ?_⟩
      · rintro i x H' hi ⟨h1, s⟩
        refine ⟨rfl, yesT ⟨_, rfl, x, rfl, (hp x (List.mem_of_getElem? hi)).same s, _, h1, ?_, ?_, ?_⟩⟩
        · exact Nat.lt_of_le_of_lt take_len hl
        · rw [upd_same, take_snoc hi]
        · exact fun b o e => by rw [upd_ne (ne_of_none e hD)]; exact s b o e
      · rintro H1 ⟨h1, s⟩
        rw [List.take_length] at h1
        refine ⟨D, xs.map isNum, rfl, ?_, ?_⟩
        · rw [List.map_map]
          exact SqL.of h1
        · have e2 : (xs.map isNum).all id = xs.all isNum := by
            rw [List.all_map]
            rfl
          rw [e2]
          exact q _ s
    | tup e =>
      refine ⟨_, PSs.nox (pss_one (ps_ret (pe_callB (cr_all rfl) (by rfl) M.all0 (by decide +kernel) (pa_cons (pe_lc (own := [("thing", 1)]) (g := (gName 1)) (by rfl) sc_are_numbers.nd (pi_tup (pv 0)) (blkOk_by (own := [("thing", 1)]) (N := N_are_numbers) (sc := defScope s_are_numbers) (by decide +kernel))
        (fun _ _ _ _ _ => (pg_name (i := 1) sc_are_numbers.nd rfl (Or.inl rfl))) (fun _ _ _ _ _ => pts_nil) (fun _ _ _ _ _ => (pe_call (ok_is_number M) (hr.mono (by decide)) rfl M.g_is_number M.k_is_number M.b_is_number .nil pass0 (pa_cons (pv 1) pa_nil)))) pa_nil)))), ?_⟩
      refine ⟨_, rfl, a, rfl, ⟨_, SqT.of e⟩, fun D hD => lc_tup (K := K) (a := a) (xs := xs) (fun i H' => H' D = some (.lst ((xs.take i).map fun v => V.bl (isNum v))) ∧ Same H H')
        ⟨upd_same, same_new hD⟩ (fun i H' _ ⟨_, s⟩ => SqT.of (s _ _ e)) ?_ ?_⟩
      · rintro i x H' hi ⟨h1, s⟩
        refine ⟨rfl, yesT ⟨_, rfl, x, rfl, (hp x (List.mem_of_getElem? hi)).same s, _, h1, ?_, ?_, ?_⟩⟩
        · exact Nat.lt_of_le_of_lt take_len hl
        · rw [upd_same, take_snoc hi]
        · exact fun b o e => by rw [upd_ne (ne_of_none e hD)]; exact s b o e
      · rintro H1 ⟨h1, s⟩
        rw [List.take_length] at h1
        refine ⟨D, xs.map isNum, rfl, ?_, ?_⟩
        · rw [List.map_map]
          exact SqL.of h1
        · have e2 : (xs.map isNum).all id = xs.all isNum := by
            rw [List.all_map]
            rfl
          rw [e2]
          exact q _ s
end
end K81

set_option Elab.async false
set_option linter.all false
set_option maxRecDepth 100000
set_option maxHeartbeats 4000000
set_option pp.maxSteps 3000
namespace K81
open PySem PySem.Spec PyProof.Rows L2 Dr Xv LamX Ps Gn
section
variable {P : Program} {w : World} {K : PySem.W.Frag} {mg : Str → Option Value} {base : Heap}
/-! ### is_number_tuple -/
def sp_is_number_tuple : Sp := fun vs H Q _ => ∃ (x : V) (o : Option (List V)), vs = [x] ∧ Tp H x o ∧ short o ∧ AllPV H o ∧ ∀ H', Same H H' → Q (.bl (itemsOk o)) H'
theorem ok_is_number_tuple (M : Mod P w K mg base) : FnOk P w K mg base CX0 3 M.f_is_number_tuple M.d_is_number_tuple ["thing"] sp_is_number_tuple := by
  refine M.F_is_number_tuple.ok sc_is_number_tuple (fun vs H Q E h => ?_) (fun cdv A outer s H vs Q E hr h => ?_)
  · obtain ⟨x, o, rfl, _⟩ := h
    rfl
  · obtain ⟨x, o, rfl, hx, hs, hp, q⟩ := h
    refine ⟨_, PSs.nox (pss_one (ps_ret (pe_and (pe_callB call_isi (by rfl) M.isinstance0 boot_isinstance (pa_cons (pv 0) (pa_cons (pe_bltn (v := .ty "tuple") rfl M.tuple0 (by decide +kernel) rfl) pa_nil))) (pe_one (pe_call (ok_are_numbers M) (hr.mono (by decide)) rfl M.g_are_numbers M.k_are_numbers M.b_are_numbers .nil pass0 (pa_cons (pv 0) pa_nil)))))), ?_⟩
    obtain ⟨t, ty, k1⟩ := hx.ty (K := K)
    refine ⟨_, rfl, x, _, t, _, _, rfl, .ty "tuple", ty, k1, _, rfl, ?_⟩
    cases o with
    | none => exact iteF (q H fun _ _ e => e)
    | some xs =>
      obtain ⟨a, rfl, e⟩ := hx.ref
      exact iteT ⟨_, rfl, a, xs, rfl, .tup e, hs xs rfl, hp xs rfl, q⟩
/-! ### is_partition -/
def okT : Option (List V) → Bool
  | none => false
  | some xs => xs.all isNum && Pt.isPt (numsV xs)
def sp_is_partition : Sp := fun vs H Q _ => ∃ (x : V) (o : Option (List V)), vs = [x] ∧ Tp H x o ∧ short o ∧ AllPV H o ∧ ∀ H', Same H H' → Q (.bl (okT o)) H'
theorem ok_is_partition (M : Mod P w K mg base) : FnOk P w K mg base CX0 4 M.f_is_partition M.d_is_partition ["thing"] sp_is_partition := by
  refine M.F_is_partition.ok sc_is_partition (fun vs H Q E h => ?_) (fun cdv A outer s H vs Q E hr h => ?_)
  · obtain ⟨x, o, rfl, _⟩ := h
    rfl
  · obtain ⟨x, o, rfl, hx, hs, hp, q⟩ := h
    refine ⟨_, PSs.nox (C8.pss_cut (ps_if (PW.pt (pw_or (pt_not (pt_val (pe_call (ok_is_number_tuple M) (hr.mono (by decide)) rfl M.g_is_number_tuple M.k_is_number_tuple M.b_is_number_tuple .nil pass0 (pa_cons (pv 0) pa_nil)))) (pw_or1 (pt_cmpR op_gt (pe_callB call_len (by rfl) M.len0 PySem.boot_len (pa_cons (pv 0) pa_nil)) (pe_glob (v := .int 200) rfl M.c_MOST_PARTS ⟨_, rfl⟩) (nomark _))))) 
        (pss_one (ps_ret pe_bl)) pss_nil)
      (C8.pss_cut (ps_if (pt_not (pt_val (pe_callB (cr_all rfl) (by rfl) M.all0 (by decide +kernel) (pa_cons (pe_lc (own := [("part", 1)]) (g := (gName 1)) (by rfl) sc_is_partition.nd (pi_tup (pv 0)) (blkOk_by (own := [("part", 1)]) (N := N_is_partition) (sc := defScope s_is_partition) (by decide +kernel))
        (fun _ _ _ _ _ => (pg_name (i := 1) sc_is_partition.nd rfl (Or.inl rfl))) (fun _ _ _ _ _ => pts_nil) (fun _ _ _ _ _ => (pe_chain op_le op_le pe_int (pv 1) (pe_glob (v := .int 1000000) rfl M.c_GREATEST_PART ⟨_, rfl⟩)))) pa_nil)))) 
        (pss_one (ps_ret pe_bl)) pss_nil)
      (pss_one (ps_ret (pe_callB (cr_all rfl) (by rfl) M.all0 (by decide +kernel) (pa_cons (pe_lc (own := [("one", 2), ("other", 3)]) (g := (gTup K 2 (gCons (gName 2) (gCons (gName 3) gNil)))) (by rfl) sc_is_partition.nd (RZ.pi_zipA (by rfl) M.zip0 (pa_cons (pv 0) (pa_cons (pe_slice sl_tupA (pv 0) (po_some pe_int) po_none) pa_nil))) (blkOk_by (own := [("one", 2), ("other", 3)]) (N := N_is_partition) (sc := defScope s_is_partition) (by decide +kernel))
        (fun _ _ _ _ _ => (pg_tup rfl (pgs_cons (pg_name (i := 2) sc_is_partition.nd rfl (Or.inl rfl)) (pgs_cons (pg_name (i := 3) sc_is_partition.nd rfl (Or.inl rfl)) pgs_nil)))) (fun _ _ _ _ _ => pts_nil) (fun _ _ _ _ _ => (pe_cmpR op_ge (pv 2) (pv 3) (nomark _)))) pa_nil)))))), ?_⟩
    refine ⟨fun σ' H' => ∃ (a : Addr) (ns : List Int), σ' = [some (.ref a), none, none, none] ∧ Same H H' ∧ x = .ref a ∧ o = some (ns.map V.int) ∧ H' a = some (.tup (ns.map V.int)) ∧ ns.length ≤ 200, ?_, ?_⟩
    · refine ⟨_, rfl, x, o, rfl, hx, hs, hp, fun H1 s1 => ?_⟩
      refine ⟨_, rfl, ?_⟩
      cases hk : itemsOk o with
      | false =>
        refine iteT (iteT ?_)
        show Q (.bl false) H1
        have e : okT o = false := by
          cases o with
          | none => rfl
          | some xs =>
            have z : xs.all isNum = false := hk
            show (xs.all isNum && _) = false
            rw [z, Bool.false_and]
        rw [← e]
        exact q H1 s1
      | true =>
        cases o with
        | none => cases hk
        | some xs =>
          obtain ⟨ns, rfl⟩ := nums_of (xs := xs) hk
          obtain ⟨a, rfl, e⟩ := hx.ref
          refine iteF ⟨_, rfl, _, _, rfl, .inr ⟨_, SqT.of (s1 _ _ e), rfl⟩, _, _, rfl, rfl, _, rfl, ?_⟩
          rw [List.length_map]
          by_cases c : (200 : Int) < (ns.length : Int)
          · refine iteT' (decide_eq_true c) ?_
            show Q (.bl false) H1
            have e2 : okT (some (ns.map V.int)) = false := by
              show ((ns.map V.int).all isNum && Pt.isPt (numsV (ns.map V.int))) = false
              rw [numsV_map]
              unfold Pt.isPt
              rw [decide_eq_false (by omega : ¬ ns.length ≤ 200), Bool.false_and, Bool.and_false]
            rw [← e2]
            exact q H1 s1
          · exact iteF' (decide_eq_false c) ⟨a, ns, rfl, s1, rfl, rfl, s1 _ _ e, by omega⟩
    · rintro σ H1 ⟨a, ns, rfl, s1, rfl, rfl, e1, l1⟩
      have eok : okT (some (ns.map V.int)) = (Pt.small ns 1 1000000 && (List.zip ns (ns.drop 1)).all fun p => decide (p.2 ≤ p.1)) := by
        show ((ns.map V.int).all isNum && Pt.isPt (numsV (ns.map V.int))) = _
        rw [numsV_map, all_num, Bool.true_and]
        unfold Pt.isPt
        rw [decide_eq_true l1, Bool.true_and]
      refine ⟨fun σ' H' => σ' = [some (.ref a), none, none, none] ∧ Same H H' ∧ H' a = some (.tup (ns.map V.int)) ∧ Pt.small ns 1 1000000 = true, ?_, ?_⟩
      · refine ⟨_, rfl, a, rfl, ⟨_, SqT.of e1⟩, fun D hD => lc_tup (K := K) (a := a) (xs := ns.map V.int) (fun i H' => H' D = some (.lst ((ns.take i).map fun x => V.bl (decide (1 ≤ x) && decide (x ≤ 1000000)))) ∧ Same H1 H')
          ⟨upd_same, same_new hD⟩ (fun i H' _ ⟨_, s⟩ => SqT.of (s _ _ e1)) ?_ ?_⟩
        · rintro i x H' hi ⟨h1, s⟩
          obtain ⟨z, hz, rfl⟩ := int_at hi
          refine ⟨rfl, yesT ?_⟩
          have fin : ∀ b : Bool, b = (decide (1 ≤ z) && decide (z ≤ 1000000)) → ∃ acc, H' D = some (HO.lst acc) ∧ acc.length < sizeLine ∧ upd H' D (HO.lst (acc ++ [V.bl b])) D = some (HO.lst (List.map (fun x => V.bl (decide (1 ≤ x) && decide (x ≤ 1000000))) (List.take (i + 1) ns))) ∧ Same H1 (upd H' D (HO.lst (acc ++ [V.bl b]))) := fun b eb => by
            refine ⟨_, h1, ?_, ?_, fun b o e => by rw [upd_ne (ne_of_none e hD)]; exact s b o e⟩
            · have := take_len (f := fun x : Int => V.bl (decide (1 ≤ x) && decide (x ≤ 1000000))) (xs := ns) (i := i)
              rw [sizeLine_eq]
              omega
            · rw [upd_same, eb, take_snoc (f := fun x : Int => V.bl (decide (1 ≤ x) && decide (x ≤ 1000000))) hz]
          refine ⟨_, rfl, _, _, rfl, rfl, _, rfl, ?_⟩
          by_cases c : 1 ≤ z
          · refine iteT' (decide_eq_true c) ⟨_, _, rfl, rfl, fin _ ?_⟩
            rw [decide_eq_true c, Bool.true_and]
          · refine iteF' (decide_eq_false c) (fin _ ?_)
            rw [decide_eq_false c, Bool.false_and]
        · rintro H2 ⟨h2, s2⟩
          rw [List.length_map, List.take_length] at h2
          refine ⟨D, ns.map fun x => (decide (1 ≤ x) && decide (x ≤ 1000000)), rfl, ?_, ?_⟩
          · rw [List.map_map]
            exact SqL.of h2
          · have e3 : (ns.map fun x => (decide (1 ≤ x) && decide (x ≤ 1000000))).all id = Pt.small ns 1 1000000 := by
              rw [List.all_map]
              rfl
            rw [e3]
            refine ⟨_, rfl, ?_⟩
            cases hsm : Pt.small ns 1 1000000 with
            | true => exact iteF ⟨rfl, s1.trans s2, s2 _ _ e1, rfl⟩
            | false =>
              refine iteT ?_
              show Q (.bl false) H2
              rw [hsm, Bool.false_and] at eok
              rw [← eok]
              exact q H2 (s1.trans s2)
      · rintro σ H2 ⟨rfl, s2, e2, hsm⟩
        rw [hsm, Bool.true_and] at eok
        have pl : ∀ l : List (Int × Int), (l.map fun p => decide (p.2 ≤ p.1)).all id = l.all fun p => decide (p.2 ≤ p.1) := fun l => by
          rw [List.all_map]
          rfl
        by_cases n0 : ns = []
        · subst n0
          refine ⟨_, rfl, _, rfl, 1, rfl, a, _, rfl, SqT.of e2, fun hw => ?_, fun hw => absurd ⟨rfl, rfl⟩ hw⟩
          refine ⟨a, a, _, _, rfl, .inr ⟨SqT.of e2, SqT.of e2, fun D hD => lc_it (walk_zipT (n := 0) rfl) (fun i H' => H' D = some (.lst []) ∧ Same H2 H') ⟨upd_same, same_new hD⟩ (fun i H' _ ⟨_, s⟩ => ⟨SqT.of (s _ _ e2), SqT.of (s _ _ e2)⟩) (fun i x H3 H4 hi => absurd hi (Nat.not_lt_zero _)) ?_⟩⟩
          rintro H3 ⟨h3, s3⟩
          exact ⟨D, [], rfl, SqL.of h3, q _ (s2.trans s3)⟩
        · obtain ⟨n, en⟩ : ∃ n, ns.length = n + 1 := ⟨ns.length - 1, by
            have := List.length_pos_iff.mpr n0
            omega⟩
          refine ⟨_, rfl, _, rfl, 1, rfl, a, _, rfl, SqT.of e2, fun hw => ?_, fun hw p hp => ?_⟩
          · exfalso
            have z : HT.sIx (ns.map V.int).length 0 (some ((1 : Nat) : Int)) = 0 := hw.1
            rw [HT.sIx_nat, List.length_map] at z
            omega
          have s3 := same_new (o := .tup (cutV (ns.map V.int) (some 1) none)) hp
          have e3 : (upd H2 p (.tup (cutV (ns.map V.int) (some 1) none))) p = some (.tup ((ns.drop 1).map V.int)) := by
            rw [upd_same]
            congr 2
            exact cut_tail (i := 1)
          have e4 := s3 _ _ e2
          generalize upd H2 p (.tup (cutV (ns.map V.int) (some 1) none)) = H3 at s3 e3 e4 ⊢
          refine ⟨a, p, _, _, rfl, .inr ⟨SqT.of e4, SqT.of e3, fun D hD => lc_it (walk_zipT (n := n) (by rw [List.length_map, List.length_map, List.length_drop]; omega)) (fun i H' => H' D = some (.lst (((List.zip ns (ns.drop 1)).take i).map fun p => V.bl (decide (p.2 ≤ p.1)))) ∧ Same H3 H') ⟨upd_same, same_new hD⟩ (fun i H' _ ⟨_, s⟩ => ⟨SqT.of (s _ _ e4), SqT.of (s _ _ e3)⟩) ?_ ?_⟩⟩
          · rintro i x H4 H5 hi ⟨h4, s4⟩ ⟨T, y, z, rfl, hT, rfl, hy, hz⟩
            have i1 : i < ns.length := by omega
            have i2 : i + 1 < ns.length := by omega
            have g1 : y = .int ns[i] := by
              have w : (ns.map V.int)[i]? = some y := hy
              rw [List.getElem?_map, List.getElem?_eq_getElem i1] at w
              exact (Option.some.inj w).symm
            have g2 : z = .int ns[i + 1] := by
              have w : ((ns.drop 1).map V.int)[i]? = some z := hz
              rw [List.getElem?_map, List.getElem?_drop, Nat.add_comm 1 i, List.getElem?_eq_getElem i2] at w
              exact (Option.some.inj w).symm
            subst g1 g2
            have ez : (List.zip ns (ns.drop 1))[i]? = some (ns[i], ns[i + 1]) := by
              rw [List.getElem?_zip_eq_some]
              refine ⟨List.getElem?_eq_getElem i1, ?_⟩
              rw [List.getElem?_drop, Nat.add_comm 1 i, List.getElem?_eq_getElem i2]
            have sT := same_new (o := .tup [.int ns[i], .int ns[i + 1]]) hT
            refine ⟨T, _, rfl, SqT.of upd_same, rfl, _, _, rfl, _, _, rfl, rfl, rfl, yesT ?_⟩
            refine ⟨_, rfl, _, rfl, _, _, rfl, rfl, _, sT _ _ h4, ?_, ?_, fun b o e => ?_⟩
            · have := take_len (f := fun p : Int × Int => V.bl (decide (p.2 ≤ p.1))) (xs := List.zip ns (ns.drop 1)) (i := i)
              rw [List.length_zip] at this
              rw [sizeLine_eq]
              omega
            · rw [upd_same]
              have := take_snoc (f := fun p : Int × Int => V.bl (decide (p.2 ≤ p.1))) ez
              rw [← this]
            · rw [upd_ne (ne_of_none e hD)]
              exact sT _ _ (s4 _ _ e)
          · rintro H4 ⟨h4, s4⟩
            have el : (List.zip ns (ns.drop 1)).length = n := by
              rw [List.length_zip, List.length_drop]
              omega
            rw [List.take_of_length_le (by omega)] at h4
            refine ⟨D, (List.zip ns (ns.drop 1)).map fun p => decide (p.2 ≤ p.1), rfl, ?_, ?_⟩
            · rw [List.map_map]
              exact SqL.of h4
            · rw [pl, ← eok]
              exact q _ (s2.trans (s3.trans s4))
end
end K81

set_option Elab.async false
set_option linter.all false
set_option maxRecDepth 100000
set_option maxHeartbeats 4000000
set_option pp.maxSteps 3000
namespace K81
open PySem PySem.Spec PyProof.Rows L2 Dr Xv LamX Ps Gn
section
variable {P : Program} {w : World} {K : PySem.W.Frag} {mg : Str → Option Value} {base : Heap}
/-! ### check_partition -/
def sp_check_partition (cP : Addr) : Sp := fun vs H Q E => ∃ (x : V) (o : Option (List V)), vs = [x] ∧ Tp H x o ∧ short o ∧ AllPV H o ∧ (okT o = false → ∀ H', Same H H' → E (.ref cP) none H') ∧ (okT o = true → ∀ H', Same H H' → Q .non H')
theorem ok_check_partition (M : Mod P w K mg base) : FnOk P w K mg base (L2.CX P w) 5 M.f_check_partition M.d_check_partition ["partition"] (sp_check_partition M.a_BadPartition) := by
  refine M.F_check_partition.ok sc_check_partition (fun vs H Q E h => ?_) (fun cdv A outer s H vs Q E hr h => ?_)
  · obtain ⟨x, o, rfl, _⟩ := h
    rfl
  · obtain ⟨x, o, rfl, hx, hs, hp, q1, q2⟩ := h
    refine ⟨_, (pss_one (ps_if (pt_not (pt_val (pe_call (ok_is_partition M) (hr.mono (by decide)) rfl M.g_is_partition M.k_is_partition M.b_is_partition .nil pass0 (pa_cons (pv 0) pa_nil)))) 
        (pss_one (ps_raise rfl (takes_of rfl rfl rfl rfl) (pmk_own PySem.F.excBase_ValueError M.E_BadPartition.x M.g_BadPartition M.E_BadPartition.k (raises_own M.E_BadPartition.b M.E_BadPartition.t) rfl))) pss_nil)), ?_⟩
    refine ⟨_, rfl, x, o, rfl, hx, hs, hp, fun H1 s1 => ⟨_, rfl, ?_⟩⟩
    cases hk : okT o with
    | true => exact iteF (q2 hk H1 s1)
    | false => exact iteT (q1 hk H1 s1)
theorem okT_ints {o : Option (List V)} (h : okT o = true) : ∃ ns : List Int, o = some (ns.map V.int) ∧ Pt.isPt ns = true := by
  cases o with
  | none => cases h
  | some xs =>
    have h' : (xs.all isNum && Pt.isPt (numsV xs)) = true := h
    rw [Bool.and_eq_true] at h'
    obtain ⟨ns, rfl⟩ := nums_of h'.1
    rw [numsV_map] at h'
    exact ⟨ns, rfl, h'.2⟩
theorem okT_yes {ns : List Int} (h : Pt.isPt ns = true) : okT (some (ns.map V.int)) = true := by
  show ((ns.map V.int).all isNum && Pt.isPt (numsV (ns.map V.int))) = true
  rw [numsV_map, all_num, h]
  rfl
/-! ### franklin -/
def apart (ns : List Int) : Bool := (List.zip ns (ns.drop 1)).all fun p => decide (p.2 < p.1)
theorem apart_ap : ∀ {ns : List Int}, apart ns = true → ∀ i, i + 1 < ns.length → Fk.gl ns (i + 1) < Fk.gl ns i
  | [], _, i, h => absurd h (by simp)
  | [x], _, i, h => absurd h (by simp)
  | x :: y :: r, h, i, hi => by
    have h' : (decide (y < x) && ((List.zip (y :: r) r).all fun p => decide (p.2 < p.1))) = true := h
    rw [Bool.and_eq_true, decide_eq_true_eq] at h'
    cases i with
    | zero => exact h'.1
    | succ i => exact apart_ap (ns := y :: r) h'.2 i (by simpa using hi)
theorem ap_apart : ∀ {ns : List Int}, (∀ i, i + 1 < ns.length → Fk.gl ns (i + 1) < Fk.gl ns i) → apart ns = true
  | [], _ => rfl
  | [x], _ => rfl
  | x :: y :: r, h => by
    show (decide (y < x) && ((List.zip (y :: r) r).all fun p => decide (p.2 < p.1))) = true
    rw [Bool.and_eq_true, decide_eq_true_eq]
    exact ⟨h 0 (by simp), ap_apart (ns := y :: r) fun i hi => h (i + 1) (by simpa using hi)⟩
theorem isPt_lo {ns : List Int} (h : Pt.isPt ns = true) : ns.length ≤ 200 ∧ ∀ i, i < ns.length → 1 ≤ Fk.gl ns i ∧ Fk.gl ns i ≤ 1000000 := by
  obtain ⟨h1, h2, h3⟩ := Pt.isPt_par h
  exact ⟨h2, fun i hi => ⟨h1.lo _ (List.mem_of_getElem? (Fk.get_gl hi)), h3 _ (List.mem_of_getElem? (Fk.get_gl hi))⟩⟩
def sp_franklin (cP cA : Addr) : Sp := fun vs H Q E => ∃ (x : V) (o : Option (List V)), vs = [x] ∧ Tp H x o ∧ short o ∧ AllPV H o ∧ (okT o = false → ∀ H', Same H H' → E (.ref cP) none H') ∧
  ∀ ns : List Int, o = some (ns.map V.int) → Pt.isPt ns = true → ((apart ns = false → ∀ H', Same H H' → E (.ref cA) none H') ∧
    (apart ns = true → ∀ t H', Same H H' → H' t = some (.tup ((Fk.fk ns).map V.int)) → Q (.ref t) H'))
theorem ok_franklin (M : Mod P w K mg base) : FnOk P w K mg base (L2.CX P w) 6 M.f_franklin M.d_franklin ["partition"] (sp_franklin M.a_BadPartition M.a_NotApart) := by
  refine M.F_franklin.ok sc_franklin (fun vs H Q E h => ?_) (fun cdv A outer s H vs Q E hr h => ?_)
  · obtain ⟨x, o, rfl, _⟩ := h
    rfl
  · obtain ⟨x, o, rfl, hx, hs, hp, q1, q2⟩ := h
    refine ⟨_, (pss_cons (ps_expr (pe_call (ok_check_partition M) (hr.mono (by decide)) rfl M.g_check_partition M.k_check_partition M.b_check_partition .nil (passes_call (takes_of rfl rfl rfl rfl) (fun _ _ _ _ h => h)) (pa_cons (pv 0) pa_nil)))
      (C8.pss_cut (ps_if (pt_not (pt_val (pe_callB (cr_all rfl) (by rfl) M.all0 (by decide +kernel) (pa_cons (pe_lc (own := [("one", 5), ("other", 6)]) (g := (gTup K 2 (gCons (gName 5) (gCons (gName 6) gNil)))) (by rfl) sc_franklin.nd (RZ.pi_zipA (by rfl) M.zip0 (pa_cons (pv 0) (pa_cons (pe_slice sl_tupA (pv 0) (po_some pe_int) po_none) pa_nil))) (blkOk_by (own := [("one", 5), ("other", 6)]) (N := N_franklin) (sc := defScope s_franklin) (by decide +kernel))
        (fun _ _ _ _ _ => (pg_tup rfl (pgs_cons (pg_name (i := 5) sc_franklin.nd rfl (Or.inl rfl)) (pgs_cons (pg_name (i := 6) sc_franklin.nd rfl (Or.inl rfl)) pgs_nil)))) (fun _ _ _ _ _ => pts_nil) (fun _ _ _ _ _ => (pe_cmpR op_gt (pv 5) (pv 6) (nomark _)))) pa_nil)))) 
        (pss_one (ps_raise rfl (takes_of rfl rfl rfl rfl) (pmk_own PySem.F.excBase_ValueError M.E_NotApart.x M.g_NotApart M.E_NotApart.k (raises_own M.E_NotApart.b M.E_NotApart.t) rfl))) pss_nil)
      (PSs.nox 
      (C8.pss_cut (ps_if (pt_not (pt_truth (pv 0) (by intro _; rfl))) 
        (pss_one (ps_ret (pe_tup pa_nil))) pss_nil)
      (pss_cons (ps_set (i := 1) sc_franklin.nd rfl (Or.inl rfl) (pe_ix ix_tup (pv 0) (pe_un un_neg pe_int) (fun _ _ => rfl)))
      (pss_cons (ps_set (i := 2) sc_franklin.nd rfl (Or.inl rfl) pe_int)
      (C8.pss_cut (ps_while PassesOwn.never (PW.pt (pw_and (pt_cmpR op_lt (pv 2) (pe_callB call_len (by rfl) M.len0 PySem.boot_len (pa_cons (pv 0) pa_nil)) (nomark _)) (pw_and1 (pt_cmpR op_eq (pe_ix ix_tup (pv 0) (pv 2) (fun _ _ => rfl)) (pe_op op_sub (pe_ix ix_tup (pv 0) pe_int (fun _ _ => rfl)) (pv 2)) (nomark _))))) 
        (pss_one (ps_aug (i := 2) sc_franklin.nd rfl (Or.inl rfl) pe_int ip_add)))
      (C8.pss_cut (ps_set (i := 3) sc_franklin.nd rfl (Or.inl rfl) (pe_cmpR op_lt (pv 2) (pe_callB call_len (by rfl) M.len0 PySem.boot_len (pa_cons (pv 0) pa_nil)) (nomark _)))
      (C8.pss_cut (ps_if (PW.pt (pw_and (pt_cmpR op_le (pv 1) (pv 2) (nomark _)) (pw_and1 (PW.pt (pw_or (pt_val (pv 3)) (pw_or1 (pt_cmpR op_lt (pv 1) (pv 2) (nomark _)))))))) 
        (pss_cons (ps_set (i := 4) sc_franklin.nd rfl (Or.inl rfl) (pe_slice sl_tupA (pv 0) po_none (po_some (pe_un un_neg pe_int))))
        (pss_one (ps_ret (pe_op op_catT (pe_callTy call_tuple_of (by rfl) M.tuple0 (by decide +kernel) (pa_cons (pe_lc (own := [("part", 7)]) (g := (gName 7)) (by rfl) sc_franklin.nd (pi_tup (pe_slice sl_tupA (pv 4) po_none (po_some (pv 1)))) (blkOk_by (own := [("part", 7)]) (N := N_franklin) (sc := defScope s_franklin) (by decide +kernel))
        (fun _ _ _ _ _ => (pg_name (i := 7) sc_franklin.nd rfl (Or.inl rfl))) (fun _ _ _ _ _ => pts_nil) (fun _ _ _ _ _ => (pe_op op_add (pv 7) pe_int))) pa_nil)) (pe_slice sl_tupA (pv 4) (po_some (pv 1)) po_none))))) pss_nil)
      (C8.pss_cut (ps_if (PW.pt (pw_and (pt_cmpR op_gt (pv 1) (pv 2) (nomark _)) (pw_and1 (PW.pt (pw_or (pt_val (pv 3)) (pw_or1 (pt_cmpR op_gt (pv 1) (pe_op op_add (pv 2) pe_int) (nomark _)))))))) 
        (pss_one (ps_ret (pe_op op_catT (pe_op op_catT (pe_callTy call_tuple_of (by rfl) M.tuple0 (by decide +kernel) (pa_cons (pe_lc (own := [("part", 7)]) (g := (gName 7)) (by rfl) sc_franklin.nd (pi_tup (pe_slice sl_tupA (pv 0) po_none (po_some (pv 2)))) (blkOk_by (own := [("part", 7)]) (N := N_franklin) (sc := defScope s_franklin) (by decide +kernel))
        (fun _ _ _ _ _ => (pg_name (i := 7) sc_franklin.nd rfl (Or.inl rfl))) (fun _ _ _ _ _ => pts_nil) (fun _ _ _ _ _ => (pe_op op_sub (pv 7) pe_int))) pa_nil)) (pe_slice sl_tupA (pv 0) (po_some (pv 2)) po_none)) (pe_tup (pa_cons (pv 2) pa_nil))))) pss_nil)
      (pss_one (ps_ret (pv 0))))))))))))), ?_⟩
    refine ⟨_, rfl, x, o, rfl, hx, hs, hp, fun hk H1 s1 => q1 hk H1 s1, fun hk H1 s1 => ?_⟩
    obtain ⟨ns, rfl, hns⟩ := okT_ints hk
    obtain ⟨q3, q4⟩ := q2 ns rfl hns
    obtain ⟨a, rfl, e⟩ := hx.ref
    have e1 := s1 _ _ e
    clear q1 q2 hx hk hs hp
    obtain ⟨l1, l2⟩ := isPt_lo hns
    refine ⟨fun σ' H' => σ' = [some (.ref a), none, none, none, none, none, none, none] ∧ Same H H' ∧ H' a = some (.tup (ns.map V.int)) ∧ apart ns = true, ?_, ?_⟩
    · have pl : ∀ l : List (Int × Int), (l.map fun p => decide (p.2 < p.1)).all id = l.all fun p => decide (p.2 < p.1) := fun l => by
        rw [List.all_map]
        rfl
      by_cases n0 : ns = []
      · subst n0
        refine ⟨_, rfl, _, rfl, 1, rfl, a, _, rfl, SqT.of e1, fun hw => ?_, fun hw => absurd ⟨rfl, rfl⟩ hw⟩
        refine ⟨a, a, _, _, rfl, .inr ⟨SqT.of e1, SqT.of e1, fun D hD => lc_it (walk_zipT (n := 0) rfl) (fun i H' => H' D = some (.lst []) ∧ Same H1 H') ⟨upd_same, same_new hD⟩ (fun i H' _ ⟨_, s⟩ => ⟨SqT.of (s _ _ e1), SqT.of (s _ _ e1)⟩) (fun i x H3 H4 hi => absurd hi (Nat.not_lt_zero _)) ?_⟩⟩
        rintro H3 ⟨h3, s3⟩
        exact ⟨D, [], rfl, SqL.of h3, _, rfl, iteF ⟨rfl, s1.trans s3, s3 _ _ e1, rfl⟩⟩
      · obtain ⟨n, en⟩ : ∃ n, ns.length = n + 1 := ⟨ns.length - 1, by
          have := List.length_pos_iff.mpr n0
          omega⟩
        refine ⟨_, rfl, _, rfl, 1, rfl, a, _, rfl, SqT.of e1, fun hw => ?_, fun hw p hp => ?_⟩
        · exfalso
          have z : HT.sIx (ns.map V.int).length 0 (some ((1 : Nat) : Int)) = 0 := hw.1
          rw [HT.sIx_nat, List.length_map] at z
          omega
        have s3 := same_new (o := .tup (cutV (ns.map V.int) (some 1) none)) hp
        have e3 : (upd H1 p (.tup (cutV (ns.map V.int) (some 1) none))) p = some (.tup ((ns.drop 1).map V.int)) := by
          rw [upd_same]
          congr 2
          exact cut_tail (i := 1)
        have e4 := s3 _ _ e1
        generalize upd H1 p (.tup (cutV (ns.map V.int) (some 1) none)) = H3 at s3 e3 e4 ⊢
        refine ⟨a, p, _, _, rfl, .inr ⟨SqT.of e4, SqT.of e3, fun D hD => lc_it (walk_zipT (n := n) (by rw [List.length_map, List.length_map, List.length_drop]; omega)) (fun i H' => H' D = some (.lst (((List.zip ns (ns.drop 1)).take i).map fun p => V.bl (decide (p.2 < p.1)))) ∧ Same H3 H') ⟨upd_same, same_new hD⟩ (fun i H' _ ⟨_, s⟩ => ⟨SqT.of (s _ _ e4), SqT.of (s _ _ e3)⟩) ?_ ?_⟩⟩
        · rintro i x H4 H5 hi ⟨h4, s4⟩ ⟨T, y, z, rfl, hT, rfl, hy, hz⟩
          have i1 : i < ns.length := by omega
          have i2 : i + 1 < ns.length := by omega
          have g1 : y = .int ns[i] := by
            have w : (ns.map V.int)[i]? = some y := hy
            rw [List.getElem?_map, List.getElem?_eq_getElem i1] at w
            exact (Option.some.inj w).symm
          have g2 : z = .int ns[i + 1] := by
            have w : ((ns.drop 1).map V.int)[i]? = some z := hz
            rw [List.getElem?_map, List.getElem?_drop, Nat.add_comm 1 i, List.getElem?_eq_getElem i2] at w
            exact (Option.some.inj w).symm
          subst g1 g2
          have ez : (List.zip ns (ns.drop 1))[i]? = some (ns[i], ns[i + 1]) := by
            rw [List.getElem?_zip_eq_some]
            refine ⟨List.getElem?_eq_getElem i1, ?_⟩
            rw [List.getElem?_drop, Nat.add_comm 1 i, List.getElem?_eq_getElem i2]
          have sT := same_new (o := .tup [.int ns[i], .int ns[i + 1]]) hT
          refine ⟨T, _, rfl, SqT.of upd_same, rfl, _, _, rfl, _, _, rfl, rfl, rfl, yesT ?_⟩
          refine ⟨_, rfl, _, rfl, _, _, rfl, rfl, _, sT _ _ h4, ?_, ?_, fun b o e => ?_⟩
          · have := take_len (f := fun p : Int × Int => V.bl (decide (p.2 < p.1))) (xs := List.zip ns (ns.drop 1)) (i := i)
            rw [List.length_zip] at this
            rw [sizeLine_eq]
            omega
          · rw [upd_same]
            have := take_snoc (f := fun p : Int × Int => V.bl (decide (p.2 < p.1))) ez
            rw [← this]
          · rw [upd_ne (ne_of_none e hD)]
            exact sT _ _ (s4 _ _ e)
        · rintro H4 ⟨h4, s4⟩
          have el : (List.zip ns (ns.drop 1)).length = n := by
            rw [List.length_zip, List.length_drop]
            omega
          rw [List.take_of_length_le (by omega)] at h4
          refine ⟨D, (List.zip ns (ns.drop 1)).map fun p => decide (p.2 < p.1), rfl, ?_, ?_⟩
          · rw [List.map_map]
            exact SqL.of h4
          · rw [pl]
            refine ⟨_, rfl, ?_⟩
            have ea : ((List.zip ns (ns.drop 1)).all fun p => decide (p.2 < p.1)) = apart ns := rfl
            rw [ea]
            cases hap : apart ns with
            | true => exact iteF ⟨rfl, s1.trans (s3.trans s4), s4 _ _ e4, rfl⟩
            | false => exact iteT (q3 hap H4 (s1.trans (s3.trans s4)))
    rintro σ H2 ⟨rfl, s2, e2, hap⟩
    refine ⟨fun σ' H' => σ' = [some (.ref a), none, none, none, none, none, none, none] ∧ Same H H' ∧ H' a = some (.tup (ns.map V.int)) ∧ ns ≠ [], ?_, ?_⟩
    · refine ⟨_, rfl, _, .inr (.inl ⟨_, SqT.of e2, rfl⟩), ?_⟩
      cases ns with
      | nil => exact iteT ⟨(by show 0 ≤ sizeLine; decide), fun p hp => q4 hap p _ (s2.trans (same_new hp)) upd_same⟩
      | cons x r => exact iteF ⟨rfl, s2, e2, fun z => nomatch z⟩
    rintro σ H3 ⟨rfl, s3, e3, n0⟩
    have n1 := Fk.len_ne n0
    obtain ⟨n, en⟩ : ∃ n, n = ns.length := ⟨_, rfl⟩
    obtain ⟨g, eg⟩ : ∃ g, g = Fk.gl ns := ⟨_, rfl⟩
    have ap : Fk.Ap ns.length (Fk.gl ns) := ⟨apart_ap hap, fun i hi => (l2 i hi).1⟩
    clear ap en eg n g
    obtain ⟨l, el⟩ : ∃ l, l = Fk.gl ns (ns.length - 1) := ⟨_, rfl⟩
    refine ⟨_, rfl, 1, rfl, a, _, -1, _, rfl, rfl, SqT.of e3, at_last n1, ?_⟩
    rw [← el]
    refine ⟨fun σ' H' => ∃ k : Nat, Fk.IsSt ns.length (Fk.gl ns) k ∧ σ' = [some (.ref a), some (.int l), some (.int (k : Int)), none, none, none, none, none] ∧ H' = H3, ?_, ?_⟩
    · refine ⟨fun m' σ' H' => ∃ k : Nat, m' + k = ns.length ∧ 1 ≤ k ∧ (∀ i, i < k → Fk.gl ns i = Fk.gl ns 0 - i) ∧ σ' = [some (.ref a), some (.int l), some (.int (k : Int)), none, none, none, none, none] ∧ H' = H3, ⟨ns.length - 1, 1, by omega, by omega, fun i hi => ?_, rfl, rfl⟩, ?_⟩
      · have e0 : i = 0 := by omega
        subst e0
        omega
      rintro m' σ' H' ⟨k, hm, k1, hr, rfl, rfl⟩
      refine ⟨_, rfl, _, rfl, _, _, rfl, .inr ⟨_, SqT.of e3, rfl⟩, _, _, rfl, rfl, _, rfl, ?_⟩
      rw [List.length_map]
      by_cases c : k < ns.length
      · refine iteT' (decide_eq_true (by omega)) ⟨_, rfl, _, rfl, a, _, _, _, rfl, rfl, SqT.of e3, at_gl c, _, rfl, a, _, 0, _, rfl, rfl, SqT.of e3, at_gl (i := 0) (by omega), _, rfl, _, _, rfl, rfl, rfl, _, rfl, ?_⟩
        by_cases d : Fk.gl ns k = Fk.gl ns 0 - k
        · refine iteT' (decide_eq_true (congrArg V.int d)) ⟨fun σ' H'' => σ' = [some (.ref a), some (.int l), some (.int ((k : Int) + 1)), none, none, none, none, none] ∧ H'' = H', ?_, ?_⟩
          · rintro σ' H'' ⟨rfl, rfl⟩
            refine ⟨m' - 1, by omega, k + 1, by omega, by omega, fun i hi => ?_, rfl, rfl⟩
            by_cases z : i = k
            · rw [z]
              exact d
            · exact hr i (by omega)
          · exact ⟨_, rfl, _, _, rfl, rfl, rfl, rfl⟩
        · exact iteF' (decide_eq_false (fun z => d (by injection z))) ⟨k, ⟨k1, by omega, hr, fun _ => d⟩, rfl, rfl⟩
      · exact iteF' (decide_eq_false (by omega)) ⟨k, ⟨k1, by omega, hr, fun z => absurd z c⟩, rfl, rfl⟩
    rintro σ H4 ⟨m, hst, rfl, rfl⟩
    have m1 := hst.lo
    have m2 := hst.hi
    have fk := Fk.fk_st hst
    rw [← el] at fk
    refine ⟨fun σ' H' => σ' = [some (.ref a), some (.int l), some (.int (m : Int)), some (.bl (decide (m < ns.length))), none, none, none, none] ∧ H' = H4, ?_, ?_⟩
    · refine ⟨_, rfl, _, rfl, _, _, rfl, .inr ⟨_, SqT.of e3, rfl⟩, _, _, rfl, rfl, ?_, rfl⟩
      show _ = [_, _, _, some (V.bl (decide (m < ns.length))), _, _, _, _]
      rw [List.length_map]
      have z : decide ((m : Int) < (ns.length : Int)) = decide (m < ns.length) := by
        by_cases c : m < ns.length
        · rw [decide_eq_true c, decide_eq_true (by omega)]
        · rw [decide_eq_false c, decide_eq_false (by omega)]
      rw [← z]
      rfl
    rintro σ H5 ⟨rfl, rfl⟩
    refine ⟨fun σ' H' => σ' = [some (.ref a), some (.int l), some (.int (m : Int)), some (.bl (decide (m < ns.length))), none, none, none, none] ∧ H' = H5 ∧ Fk.caseA ns.length m l = false, ?_, ?_⟩
    · have ecA : Fk.caseA ns.length m l = (decide (l ≤ (m : Int)) && (decide (m < ns.length) || decide (l < (m : Int)))) := rfl
      refine pure_and (a := decide (l ≤ (m : Int))) (b := decide (m < ns.length) || decide (l < (m : Int))) (fun Q q => ⟨_, rfl, _, rfl, _, _, rfl, rfl, _, rfl, q⟩) (pure_or (fun Q q => ⟨_, rfl, _, rfl, q⟩) (fun Q q => ⟨_, rfl, _, rfl, _, _, rfl, rfl, _, rfl, q⟩)) _ ?_
      rw [← ecA]
      cases cA : Fk.caseA ns.length m l with
      | false => exact iteF ⟨rfl, rfl, rfl⟩
      | true =>
        refine iteT ?_
        rw [if_pos cA] at fk
        obtain ⟨k, hk, k1, k2, k3, _⟩ := Fk.okA (n := ns.length) (g := Fk.gl ns) ⟨apart_ap hap, fun i hi => (l2 i hi).1⟩ hst (by rw [← el]; exact cA)
        rw [← el] at hk
        subst hk
        rw [← Fk.resA (by omega)] at fk
        refine ⟨_, rfl, 1, rfl, -1, rfl, slA e3 fun r H6 s6 e6 => ?_⟩
        rw [cut_last] at e6
        have hl6 : (ns.take (ns.length - 1)).length = ns.length - 1 := by
          rw [List.length_take]
          omega
        refine ⟨_, rfl, _, rfl, (k : Int), rfl, slA e6 fun r2 H7 s7 e7 => ?_⟩
        rw [cut_head (by omega)] at e7
        refine ⟨r2, rfl, ⟨_, SqT.of e7⟩, fun D hD => lc_tup (K := K) (a := r2) (xs := ((ns.take (ns.length - 1)).take k).map V.int) (fun i H' => H' D = some (.lst (((((ns.take (ns.length - 1)).take k).take i).map fun x => x + 1).map V.int)) ∧ Same H7 H') ⟨upd_same, same_new hD⟩ (fun i H' _ ⟨_, s⟩ => SqT.of (s _ _ e7)) ?_ ?_⟩
        · rintro i x H' hi ⟨h1, s⟩
          obtain ⟨z, hz, rfl⟩ := int_at hi
          refine ⟨rfl, yesT ⟨_, rfl, _, _, rfl, rfl, _, h1, ?_, ?_, fun b o e => by rw [upd_ne (ne_of_none e hD)]; exact s b o e⟩⟩
          · rw [List.length_map, List.length_map, List.length_take, List.length_take, sizeLine_eq]
            omega
          · rw [upd_same, ← take_snoc (f := fun x => x + 1) hz, List.map_append]
            rfl
        rintro H8 ⟨e8, s8⟩
        rw [List.length_map, List.take_length] at e8
        refine ⟨D, _, rfl, .inl ⟨SqL.of e8, fun t ht => ?_⟩⟩
        have s9 := same_new (o := .tup ((((ns.take (ns.length - 1)).take k).map fun x => x + 1).map V.int)) ht
        have e9 : (upd H8 t (.tup ((((ns.take (ns.length - 1)).take k).map fun x => x + 1).map V.int))) t = _ := upd_same
        generalize upd H8 t (.tup ((((ns.take (ns.length - 1)).take k).map fun x => x + 1).map V.int)) = H9 at s9 e9 ⊢
        refine ⟨_, rfl, _, rfl, (k : Int), rfl, np <| slA (s9 _ _ (s8 _ _ (s7 _ _ e6))) fun r3 H10 s10 e10 => ?_⟩
        rw [cut_tail] at e10
        refine catT (s10 _ _ e9) e10 ?_ ?_ fun u H11 s11 e11 => ?_
        · intro z
          have := congrArg List.length z
          rw [List.length_map, List.length_map, List.length_take] at this
          have z2 : ([] : List V).length = 0 := rfl
          omega
        · rw [List.length_map, List.length_map, List.length_map, List.length_take, List.length_drop]
          omega
        · refine q4 hap u H11 (s3.trans (s6.trans (s7.trans (s8.trans (s9.trans (s10.trans s11)))))) ?_
          rw [e11, fk, List.map_append]
    rintro σ H6 ⟨rfl, rfl, cA⟩
    rw [cA, if_neg Bool.false_ne_true] at fk
    refine ⟨fun σ' H' => σ' = [some (.ref a), some (.int l), some (.int (m : Int)), some (.bl (decide (m < ns.length))), none, none, none, none] ∧ H' = H6 ∧ Fk.caseB ns.length m l = false, ?_, ?_⟩
    · have ecB : Fk.caseB ns.length m l = (decide ((m : Int) < l) && (decide (m < ns.length) || decide ((m : Int) + 1 < l))) := rfl
      refine pure_and (a := decide ((m : Int) < l)) (b := decide (m < ns.length) || decide ((m : Int) + 1 < l)) (fun Q q => ⟨_, rfl, _, rfl, _, _, rfl, rfl, _, rfl, q⟩) (pure_or (fun Q q => ⟨_, rfl, _, rfl, q⟩) (fun Q q => ⟨_, rfl, _, rfl, _, _, rfl, rfl, _, _, rfl, rfl, _, rfl, q⟩)) _ ?_
      rw [← ecB]
      cases cB : Fk.caseB ns.length m l with
      | false => exact iteF ⟨rfl, rfl, rfl⟩
      | true =>
        refine iteT ?_
        rw [if_pos cB, ← Fk.resB m2] at fk
        refine ⟨_, rfl, _, rfl, (m : Int), rfl, slA e3 fun r2 H7 s7 e7 => ?_⟩
        rw [cut_head m2] at e7
        refine ⟨r2, rfl, ⟨_, SqT.of e7⟩, fun D hD => lc_tup (K := K) (a := r2) (xs := (ns.take m).map V.int) (fun i H' => H' D = some (.lst ((((ns.take m).take i).map fun x => x - 1).map V.int)) ∧ Same H7 H') ⟨upd_same, same_new hD⟩ (fun i H' _ ⟨_, s⟩ => SqT.of (s _ _ e7)) ?_ ?_⟩
        · rintro i x H' hi ⟨h1, s⟩
          obtain ⟨z, hz, rfl⟩ := int_at hi
          refine ⟨rfl, yesT ⟨_, rfl, _, _, rfl, rfl, _, h1, ?_, ?_, fun b o e => by rw [upd_ne (ne_of_none e hD)]; exact s b o e⟩⟩
          · rw [List.length_map, List.length_map, List.length_take, List.length_take, sizeLine_eq]
            omega
          · rw [upd_same, ← take_snoc (f := fun x => x - 1) hz, List.map_append]
            rfl
        rintro H8 ⟨e8, s8⟩
        rw [List.length_map, List.take_length] at e8
        refine ⟨D, _, rfl, .inl ⟨SqL.of e8, fun t ht => ?_⟩⟩
        have s9 := same_new (o := .tup (((ns.take m).map fun x => x - 1).map V.int)) ht
        have e9 : (upd H8 t (.tup (((ns.take m).map fun x => x - 1).map V.int))) t = _ := upd_same
        generalize upd H8 t (.tup (((ns.take m).map fun x => x - 1).map V.int)) = H9 at s9 e9 ⊢
        refine ⟨_, rfl, _, rfl, (m : Int), rfl, np <| slA (s9 _ _ (s8 _ _ (s7 _ _ e3))) fun r3 H10 s10 e10 => ?_⟩
        rw [cut_tail] at e10
        have ne1 : ((ns.take m).map fun x => x - 1).map V.int ≠ [] := fun z => by
          have := congrArg List.length z
          rw [List.length_map, List.length_map, List.length_take] at this
          have z2 : ([] : List V).length = 0 := rfl
          omega
        refine catT (s10 _ _ e9) e10 ne1 ?_ fun u H11 s11 e11 => ?_
        · rw [List.length_map, List.length_map, List.length_map, List.length_take, List.length_drop]
          omega
        refine ⟨_, rfl, (by show 1 ≤ sizeLine; decide), fun t2 ht2 => ?_⟩
        refine catT ((same_new ht2) _ _ e11) upd_same (fun z => ne1 (List.append_eq_nil_iff.mp z).1) ?_ fun u2 H12 s12 e12 => ?_
        · rw [List.length_append, List.length_map, List.length_map, List.length_map, List.length_take, List.length_drop]
          show _ + 1 ≤ _
          omega
        · refine q4 hap u2 H12 (s3.trans (s7.trans (s8.trans (s9.trans (s10.trans (s11.trans ((same_new ht2).trans s12))))))) ?_
          rw [e12, fk, List.map_append, List.map_append]
          rfl
    rintro σ H7 ⟨rfl, rfl, cB⟩
    rw [cB, if_neg Bool.false_ne_true] at fk
    refine ⟨_, rfl, q4 hap a H7 s3 ?_⟩
    rw [fk]
    exact e3
end
end K81

set_option Elab.async false
set_option linter.all false
set_option maxRecDepth 100000
set_option maxHeartbeats 4000000
set_option pp.maxSteps 3000
set_option exponentiation.threshold 500000
namespace K81
open PySem PySem.Spec PyProof.Rows L2 Dr Xv LamX Ps Gn
theorem Ev_low' {n k : Nat} (h : k < n) : Ev n k = 0 := by
  unfold Ev
  rw [if_neg]
  rintro ⟨z, d⟩
  have := Nat.le_of_dvd (by omega) d
  omega
abbrev s1' : S := fun _ => 1
section
variable {P : Program} {w : World} {K : PySem.W.Frag} {mg : Str → Option Value} {base : Heap}
def sp__law_sigmas : Sp := fun vs H Q _ => ∃ mo : Nat, vs = [.int (mo : Int)] ∧ mo ≤ 100 ∧
  ∀ (p : Addr) (H' : Hp), H p = none → Same H H' → H' p = some (.lst (rowOf (mo + 1) (sS s1' mo))) → Q (.ref p) H'
theorem ok__law_sigmas (M : Mod P w K mg base) : FnOk P w K mg base CX0 1 M.f__law_sigmas M.d__law_sigmas ["most"] sp__law_sigmas := by
  refine M.F__law_sigmas.ok sc__law_sigmas (fun vs H Q E h => ?_) (fun cdv A outer s H vs Q E hr h => ?_)
  · obtain ⟨mo, rfl, _⟩ := h
    rfl
  · obtain ⟨mo, rfl, hmo, q⟩ := h
    refine ⟨_, PSs.nox (pss_cons (ps_setLc (i := 1) (own := [("n", 3)]) (g := (gName 3)) (by rfl) sc__law_sigmas.nd rfl rfl (sw_true rfl rfl rfl (by decide +kernel)) (pi_range1 (by rfl) M.range0 (pa_cons (pe_op op_add (pv 0) pe_int) pa_nil)) (blkOk_by (own := [("n", 3)]) (N := N__law_sigmas) (sc := defScope s__law_sigmas) (by decide +kernel))
        (fun _ _ _ _ _ => (pg_name (i := 3) sc__law_sigmas.nd rfl (Or.inl rfl))) (fun _ _ _ _ _ => pts_nil) (fun _ _ _ _ _ => pe_int))
      (pss_cons (ps_for PassesOwn.never rfl (pi_range2 (by rfl) M.range0 (pa_cons pe_int (pa_cons (pe_op op_add (pv 0) pe_int) pa_nil))) (pg_name (i := 2) sc__law_sigmas.nd rfl (Or.inl rfl)) 
        (pss_one (ps_for PassesOwn.never rfl (pi_range3 (by rfl) M.range0 (pa_cons (pv 2) (pa_cons (pe_op op_add (pv 0) pe_int) (pa_cons (pv 2) pa_nil)))) (pg_name (i := 3) sc__law_sigmas.nd rfl (Or.inl rfl)) 
          (pss_one (ps_asg (pe_op op_add (pe_ix ix_list (pv 1) (pv 3) (fun _ _ => rfl)) (pv 2)) (pg_sub (pv 1) (pv 3) set_list))))))
      (pss_one (ps_ret (pv 1))))), ?_⟩
    obtain ⟨N, eN⟩ : ∃ N, N = mo + 1 := ⟨_, rfl⟩
    have eI : (mo : Int) + 1 = (N : Int) := by omega
    refine ⟨_, rfl, _, _, rfl, rfl, _, rfl, by omega, by omega, fun D hD => lc_range (lo := 0) (n := ((mo : Int) + 1).toNat) (fun i H' => H' D = some (.lst (rowOf i fun _ => 0)) ∧ Same H H') ⟨by rw [upd_same]; rfl, same_new hD⟩ ?_ ?_⟩
    · rintro i H4 hi ⟨h4, s5⟩
      refine ⟨rfl, yesT ⟨_, h4, ?_, ?_, ?_⟩⟩
      · rw [row_len, sizeLine_eq]
        omega
      · rw [upd_same, row_succ]
      · intro b' o' e'
        rw [upd_ne (ne_of_none e' hD)]
        exact s5 _ _ e'
    rintro H4 ⟨e4, s4⟩
    have e0 : ((mo : Int) + 1).toNat = N := by omega
    rw [e0] at e4
    refine ⟨_, rfl, _, _, rfl, rfl, 1, _, rfl, ⟨by decide, by decide, by omega, by omega⟩, ?_⟩
    refine for_range (lo := 1) (n := ((mo : Int) + 1 - 1).toNat) (fun i σ H' => ∃ x2 x3, σ = [some (.int (mo : Int)), some (.ref D), x2, x3] ∧ H' D = some (.lst (rowOf N (sS s1' i))) ∧ SameO D H4 H') ⟨_, _, rfl, e4, SameO.refl⟩ ?_ ?_
    · rintro i σ H5 hi ⟨x2, x3, rfl, h5, so⟩
      have ec : (1 + (i : Int)) = ((i + 1 : Nat) : Int) := by omega
      rw [ec]
      have rg : RgC ((i + 1 : Nat) : Int) ((mo : Int) + 1) ((i + 1 : Nat) : Int) (upN (i + 1) N (i + 1)) := by
        rw [eI]
        exact rg_up (a := i + 1) (b := N) (d := i + 1) (by omega) (by omega) (by omega) (by omega)
      refine ⟨_, rfl, _, rfl, _, _, rfl, rfl, _, rfl, _, _, _, _, rfl, rg, ?_⟩
      obtain ⟨v, ev⟩ : ∃ v, v = ((i + 1 : Nat) : Int) := ⟨_, rfl⟩
      have estep : ∀ k, sS s1' (i + 1) k = sS s1' i k + v * Ev (i + 1) k := fun k => by
        show sS s1' i k + ((i + 1 : Nat) : Int) * 1 * Ev (i + 1) k = _
        rw [ev, Int.mul_one]
      refine for_rangeC (fun j σ H' => ∃ x3, σ = [some (.int (mo : Int)), some (.ref D), some (.int v), x3] ∧
          H' D = some (.lst (rowOf N fun k => sS s1' i k + (if k < (i + 1) + j * (i + 1) then v * Ev (i + 1) k else 0))) ∧ SameO D H4 H') ⟨_, by rw [ev]; rfl, ?_, so⟩ ?_ ?_
      · rw [h5]
        congr 2
        refine row_ext fun k _ => ?_
        split
        · rw [Ev_low' (by omega), Int.mul_zero, Int.add_zero]
        · rw [Int.add_zero]
      · rintro j σ H6 hj ⟨x3, rfl, h6, so6⟩
        have hj2 := (lt_upN (by omega)).mp hj
        obtain ⟨n, en⟩ : ∃ n, n = (i + 1) + j * (i + 1) := ⟨_, rfl⟩
        have ei : ((i + 1 : Nat) : Int) + (j : Int) * ((i + 1 : Nat) : Int) = (n : Int) := by
          rw [en]
          push_cast
          rfl
        rw [ei]
        rw [← en] at hj2
        refine ⟨_, rfl, _, rfl, D, _, _, _, rfl, rfl, SqL.of h6, row_val hj2, _, rfl, _, _, rfl, rfl, _, rfl, _, rfl, D, _, _, _, rfl, rfl, h6, row_at hj2, _, rfl, ?_, so6.trans .put⟩
        rw [upd_same]
        congr 2
        have dn : (i + 1) ∣ n := ⟨1 + j, by rw [en, Nat.add_comm 1 j, Nat.mul_comm (i + 1) (j + 1), Nat.add_mul j 1, Nat.one_mul]; exact Nat.add_comm _ _⟩
        refine row_set hj2 ?_ fun k hk hne => ?_
        · show _ + (if n < (i + 1) + (j + 1) * (i + 1) then _ else 0) = _
          rw [if_pos (by rw [Nat.add_mul]; omega), ← en, if_neg (Nat.lt_irrefl _)]
          have z : Ev (i + 1) n = 1 := by
            unfold Ev
            rw [if_pos ⟨by omega, dn⟩]
          rw [z, Int.mul_one, Int.add_zero]
        · show _ + (if k < (i + 1) + (j + 1) * (i + 1) then _ else 0) = _ + (if k < (i + 1) + j * (i + 1) then _ else 0)
          by_cases q1 : k < (i + 1) + j * (i + 1)
          · rw [if_pos q1, if_pos (by rw [Nat.add_mul]; omega)]
          · rw [if_neg q1]
            by_cases q2 : k < (i + 1) + (j + 1) * (i + 1)
            · rw [if_pos q2]
              have z : Ev (i + 1) k = 0 := by
                unfold Ev
                rw [if_neg]
                rintro ⟨_, dk⟩
                have d2 := Nat.dvd_sub dk dn
                have := Nat.le_of_dvd (by omega) d2
                rw [Nat.add_mul] at q2
                omega
              rw [z, Int.mul_zero]
            · rw [if_neg q2]
      · rintro σ H6 ⟨x3, rfl, h6, so6⟩
        refine ⟨_, _, rfl, ?_, so6⟩
        rw [h6]
        congr 2
        refine row_ext fun k hk => ?_
        rw [estep, if_pos]
        have z : ¬ (i + 1 + upN (i + 1) N (i + 1) * (i + 1) < N) := fun z => Nat.lt_irrefl _ ((lt_upN (by omega)).mpr z)
        omega
    · rintro σ H5 ⟨x2, x3, rfl, h5, so⟩
      have em : ((mo : Int) + 1 - 1).toNat = mo := by omega
      rw [em, eN] at h5
      exact ⟨_, rfl, q D H5 hD (so.back s4 hD) h5⟩
abbrev E30 : S := tsm 3 1 (-1) (-5) 11
def wt : S := fun k => if k = 0 then 0 else sS s1' 30 k
theorem E30_ok : ∀ n, n < 31 → 1 ≤ n → (-(sm (fun k => wt (1 + k) * E30 (n - (1 + k))) n)).fdiv (n : Int) = E30 n := by decide +kernel
theorem wt_b : ∀ n, n < 31 → -(2 ^ 64) < wt n ∧ wt n < 2 ^ 64 := by decide +kernel
def sp__law_row : Sp := fun vs H Q _ => ∃ q : Addr, vs = [.ref q, .int 30] ∧ H q = some (.dK [(.inl 1, .int 1)]) ∧ ∀ (p : Addr) (H' : Hp), H p = none → Same H H' → H' p = some (.lst (rowOf 31 E30)) → Q (.ref p) H'
theorem ok__law_row (M : Mod P w K mg base) : FnOk P w K mg base CX0 2 M.f__law_row M.d__law_row ["quotient", "most"] sp__law_row := by
  refine M.F__law_row.ok sc__law_row (fun vs H Q E h => ?_) (fun cdv A outer s H vs Q E hr h => ?_)
  · obtain ⟨a, rfl, _⟩ := h
    rfl
  · obtain ⟨a, rfl, ha, q⟩ := h
    have hu := hu_of hr
    refine ⟨_, PSs.nox (pss_cons (ps_asg (pe_tup (pa_cons (pe_call (ok__law_sigmas M) (hr.mono (by decide)) rfl M.g__law_sigmas M.k__law_sigmas M.b__law_sigmas .nil pass0 (pa_cons (pv 1) pa_nil)) (pa_cons (pe_lc (own := [("n", 5)]) (g := (gName 5)) (by rfl) sc__law_row.nd (pi_range1 (by rfl) M.range0 (pa_cons (pe_op op_add (pv 1) pe_int) pa_nil)) (blkOk_by (own := [("n", 5)]) (N := N__law_row) (sc := defScope s__law_row) (by decide +kernel))
        (fun _ _ _ _ _ => (pg_name (i := 5) sc__law_row.nd rfl (Or.inl rfl))) (fun _ _ _ _ _ => pts_nil) (fun _ _ _ _ _ => pe_int)) pa_nil))) (pg_tup rfl (pgs_cons (pg_name (i := 2) sc__law_row.nd rfl (Or.inl rfl)) (pgs_cons (pg_name (i := 3) sc__law_row.nd rfl (Or.inr rfl)) pgs_nil))))
      (pss_cons (ps_lock (ps_for PassesOwn.never rfl (pi_keys (pv 0)) (pg_name (i := 4) sc__law_row.nd rfl (Or.inl rfl)) 
        (pss_one (ps_for PassesOwn.never rfl (pi_range3 (by rfl) M.range0 (pa_cons (pv 4) (pa_cons (pe_op op_add (pv 1) pe_int) (pa_cons (pv 4) pa_nil)))) (pg_name (i := 5) sc__law_row.nd rfl (Or.inr rfl)) 
          (pss_one (ps_asg (pe_op op_add (pe_ix ix_list (pv 3) (pv 5) (fun _ _ => rfl)) (pe_op op_mul (pe_op op_mul (pe_dget hu (pv 0) (pv 4) (fun _ _ => rfl)) (pv 4)) (pe_ix ix_list (pv 2) (pe_op op_fdivB (pv 5) (pv 4)) (fun _ _ => rfl)))) (pg_sub (pv 3) (pv 5) set_list)))))))
      (pss_cons (ps_set (i := 6) sc__law_row.nd rfl (Or.inr rfl) (pe_lst (pa_cons pe_int pa_nil)))
      (pss_cons (ps_for PassesOwn.never rfl (pi_range2 (by rfl) M.range0 (pa_cons pe_int (pa_cons (pe_op op_add (pv 1) pe_int) pa_nil))) (pg_name (i := 5) sc__law_row.nd rfl (Or.inr rfl)) 
        (pss_one (ps_expr (pe_bm PySem.F.plainAttrs_list PySem.F.slot_list_append PySem.F.type_list_append mt_append (pv 6) (pa_cons (pe_op op_fdivB (pe_un un_neg (pe_callB (cr_sum rfl) (by rfl) M.sum0 (by decide +kernel) (pa_cons (pe_lc (own := [("k", 7)]) (g := (gName 7)) (by rfl) sc__law_row.nd (pi_range2 (by rfl) M.range0 (pa_cons pe_int (pa_cons (pe_op op_add (pv 5) pe_int) pa_nil))) (blkOk_by (own := [("k", 7)]) (N := N__law_row) (sc := defScope s__law_row) (by decide +kernel))
        (fun _ _ _ _ _ => (pg_name (i := 7) sc__law_row.nd rfl (Or.inl rfl))) (fun _ _ _ _ _ => pts_nil) (fun _ _ _ _ _ => (pe_op op_mul (pe_ix (r := rIxL K) ix_list (pv 3) (pv 7) (fun _ _ => rfl)) (pe_ix (r := rIxL K) ix_list (pv 6) (pe_op op_sub (pv 5) (pv 7)) (fun _ _ => rfl))))) pa_nil))) (pv 5)) pa_nil)))))
      (pss_one (ps_ret (pv 6))))))), ?_⟩
    refine ⟨_, rfl, 30, rfl, by decide, fun p1 H1 h1 s1 e1 => ?_⟩
    refine ⟨_, rfl, _, _, rfl, rfl, _, rfl, by decide, by decide, fun D hD => lc_range (lo := 0) (n := ((30 : Int) + 1).toNat) (fun i H' => H' D = some (.lst (rowOf i fun _ => 0)) ∧ Same H1 H') ⟨by rw [upd_same]; rfl, same_new hD⟩ ?_ ?_⟩
    · rintro i H4 hi ⟨h4, s5⟩
      refine ⟨rfl, yesT ⟨_, h4, ?_, ?_, ?_⟩⟩
      · rw [row_len, sizeLine_eq]
        have : i < 31 := hi
        omega
      · rw [upd_same, row_succ]
      · intro b' o' e'
        rw [upd_ne (ne_of_none e' hD)]
        exact s5 _ _ e'
    rintro H4 ⟨e4, s4⟩
    have e5 : H4 p1 = some (.lst (rowOf 31 (sS s1' 30))) := s4 _ _ e1
    refine ⟨(by show 2 ≤ sizeLine; decide), fun t ht => ⟨t, _, rfl, SqT.of upd_same, rfl, _, _, rfl, _, _, rfl, rfl, ?_⟩⟩
    have u1 := same_new (o := .tup [.ref p1, .ref D]) ht
    have a4 : H4 a = some (.dK [(.inl 1, .int 1)]) := s4 _ _ (s1 _ _ ha)
    have hD1 : H D = none := s1.free hD
    have np : p1 ≠ D := ne_of_none e1 hD
    have nad : a ≠ D := ne_of_none (s1 _ _ ha) hD
    have nap : a ≠ p1 := ne_of_none ha h1
    obtain ⟨H5, eH5⟩ : ∃ H5, H5 = upd H4 t (.tup [.ref p1, .ref D]) := ⟨_, rfl⟩
    rw [← eH5] at u1 ⊢
    have a5 := u1 _ _ a4
    have s5 : Same H H5 := (s1.trans s4).trans u1
    have f5 : H5 D = some (.lst (rowOf 31 fun _ => 0)) := u1 _ _ e4
    have g5 : H5 p1 = some (.lst (rowOf 31 (sS s1' 30))) := u1 _ _ e5
    clear eH5 u1 ht a4 e4 e5 s4 hD e1 s1 h1
    refine ⟨a, _, a5, trivial, fun od => ?_⟩
    refine ⟨_, rfl, a, od, rfl, .inl ⟨_, upd_same, for_it walk_keys (fun i σ H' => ∃ x4 x5 x6 x7, σ = [some (.ref a), some (.int 30), some (.ref p1), some (.ref D), x4, x5, x6, x7] ∧ H' a = some (.frz od (.dK [(.inl 1, .int 1)])) ∧ H' p1 = some (.lst (rowOf 31 (sS s1' 30))) ∧ H' D = some (.lst (rowOf 31 (if i = 0 then (fun _ => 0) else wt))) ∧ ∀ b o, H b = some o → b ≠ a → H' b = some o)
      ⟨_, _, _, _, rfl, upd_same, by rw [upd_ne nap.symm]; exact g5, by rw [upd_ne nad.symm, if_pos rfl]; exact f5, fun b o e ne => by rw [upd_ne ne]; exact s5 _ _ e⟩ (fun i σ H' _ ⟨_, _, _, _, _, h, _⟩ => h) ?_ ?_⟩⟩
    · rintro i x σ H6 H7 hi ⟨x4, x5, x6, x7, rfl, fa, fp, fd, fs⟩ ⟨rfl, k, v, ek, rfl⟩
      have i0 : i = 0 := by
        have : i < 1 := hi
        omega
      subst i0
      cases ek
      rw [if_pos rfl] at fd
      have rg : RgC (1 : Int) (31 : Int) (1 : Int) (upN 1 31 1) := rg_up (a := 1) (b := 31) (d := 1) (by decide) (by decide) (by decide) (by decide)
      refine ⟨_, rfl, _, rfl, _, _, rfl, rfl, _, rfl, 1, 31, 1, _, rfl, rg, ?_⟩
      refine for_rangeC (fun j σ H' => ∃ x5, σ = [some (.ref a), some (.int 30), some (.ref p1), some (.ref D), some (.int 1), x5, x6, x7] ∧ H' a = some (.frz od (.dK [(.inl 1, .int 1)])) ∧ H' p1 = some (.lst (rowOf 31 (sS s1' 30))) ∧ H' D = some (.lst (rowOf 31 fun k => if k < 1 + j then wt k else 0)) ∧ ∀ b o, H b = some o → b ≠ a → H' b = some o) ⟨_, rfl, fa, fp, ?_, fs⟩ ?_ ?_
      · rw [fd]
        refine congrArg some (congrArg HO.lst (row_ext fun k _ => ?_))
        by_cases c : k < 1 + 0
        · have : k = 0 := by omega
          subst this
          rw [if_pos c]
          rfl
        · rw [if_neg c]
      · rintro j σ H7 hj ⟨y5, rfl, ga, gp, gd, gs⟩
        have hj2 : 1 + j * 1 < 31 := (lt_upN (a := 1) (b := 31) (d := 1) (by decide)).mp hj
        have ei : (1 : Int) + (j : Int) * 1 = ((1 + j : Nat) : Int) := by omega
        rw [ei]
        have hn : 1 + j < 31 := by omega
        have fv : ((1 + j : Nat) : Int).fdiv 1 = ((1 + j : Nat) : Int) := by
          rw [Int.fdiv_one]
        refine ⟨_, rfl, _, rfl, D, _, _, _, rfl, rfl, SqL.of gd, row_val hn, _, rfl, _, rfl, a, _, rfl, .inl ⟨_, .inl 1, .inr ⟨od, ga⟩, rfl, rfl⟩, _, rfl, _, _, rfl, rfl, .inl ⟨by decide, by decide⟩, _, rfl, _, rfl, _, rfl, _, _, rfl, rfl, ⟨by decide, by decide⟩, p1, _, _, _, rfl, rfl, SqL.of gp, by rw [fv]; exact row_val hn, _, _, rfl, rfl, .inl ⟨by decide, by decide⟩, _, _, rfl, rfl, _, rfl, _, rfl, D, _, _, _, rfl, rfl, gd, row_at hn, _, rfl, ?_, ?_, ?_, ?_⟩
        · rw [upd_ne nad]
          exact ga
        · rw [upd_ne np]
          exact gp
        · rw [upd_same]
          congr 2
          refine row_set hn ?_ fun k hk hne => ?_
          · show (if 1 + j < 1 + (j + 1) then wt (1 + j) else 0) = (if 1 + j < 1 + j then wt (1 + j) else 0) + 1 * 1 * sS s1' 30 (1 + j)
            rw [if_pos (by omega), if_neg (Nat.lt_irrefl _)]
            show (if 1 + j = 0 then 0 else sS s1' 30 (1 + j)) = _
            rw [if_neg (by omega)]
            omega
          · show (if k < 1 + (j + 1) then wt k else 0) = (if k < 1 + j then wt k else 0)
            by_cases c : k < 1 + j
            · rw [if_pos c, if_pos (by omega)]
            · rw [if_neg c, if_neg (by omega)]
        · intro b o e ne
          rw [upd_ne (ne_of_none e hD1)]
          exact gs _ _ e ne
      · rintro σ H7 ⟨y5, rfl, ga, gp, gd, gs⟩
        refine ⟨_, _, _, _, rfl, ga, gp, ?_, gs⟩
        rw [gd, if_neg (show ¬ 0 + 1 = 0 by decide)]
        refine congrArg some (congrArg HO.lst (row_ext fun k hk => if_pos ?_))
        have : upN 1 31 1 = 30 := by decide
        omega
    rintro σ H6 ⟨x4, x5, x6, x7, rfl, fa, fp, fd, fs⟩
    rw [if_neg (by decide)] at fd
    refine ⟨fa, ?_⟩
    have s6 : Same H (upd H6 a (.dK [(.inl 1, .int 1)])) := fun b o e => by
      by_cases c : b = a
      · rw [c] at e ⊢
        rw [ha] at e
        rw [upd_same]
        exact e
      · rw [upd_ne c]
        exact fs _ _ e c
    have d6 : (upd H6 a (.dK [(.inl 1, .int 1)])) D = some (.lst (rowOf 31 wt)) := by
      rw [upd_ne nad.symm]
      exact fd
    generalize upd H6 a (.dK [(.inl 1, .int 1)]) = H7 at s6 d6 ⊢
    clear fa fp fd fs
    refine ⟨(by show 1 ≤ sizeLine; decide), fun p6 h6 => ?_⟩
    have s8 := s6.trans (same_new (o := .lst [V.int 1]) h6)
    have hp6 : H p6 = none := s6.free h6
    have d8 := (same_new (o := .lst [V.int 1]) h6) _ _ d6
    have e8 : (upd H7 p6 (.lst [V.int 1])) p6 = some (.lst (rowOf 1 E30)) := by
      rw [upd_same]
      have : E30 0 = 1 := by decide
      show _ = some (HO.lst [V.int (E30 0)])
      rw [this]
    generalize upd H7 p6 (.lst [V.int 1]) = H8 at s8 d8 e8 ⊢
    clear h6 d6 s6
    have n6 : D ≠ p6 := fun z => by
      rw [z, e8] at d8
      cases d8
    refine ⟨_, rfl, _, _, rfl, rfl, 1, 31, rfl, ⟨by decide, by decide, by decide, by decide⟩, ?_⟩
    refine for_range (lo := 1) (n := ((31 : Int) - 1).toNat) (fun i σ H' => ∃ x5 x7, σ = [some (.ref a), some (.int 30), some (.ref p1), some (.ref D), x4, x5, some (.ref p6), x7] ∧ H' p6 = some (.lst (rowOf (i + 1) E30)) ∧ SameO p6 H8 H') ⟨_, _, rfl, e8, SameO.refl⟩ ?_ ?_
    · rintro i σ H9 hi ⟨x5, x7, rfl, e9, s9⟩
      have hi2 : i < 30 := hi
      have ec : (1 + (i : Int)) = ((i + 1 : Nat) : Int) := by omega
      rw [ec]
      have d9 := s9 _ _ d8 n6
      refine ⟨_, rfl, .inl ⟨rfl, _, SqL.of e9⟩, _, rfl, _, _, rfl, rfl, 1, _, rfl, ⟨by decide, by decide, by omega, by omega⟩, fun D2 hD2 => ?_⟩
      refine lc_range (lo := 1) (n := (((i + 1 : Nat) : Int) + 1 - 1).toNat) (fun j H' => H' D2 = some (.lst (rowOf j fun k => wt (1 + k) * E30 (i + 1 - (1 + k)))) ∧ Same H9 H') ⟨upd_same, same_new hD2⟩ ?_ ?_
      · rintro j H10 hj ⟨e10, s10⟩
        have hj2 : j < i + 1 := by omega
        have ej : (1 + (j : Int)) = ((1 + j : Nat) : Int) := by omega
        rw [ej]
        have ix : atI (rowOf (i + 1) E30) (((i + 1 : Nat) : Int) - ((1 + j : Nat) : Int)) = some (.int (E30 (i + 1 - (1 + j)))) := by
          have e1 : ((i + 1 : Nat) : Int) - ((1 + j : Nat) : Int) = ((i + 1 - (1 + j) : Nat) : Int) := by omega
          rw [e1]
          exact row_val (by omega)
        refine ⟨rfl, yesT ⟨_, rfl, _, rfl, D, _, _, _, rfl, rfl, SqL.of (s10 _ _ d9), row_val (by omega), _, rfl, _, rfl, _, rfl, _, _, rfl, rfl, p6, _, _, _, rfl, rfl, SqL.of (s10 _ _ e9), ix, _, _, rfl, rfl, .inl (wt_b _ (by omega)), _, e10, ?_, ?_, ?_⟩⟩
        · rw [row_len, sizeLine_eq]
          omega
        · rw [upd_same, row_succ]
        · intro b' o' e'
          rw [upd_ne (ne_of_none e' hD2)]
          exact s10 _ _ e'
      · rintro H10 ⟨e10, s10⟩
        have en : (((i + 1 : Nat) : Int) + 1 - 1).toNat = i + 1 := by omega
        rw [en] at e10
        refine ⟨D2, (List.range (i + 1)).map fun k => wt (1 + k) * E30 (i + 1 - (1 + k)), rfl, SqL.of e10, ?_⟩
        rw [sum_sm]
        refine ⟨_, rfl, _, rfl, _, _, rfl, rfl, ⟨by omega, log_small2 (by omega)⟩, ?_⟩
        refine ⟨p6, _, _, rfl, rfl, s10 _ _ e9, ?_, _, _, rfl, ?_, ?_⟩
        · rw [row_len, sizeLine_eq]
          omega
        · rw [upd_same, row_succ (n := i + 1)]
          have ef := E30_ok (i + 1) (by omega) (by omega)
          show some (HO.lst (_ ++ [V.int ((-(sm (fun k => wt (1 + k) * E30 (i + 1 - (1 + k))) (i + 1))).fdiv ((i + 1 : Nat) : Int))])) = _
          rw [ef]
        · exact s9.trans ((SameO.of s10).trans .put)
    · rintro σ H9 ⟨x5, x7, rfl, e9, s9⟩
      exact ⟨_, rfl, q p6 H9 hp6 (s9.back s8 hp6) e9⟩
end
end K81

set_option Elab.async false
set_option linter.all false
set_option maxRecDepth 100000
set_option maxHeartbeats 4000000
set_option pp.maxSteps 3000
namespace K81
open PySem PySem.Spec PyProof.Rows L2 Dr Xv LamX Ps Gn
section
variable {P : Program} {w : World} {K : PySem.W.Frag} {mg : Str → Option Value} {base : Heap}
/-- new tuples in a list at p -/
structure New (H0 H : Hp) (p : Addr) (ts : List Addr) (ps : List (List Int)) : Prop where
  li : H p = some (.lst (ts.map V.ref))
  tu : TupI H ts ps
  fr : ∀ t ∈ ts, H0 t = none ∧ t ≠ p
  nd : ts.Nodup
theorem _root_.Gn.TupI.upd {H : Hp} {ts : List Addr} {ps : List (List Int)} {D : Addr} {o : HO} (h : TupI H ts ps) (n : ∀ t ∈ ts, t ≠ D) : TupI (upd H D o) ts ps :=
  ⟨h.1, fun i t ns e1 e2 => by rw [upd_ne (n t (List.mem_of_getElem? e1))]; exact h.2 i t ns e1 e2⟩
def tConsAll (K : PySem.W.Frag) (tl : TE) : TE := tLc (iList K tl) (gName 4) tYes (tOp (rCatT K) (tTup (tCons (tVar 3) tNil)) (tVar 4)) [4]
theorem cons_all {H7 : Hp} {pc : Addr} {us : List Addr} {ps : List (List Int)} {x : Int} {x0 x1 x2 x4 : Option V} {Q : VK} (h : H7 pc = some (.lst (us.map V.ref))) (T : TupI H7 us ps) (hl : ps.length ≤ 1000) (hb : ∀ p ∈ ps, p.length ≤ 1000)
    (q : ∀ D H8 vs, H7 D = none → Same H7 H8 → New H7 H8 D vs (ps.map (x :: ·)) → Q (.ref D) H8) : tConsAll K (tC (.ref pc)) [x0, x1, x2, some (.int x), x4] H7 Q := by
  refine ⟨pc, rfl, ⟨_, SqL.of h⟩, fun D hD => lc_list (K := K) (a := pc) (xs := us.map V.ref) (fun i H' => ∃ vs, Same H7 H' ∧ New H7 H' D vs ((ps.take i).map (x :: ·))) ?_ (fun i H' _ ⟨vs, s, _⟩ => SqL.of (s _ _ h)) ?_ ?_⟩
  · exact ⟨[], same_new hD, upd_same, .nil, (fun t h => by cases h), .nil⟩
  · rintro i y H8 hi ⟨vs, s8, N⟩
    rw [List.getElem?_map] at hi
    cases hu : us[i]? with
    | none =>
      rw [hu] at hi
      cases hi
    | some u =>
      rw [hu] at hi
      cases hi
      obtain ⟨ns, hns, hun⟩ := T.get hu
      have hm := List.mem_of_getElem? hns
      have hlen := hb ns hm
      have hil := (List.getElem?_eq_some_iff.mp hns).1
      have et : (ps.take (i + 1)).map (x :: ·) = (ps.take i).map (x :: ·) ++ [x :: ns] := by
        rw [List.take_succ, hns]
        show List.map _ (ps.take i ++ [ns]) = _
        rw [List.map_append]
        rfl
      have lv : vs.length ≤ 1000 := by
        rw [N.tu.1, List.length_map, List.length_take]
        omega
      have fin : ∀ (t : Addr) (H9 : Hp), Same H8 H9 → H8 t = none → H9 t = some (.tup ((x :: ns).map V.int)) → ∃ acc, H9 D = some (HO.lst acc) ∧ acc.length < sizeLine ∧ ∃ vs, Same H7 (upd H9 D (HO.lst (acc ++ [.ref t]))) ∧ New H7 (upd H9 D (HO.lst (acc ++ [.ref t]))) D vs ((ps.take (i + 1)).map (x :: ·)) := by
        intro t H9 s9 ht e9
        have nt : t ≠ D := (ne_of_none N.li ht).symm
        have hnew : ∀ v ∈ vs, v ≠ t := fun v hv z => by
          obtain ⟨_, _, e⟩ := N.tu.mem hv
          rw [z, ht] at e
          cases e
        refine ⟨_, s9 _ _ N.li, ?_, vs ++ [t], fun b o e => ?_, ?_, ?_, ?_, ?_⟩
        · rw [List.length_map, sizeLine_eq]
          omega
        · rw [upd_ne (ne_of_none e hD)]
          exact s9 _ _ (s8 _ _ e)
        · rw [upd_same, List.map_append]
          rfl
        · rw [et]
          exact ((N.tu.same s9).append (.one e9)).upd fun v hv => by
            rcases List.mem_append.mp hv with hv | hv
            · exact (N.fr v hv).2
            · rw [List.mem_singleton.mp hv]
              exact nt
        · intro v hv
          rcases List.mem_append.mp hv with hv | hv
          · exact N.fr v hv
          · rw [List.mem_singleton.mp hv]
            exact ⟨s8.free ht, nt⟩
        · refine List.nodup_append.mpr ⟨N.nd, List.nodup_cons.mpr ⟨List.not_mem_nil, .nil⟩, fun v hv w hw => ?_⟩
          rw [List.mem_singleton.mp hw]
          exact hnew v hv
      refine ⟨rfl, yesT ⟨_, rfl, (by show 1 ≤ sizeLine; decide), fun p1 h1 => ⟨_, rfl, p1, u, [.int x], ns.map V.int, rfl, rfl, SqT.of upd_same, SqT.of ((same_new h1) _ _ (s8 _ _ hun)), (fun z => nomatch z), ?_, fun hz => ?_, fun hz p2 h2 => ?_⟩⟩⟩
      · rw [List.length_map, sizeLine_eq]
        show 1 + ns.length ≤ _
        omega
      · refine fin p1 _ (same_new h1) h1 ?_
        rw [upd_same, List.map_cons, hz]
      · exact fin p2 _ ((same_new h1).trans (same_new h2)) ((same_new h1).free h2) upd_same
  · rintro H8 ⟨vs, s8, N⟩
    rw [List.length_map, T.1, List.take_length] at N
    exact q D H8 vs hD s8 N
/-- all partitions, to a depth -/
def sp_uw : Nat → Sp
  | 0 => fun _ _ _ _ => False
  | f + 1 => fun vs H Q _ => ∃ n g : Nat, vs = [.int (n : Int), .int (g : Int)] ∧ n ≤ f ∧ n ≤ 100 ∧ g ≤ 1000 ∧ (Fk.uw (f + 1) n g).length ≤ 1000 ∧ ∀ (p : Addr) (H' : Hp) (ts : List Addr), H p = none → Same H H' → New H H' p ts (Fk.uw (f + 1) n g) → Q (.ref p) H'
theorem uw_part {f n g j : Nat} (h : j < min n g) : (Fk.uw f (n - (min n g - j)) (min n g - j - 1)).length ≤ (Fk.uw (f + 1) n g).length := by
  rw [Fk.uw_pos (by omega : n ≠ 0)]
  have e : ∀ m, j < m → (Fk.uw f (n - (min n g - j)) (min n g - j - 1)).length ≤ (Fk.uwJ f n g m).length := by
    intro m hm
    induction m with
    | zero => omega
    | succ m ih =>
      rw [Fk.uwJ_succ, List.length_append, List.length_map]
      by_cases c : j = m
      · subst c
        omega
      · have := ih (by omega)
        omega
  exact e _ h
theorem uwJ_le {f n g j : Nat} (h : j ≤ min n g) (n0 : n ≠ 0) : (Fk.uwJ f n g j).length ≤ (Fk.uw (f + 1) n g).length := by
  rw [Fk.uw_pos n0]
  have e : ∀ k, (Fk.uwJ f n g j).length ≤ (Fk.uwJ f n g (j + k)).length := by
    intro k
    induction k with
    | zero => exact Nat.le_refl _
    | succ k ih =>
      rw [← Nat.add_assoc, Fk.uwJ_succ, List.length_append]
      omega
  have := e (min n g - j)
  rwa [show j + (min n g - j) = min n g by omega] at this
theorem New.grow {H0 H6 H8 : Hp} {pf D : Addr} {ts vs : List Addr} {ps qs : List (List Int)} (s : Same H0 H6) (N : New H0 H6 pf ts ps) (s8 : Same H6 H8) (N2 : New H6 H8 D vs qs) {p : Addr} {o : HO} (hp : o = .lst ((ts ++ vs).map V.ref)) (np : ∀ t ∈ ts ++ vs, t ≠ p) : New H0 (upd H8 p o) p (ts ++ vs) (ps ++ qs) := by
  subst hp
  refine ⟨upd_same, ((N.tu.same s8).append N2.tu).upd np, fun t ht => ⟨?_, np t ht⟩, List.nodup_append.mpr ⟨N.nd, N2.nd, fun a ha b hb z => ?_⟩⟩
  · rcases List.mem_append.mp ht with h | h
    · exact (N.fr t h).1
    · exact s.free (N2.fr t h).1
  · obtain ⟨_, _, e⟩ := N.tu.mem ha
    rw [z, (N2.fr b hb).1] at e
    cases e
theorem min_if (n g : Nat) : (if (g : Int) < (n : Int) then (g : Int) else (n : Int)) = ((min n g : Nat) : Int) := by
  split <;> omega
theorem rg_min {n g : Nat} (h : n ≤ 100) : RgC (if (g : Int) < (n : Int) then (g : Int) else (n : Int)) 0 (-1) (min n g) := by
  rw [min_if]
  have z := RgC.neg (i := ((min n g : Nat) : Int)) (j := 0) (by omega) (by omega) (by decide) (by decide)
  rwa [show (((min n g : Nat) : Int) - 0).toNat = min n g by omega] at z
theorem ok__law_unlike (M : Mod P w K mg base) : ∀ f : Nat, FnOk P w K mg base CX0 (f + 1) M.f__law_unlike M.d__law_unlike ["n", "first"] (sp_uw f)
  | 0 => by
    refine M.F__law_unlike.ok sc__law_unlike (fun vs H Q E (h : False) => h.elim) (fun cdv A outer s H vs Q E hr (h : False) => h.elim)
  | f + 1 => by
    have ih := ok__law_unlike M f
    refine M.F__law_unlike.ok sc__law_unlike (fun vs H Q E h => ?_) (fun cdv A outer s H vs Q E hr h => ?_)
    · obtain ⟨n, g, rfl, _⟩ := h
      rfl
    · obtain ⟨n, g, rfl, hn, hn2, hg, hl, q⟩ := h
      refine ⟨_, PSs.nox (C8.pss_cut (ps_if (pt_cmpR op_eq (pv 0) pe_int (nomark _)) 
        (pss_one (ps_ret (pe_lst (pa_cons (pe_tup pa_nil) pa_nil)))) pss_nil)
      (pss_cons (ps_set (i := 2) sc__law_unlike.nd rfl (Or.inl rfl) (pe_lst pa_nil))
      (pss_cons (ps_for PassesOwn.never rfl (pi_range3 (by rfl) M.range0 (pa_cons (pe_callB (call_min2 rfl) (by rfl) M.min0 (by decide +kernel) (pa_cons (pv 0) (pa_cons (pv 1) pa_nil))) (pa_cons pe_int (pa_cons (pe_un un_neg pe_int) pa_nil)))) (pg_name (i := 3) sc__law_unlike.nd rfl (Or.inr rfl)) 
        (pss_one (ps_set (i := 2) sc__law_unlike.nd rfl (Or.inl rfl) (pe_op op_cat (pv 2) (pe_lc (own := [("other", 4)]) (g := (gName 4)) (by rfl) sc__law_unlike.nd (pi_list (pe_call ih hr rfl M.g__law_unlike M.k__law_unlike M.b__law_unlike .nil pass0 (pa_cons (pe_op op_sub (pv 0) (pv 3)) (pa_cons (pe_op op_sub (pv 3) pe_int) pa_nil)))) (blkOk_by (own := [("other", 4)]) (N := N__law_unlike) (sc := defScope s__law_unlike) (by decide +kernel))
        (fun _ _ _ _ _ => (pg_name (i := 4) sc__law_unlike.nd rfl (Or.inl rfl))) (fun _ _ _ _ _ => pts_nil) (fun _ _ _ _ _ => (pe_op (r := rCatT K) op_catT (pe_tup (pa_cons (pv 3) pa_nil)) (pv 4))))))))
      (pss_one (ps_ret (pv 2)))))), ?_⟩
      refine ⟨fun σ' H' => σ' = [some (.int (n : Int)), some (.int (g : Int)), none, none, none] ∧ H' = H ∧ n ≠ 0, ?_, ?_⟩
      · refine ⟨_, rfl, rfl, _, rfl, ?_⟩
        by_cases c : n = 0
        · refine iteT' (decide_eq_true (by rw [c]; rfl)) ⟨(by show 0 ≤ sizeLine; decide), fun t ht => ⟨(by show 1 ≤ sizeLine; decide), fun p hp => ?_⟩⟩
          have nt : t ≠ p := (ne_of_none (upd_same (H := H)) hp)
          refine q p _ [t] ((same_new ht).free hp) ((same_new ht).trans (same_new hp)) ⟨upd_same, ?_, ?_, List.nodup_cons.mpr ⟨List.not_mem_nil, .nil⟩⟩
          · subst c
            rw [Fk.uw_zero]
            exact .one (by rw [upd_ne nt, upd_same]; rfl)
          · intro v hv
            rw [List.mem_singleton.mp hv]
            exact ⟨ht, nt⟩
        · exact iteF' (decide_eq_false (fun z => c (by injection z with z; omega))) ⟨rfl, rfl, c⟩
      rintro σ1 H1 ⟨rfl, rfl, n0⟩
      obtain ⟨f, rfl⟩ : ∃ f', f = f' + 1 := ⟨f - 1, by omega⟩
      refine ⟨(by show 0 ≤ sizeLine; decide), fun pf hpf => ?_⟩
      have s0 := same_new (o := .lst []) hpf
      have e0 : (upd H1 pf (.lst [])) pf = some (.lst []) := upd_same
      generalize upd H1 pf (.lst []) = H2 at s0 e0 ⊢
      refine ⟨_, rfl, _, rfl, _, _, rfl, 1, rfl, _, _, _, min n g, rfl, rg_min hn2, ?_⟩
      refine for_rangeC (fun j σ H' => ∃ x3 x4 pf ts, σ = [some (.int (n : Int)), some (.int (g : Int)), some (.ref pf), x3, x4] ∧ H1 pf = none ∧ Same H1 H' ∧ New H1 H' pf ts (Fk.uwJ (f + 1) n g j)) ⟨none, none, pf, [], rfl, hpf, s0, e0, .nil, (fun t h => by cases h), .nil⟩ ?_ ?_
      · clear hpf s0 e0
        rintro j σ H3 hj ⟨x3, x4, pf, ts, rfl, hpf, s3, N3⟩
        have ej : (if (g : Int) < (n : Int) then (g : Int) else (n : Int)) + (j : Int) * -1 = ((min n g - j : Nat) : Int) := by
          rw [min_if]
          omega
        rw [ej]
        obtain ⟨a, ea⟩ : ∃ a, a = min n g - j := ⟨_, rfl⟩
        have hp := uw_part (f := f + 1) hj
        rw [← ea] at hp ⊢
        have en : (n : Int) - (a : Int) = ((n - a : Nat) : Int) := by omega
        have en1 : (a : Int) - 1 = ((a - 1 : Nat) : Int) := by omega
        refine ⟨_, rfl, _, rfl, _, rfl, _, _, rfl, rfl, _, rfl, _, _, rfl, rfl, n - a, a - 1, (by show [V.int ((n : Int) - (a : Int)), V.int ((a : Int) - 1)] = _; rw [en, en1]), by omega, by omega, by omega, by omega, fun pc H4 us hpc s4 N4 => ?_⟩
        refine cons_all (K := K) (x := (a : Int)) (x0 := some (.int (n : Int))) (x1 := some (.int (g : Int))) (x2 := some (.ref pf)) (x4 := x4) (Q := fun x H => rCat (.ref pf) x H fun y H2 => ∃ x3 x4 pf ts, [some (V.int (n : Int)), some (.int (g : Int)), some y, some (.int (a : Int)), _] = [some (V.int (n : Int)), some (.int (g : Int)), some (.ref pf), x3, x4] ∧ H1 pf = none ∧ Same H1 H2 ∧ New H1 H2 pf ts (Fk.uwJ (f + 1) n g (j + 1))) N4.li N4.tu (by omega) (fun p hp => ?_) fun D H5 vs hD s5 N5 => ?_
        · have := Fk.uw_len _ _ _ _ hp
          omega
        have hlen : ts.length + vs.length ≤ 1000 := by
          have h1 := N3.tu.1
          have h2 := N5.tu.1
          have h3 := uwJ_le (f := f + 1) (n := n) (g := g) (j := j + 1) (by omega) n0
          rw [Fk.uwJ_succ, List.length_append, ← ea] at h3
          omega
        have e5 := s5 _ _ (s4 _ _ N3.li)
        have s45 := s4.trans s5
        have fr5 : ∀ v ∈ vs, H3 v = none := fun v hv => s4.free (N5.fr v hv).1
        refine ⟨pf, D, _, _, rfl, rfl, e5, N5.li, ?_, fun p hp5 => ⟨_, x4, p, ts ++ vs, rfl, (s3.trans s45).free hp5, (s3.trans s45).trans (same_new hp5), ?_⟩⟩
        · rw [List.length_map, List.length_map, sizeLine_eq]
          omega
        · rw [Fk.uwJ_succ, ← ea]
          refine New.grow s3 N3 s45 ⟨N5.li, N5.tu, fun v hv => ⟨fr5 v hv, (N5.fr v hv).2⟩, N5.nd⟩ (by rw [List.map_append]) fun t ht z => ?_
          subst z
          rcases List.mem_append.mp ht with h | h
          · obtain ⟨_, _, e⟩ := (N3.tu.same s45).mem h
            rw [hp5] at e
            cases e
          · obtain ⟨_, _, e⟩ := N5.tu.mem h
            rw [hp5] at e
            cases e
      · rintro σ H3 ⟨x3, x4, pf, ts, rfl, hpf, s3, N3⟩
        rw [← Fk.uw_pos n0] at N3
        exact ⟨_, rfl, q pf H3 ts hpf s3 N3⟩
end
end K81

set_option Elab.async false
set_option linter.all false
set_option maxRecDepth 100000
set_option maxHeartbeats 4000000
set_option pp.maxSteps 3000
namespace K81
open PySem PySem.Spec PyProof.Rows L2 Dr Xv LamX Ps Gn
theorem eqvAll_ints : ∀ a b : List Int, PyData.eqvAll (intsD a) (intsD b) = decide (a = b)
  | [], [] => rfl
  | [], y :: b => rfl
  | x :: a, [] => rfl
  | x :: a, y :: b => by
    show ((x == y) && PyData.eqvAll (intsD a) (intsD b)) = _
    rw [eqvAll_ints a b]
    by_cases h : x = y
    · subst h
      by_cases k : a = b
      · subst k
        simp
      · rw [decide_eq_false k, decide_eq_false (fun z => k (by injection z)), Bool.and_false]
    · rw [show (x == y) = false by simpa using h, Bool.false_and, decide_eq_false (fun z => h (by injection z))]
theorem eqv_tup (a b : List Int) : PyData.eqv (tupD a) (tupD b) = decide (a = b) := eqvAll_ints a b
theorem rg_alone1 (k : Nat) : rgL (2 * (k : Int) - 1) (-1) k = Fk.alone1 k := by
  unfold rgL Fk.alone1 Fk.mk
  refine List.map_congr_left fun i _ => ?_
  omega
theorem rg_alone2 (k : Nat) : rgL (2 * (k : Int)) (-1) k = Fk.alone2 k := by
  unfold rgL Fk.alone2 Fk.mk
  refine List.map_congr_left fun i _ => ?_
  omega
theorem rgc1 (k : Nat) (h : k ≤ 1000) : RgC (2 * (k : Int) - 1) ((k : Int) - 1) (-1) k := by
  have z := RgC.neg (i := 2 * (k : Int) - 1) (j := (k : Int) - 1) (by omega) (by omega) (by omega) (by omega)
  rwa [show (2 * (k : Int) - 1 - ((k : Int) - 1)).toNat = k by omega] at z
theorem rgc2 (k : Nat) (h : k ≤ 1000) : RgC (2 * (k : Int)) (k : Int) (-1) k := by
  have z := RgC.neg (i := 2 * (k : Int)) (j := (k : Int)) (by omega) (by omega) (by omega) (by omega)
  rwa [show (2 * (k : Int) - (k : Int)).toNat = k by omega] at z
section
variable {P : Program} {w : World} {K : PySem.W.Frag} {mg : Str → Option Value} {base : Heap}
/-! ### _law_is_alone -/
def sp__law_is_alone : Sp := fun vs H Q _ => ∃ (a : Addr) (ns : List Int), vs = [.ref a] ∧ H a = some (.tup (ns.map V.int)) ∧ ns.length ≤ 1000 ∧ ∀ H', Same H H' → Q (.bl (Fk.isAlone ns)) H'
theorem ok__law_is_alone (M : Mod P w K mg base) : FnOk P w K mg base CX0 1 M.f__law_is_alone M.d__law_is_alone ["partition"] sp__law_is_alone := by
  refine M.F__law_is_alone.ok sc__law_is_alone (fun vs H Q E h => ?_) (fun cdv A outer s H vs Q E hr h => ?_)
  · obtain ⟨a, ns, rfl, _⟩ := h
    rfl
  · obtain ⟨a, ns, rfl, e, hl, q⟩ := h
    refine ⟨_, PSs.nox (pss_cons (ps_set (i := 1) sc__law_is_alone.nd rfl (Or.inl rfl) (pe_callB call_len (by rfl) M.len0 PySem.boot_len (pa_cons (pv 0) pa_nil)))
      (pss_one (ps_ret (pe_or (pe_cmpR (op_inD (hu65 hr)) (pv 0) (pe_lst (pa_cons (pe_callTy (call_tuple_rg3 rfl) (by rfl) M.tuple0 (by decide +kernel) (pa_cons (pe_callTy cr_range3 (by rfl) M.range0 (by decide +kernel) (pa_cons (pe_op op_sub (pe_op op_mul pe_int (pv 1)) pe_int) (pa_cons (pe_op op_sub (pv 1) pe_int) (pa_cons (pe_un un_neg pe_int) pa_nil)))) pa_nil)) (pa_cons (pe_callTy (call_tuple_rg3 rfl) (by rfl) M.tuple0 (by decide +kernel) (pa_cons (pe_callTy cr_range3 (by rfl) M.range0 (by decide +kernel) (pa_cons (pe_op op_mul pe_int (pv 1)) (pa_cons (pv 1) (pa_cons (pe_un un_neg pe_int) pa_nil)))) pa_nil)) pa_nil))) (by rfl)) (pe_one (pe_cmpR (op_eqD hr.units) (pv 0) (pe_tup pa_nil) (nomark _))))))), ?_⟩
    refine ⟨_, rfl, _, _, rfl, .inr ⟨_, SqT.of e, rfl⟩, ?_⟩
    rw [List.length_map]
    refine ⟨_, rfl, _, rfl, _, _, rfl, rfl, .inl ⟨by decide, by decide⟩, _, _, rfl, rfl, _, rfl, _, _, rfl, rfl, 1, rfl, _, _, -1, rfl, by decide, by decide, fun r1 h1 => ?_⟩
    obtain ⟨k, ek⟩ : ∃ k, k = ns.length := ⟨_, rfl⟩
    rw [← ek] at hl ⊢
    have s1 := same_new (o := RgX r1 (2 * (k : Int) - 1) ((k : Int) - 1) (-1)) h1
    have e1 : (upd H r1 (RgX r1 (2 * (k : Int) - 1) ((k : Int) - 1) (-1))) r1 = some (RgX r1 (2 * (k : Int) - 1) ((k : Int) - 1) (-1)) := upd_same
    generalize upd H r1 (RgX r1 (2 * (k : Int) - 1) ((k : Int) - 1) (-1)) = H1 at s1 e1 ⊢
    refine ⟨r1, _, _, _, k, rfl, e1, rgc1 k hl, by omega, fun t1 h2 => ?_⟩
    rw [rg_alone1]
    have s2 := s1.trans (same_new (o := .tup ((Fk.alone1 k).map V.int)) h2)
    have e2 : (upd H1 t1 (.tup ((Fk.alone1 k).map V.int))) t1 = some (.tup ((Fk.alone1 k).map V.int)) := upd_same
    generalize upd H1 t1 (.tup ((Fk.alone1 k).map V.int)) = H2 at s2 e2 ⊢
    refine ⟨_, rfl, _, _, rfl, rfl, .inl ⟨by decide, by decide⟩, _, rfl, 1, rfl, _, _, -1, rfl, by decide, by decide, fun r2 h3 => ?_⟩
    have s3 := same_new (o := RgX r2 (2 * (k : Int)) (k : Int) (-1)) h3
    refine ⟨r2, _, _, _, k, rfl, upd_same, rgc2 k hl, by omega, fun t2 h4 => ?_⟩
    rw [rg_alone2]
    have s4 := s3.trans (same_new (o := .tup ((Fk.alone2 k).map V.int)) h4)
    have e4 : (upd (upd H2 r2 (RgX r2 (2 * (k : Int)) (k : Int) (-1))) t2 (.tup ((Fk.alone2 k).map V.int))) t2 = some (.tup ((Fk.alone2 k).map V.int)) := upd_same
    generalize upd (upd H2 r2 (RgX r2 (2 * (k : Int)) (k : Int) (-1))) t2 (.tup ((Fk.alone2 k).map V.int)) = H4 at s4 e4 ⊢
    refine ⟨(by show 2 ≤ sizeLine; decide), fun lp hlp => ?_⟩
    have s5 := same_new (o := .lst [V.ref t1, V.ref t2]) hlp
    have s6 := s2.trans (s4.trans s5)
    refine ⟨tupD ns, [tupD (Fk.alone1 k), tupD (Fk.alone2 k)], tup_dp (s6 _ _ e), .lst (SqL.of upd_same) (.cons (tup_dp (s5 _ _ (s4 _ _ e2))) (.cons (tup_dp (s5 _ _ e4)) .nil)), tup_shaped _, tups_shaped [_, _], _, rfl, ?_⟩
    have ea : ([tupD (Fk.alone1 k), tupD (Fk.alone2 k)].any fun z => PyData.eqv z (tupD ns)) = (decide (ns = Fk.alone1 k) || decide (ns = Fk.alone2 k)) := by
      show (PyData.eqv _ _ || (PyData.eqv _ _ || false)) = _
      rw [eqv_tup, eqv_tup, Bool.or_false]
      have e : ∀ x : List Int, decide (x = ns) = decide (ns = x) := fun x => by
        by_cases h : x = ns
        · rw [decide_eq_true h, decide_eq_true h.symm]
        · rw [decide_eq_false h, decide_eq_false (fun z => h z.symm)]
      rw [e, e]
    rw [ea]
    have eal : Fk.isAlone ns = ((decide (ns = Fk.alone1 k) || decide (ns = Fk.alone2 k)) || decide (ns = [])) := by
      rw [ek]
      rfl
    cases hb : (decide (ns = Fk.alone1 k) || decide (ns = Fk.alone2 k)) with
    | true =>
      rw [hb, Bool.true_or] at eal
      refine iteT ?_
      show Q (.bl true) _
      rw [← eal]
      exact q _ s6
    | false =>
      rw [hb, Bool.false_or] at eal
      refine iteF ⟨_, rfl, (by show 0 ≤ sizeLine; decide), fun t0 h0 => ?_⟩
      have s7 := same_new (o := .tup []) h0
      refine ⟨tupD ns, tupD [], tup_dp (s7 _ _ (s6 _ _ e)), tup_dp upd_same, tup_shaped _, tup_shaped _, ?_⟩
      rw [eqv_tup, ← eal]
      exact q _ (s6.trans s7)
/-! ### _law_due -/
theorem mk_snoc (n : Nat) (g : Nat → Int) : Fk.mk (n + 1) g = Fk.mk n g ++ [g n] := by
  unfold Fk.mk
  rw [List.range_succ, List.map_append]
  rfl
theorem caseA_law {n m : Nat} {l : Int} (h : m ≤ n) (h1 : 1 ≤ m) : (decide (l ≤ (m : Int)) && decide (l ≤ ((n - 1 : Nat) : Int))) = Fk.caseA n m l := by
  unfold Fk.caseA
  by_cases c : l ≤ (m : Int)
  · rw [decide_eq_true c, Bool.true_and, Bool.true_and]
    by_cases d : l ≤ ((n - 1 : Nat) : Int)
    · rw [decide_eq_true d]
      by_cases e : m < n
      · rw [decide_eq_true e, Bool.true_or]
      · rw [decide_eq_true (by omega : l < (m : Int)), Bool.or_true]
    · rw [decide_eq_false d, decide_eq_false (by omega), decide_eq_false (by omega)]
      rfl
  · rw [decide_eq_false c, Bool.false_and, Bool.false_and]
theorem caseB_law {n m : Nat} {g : Nat → Int} (h : m ≤ n) (h1 : 1 ≤ m) : (decide ((m : Int) < g (n - 1)) && decide ((m : Int) < Fk.fB n m g (n - 1))) = Fk.caseB n m (g (n - 1)) := by
  unfold Fk.caseB
  have e : Fk.fB n m g (n - 1) = if n - 1 < m then g (n - 1) - 1 else g (n - 1) := by
    unfold Fk.fB
    rw [if_pos (by omega : n - 1 < n)]
  rw [e]
  by_cases c : (m : Int) < g (n - 1)
  · rw [decide_eq_true c, Bool.true_and, Bool.true_and]
    by_cases d : m < n
    · rw [if_neg (by omega), decide_eq_true c, decide_eq_true d, Bool.true_or]
    · rw [if_pos (by omega), decide_eq_false d, Bool.false_or]
      by_cases f : (m : Int) + 1 < g (n - 1)
      · rw [decide_eq_true f, decide_eq_true (by omega)]
      · rw [decide_eq_false f, decide_eq_false (by omega)]
  · rw [decide_eq_false c, Bool.false_and, Bool.false_and]
def sp__law_due : Sp := fun vs H Q _ => ∃ (a : Addr) (ns : List Int), vs = [.ref a] ∧ H a = some (.tup (ns.map V.int)) ∧ ns.length ≤ 1000 ∧ ∀ t H', Same H H' → H' t = some (.tup ((Fk.fk ns).map V.int)) → Q (.ref t) H'
theorem ok__law_due (M : Mod P w K mg base) : FnOk P w K mg base CX0 1 M.f__law_due M.d__law_due ["partition"] sp__law_due := by
  refine M.F__law_due.ok sc__law_due (fun vs H Q E h => ?_) (fun cdv A outer s H vs Q E hr h => ?_)
  · obtain ⟨a, ns, rfl, _⟩ := h
    rfl
  · obtain ⟨a, ns, rfl, e, hl, q⟩ := h
    refine ⟨_, PSs.nox (C8.pss_cut (ps_if (pt_cmpR (op_eqD hr.units) (pv 0) (pe_tup pa_nil) (nomark _)) 
        (pss_one (ps_ret (pe_tup pa_nil))) pss_nil)
      (pss_cons (ps_asg (pe_tup (pa_cons (pe_ix ix_tup (pv 0) (pe_un un_neg pe_int) (fun _ _ => rfl)) (pa_cons pe_int pa_nil))) (pg_tup rfl (pgs_cons (pg_name (i := 1) sc__law_due.nd rfl (Or.inr rfl)) (pgs_cons (pg_name (i := 2) sc__law_due.nd rfl (Or.inr rfl)) pgs_nil))))
      (C8.pss_cut (ps_while PassesOwn.never (PW.pt (pw_and (pt_cmpR op_lt (pv 2) (pe_callB call_len (by rfl) M.len0 PySem.boot_len (pa_cons (pv 0) pa_nil)) (nomark _)) (pw_and1 (pt_cmpR op_eq (pe_ix ix_tup (pv 0) (pv 2) (fun _ _ => rfl)) (pe_op op_sub (pe_ix ix_tup (pv 0) pe_int (fun _ _ => rfl)) (pv 2)) (nomark _))))) 
        (pss_one (ps_set (i := 2) sc__law_due.nd rfl (Or.inr rfl) (pe_op op_add (pv 2) pe_int))))
      (pss_cons (ps_set (i := 3) sc__law_due.nd rfl (Or.inl rfl) (pe_callTy call_list_of (by rfl) M.list0 (by decide +kernel) (pa_cons (pe_slice sl_tupA (pv 0) po_none (po_some (pe_un un_neg pe_int))) pa_nil)))
      (C8.pss_cut (ps_if (PW.pt (pw_and (pt_cmpR op_le (pv 1) (pv 2) (nomark _)) (pw_and1 (pt_cmpR op_le (pv 1) (pe_callB call_len (by rfl) M.len0 PySem.boot_len (pa_cons (pv 3) pa_nil)) (nomark _))))) 
        (pss_one (ps_ret (pe_callTy call_tuple_of (by rfl) M.tuple0 (by decide +kernel) (pa_cons (pe_lc (own := [("k", 5), ("part", 6)]) (g := (gTup K 2 (gCons (gName 5) (gCons (gName 6) gNil)))) (by rfl) sc__law_due.nd (pi_enumT (by rfl) M.enumerate0 (pa_cons (pv 3) pa_nil)) (blkOk_by (own := [("k", 5), ("part", 6)]) (N := N__law_due) (sc := defScope s__law_due) (by decide +kernel))
        (fun _ _ _ _ _ => (pg_tup rfl (pgs_cons (pg_name (i := 5) sc__law_due.nd rfl (Or.inl rfl)) (pgs_cons (pg_name (i := 6) sc__law_due.nd rfl (Or.inl rfl)) pgs_nil)))) (fun _ _ _ _ _ => pts_nil) (fun _ _ _ _ _ => (pe_ifExp (pt_cmpR op_lt (pv 5) (pv 1) (nomark _)) (pe_op op_add (pv 6) pe_int) (pv 6)))) pa_nil)))) pss_nil)
      (pss_cons (ps_setLc (i := 4) (own := [("k", 5), ("part", 6)]) (g := (gTup K 2 (gCons (gName 5) (gCons (gName 6) gNil)))) (by rfl) sc__law_due.nd rfl rfl (sw_true rfl rfl rfl (by decide +kernel)) (pi_enumT (by rfl) M.enumerate0 (pa_cons (pv 0) pa_nil)) (blkOk_by (own := [("k", 5), ("part", 6)]) (N := N__law_due) (sc := defScope s__law_due) (by decide +kernel))
        (fun _ _ _ _ _ => (pg_tup rfl (pgs_cons (pg_name (i := 5) sc__law_due.nd rfl (Or.inl rfl)) (pgs_cons (pg_name (i := 6) sc__law_due.nd rfl (Or.inl rfl)) pgs_nil)))) (fun _ _ _ _ _ => pts_nil) (fun _ _ _ _ _ => (pe_ifExp (pt_cmpR op_lt (pv 5) (pv 2) (nomark _)) (pe_op op_sub (pv 6) pe_int) (pv 6))))
      (C8.pss_cut (ps_if (PW.pt (pw_and (pt_cmpR op_gt (pv 1) (pv 2) (nomark _)) (pw_and1 (pt_cmpR op_gt (pe_ix ix_list (pv 4) (pe_un un_neg pe_int) (fun _ _ => rfl)) (pv 2) (nomark _))))) 
        (pss_one (ps_ret (pe_callTy call_tuple_of (by rfl) M.tuple0 (by decide +kernel) (pa_cons (pe_op op_cat (pv 4) (pe_lst (pa_cons (pv 2) pa_nil))) pa_nil)))) pss_nil)
      (pss_one (ps_ret (pv 0)))))))))), ?_⟩
    refine ⟨fun σ' H' => σ' = [some (.ref a), none, none, none, none, none, none] ∧ Same H H' ∧ H' a = some (.tup (ns.map V.int)) ∧ ns ≠ [], ?_, ?_⟩
    · refine ⟨_, rfl, (by show 0 ≤ sizeLine; decide), fun t0 h0 => ?_⟩
      have s1 := same_new (o := .tup []) h0
      refine ⟨tupD ns, tupD [], tup_dp (s1 _ _ e), tup_dp upd_same, tup_shaped _, tup_shaped _, _, rfl, ?_⟩
      rw [eqv_tup]
      by_cases n0 : ns = []
      · refine iteT' (decide_eq_true n0) ⟨(by show 0 ≤ sizeLine; decide), fun p hp => q p _ (s1.trans (same_new hp)) ?_⟩
        rw [n0]
        exact upd_same
      · exact iteF' (decide_eq_false n0) ⟨rfl, s1, s1 _ _ e, n0⟩
    rintro σ H3 ⟨rfl, s3, e3, n0⟩
    have n1 := Fk.len_ne n0
    obtain ⟨l, el⟩ : ∃ l, l = Fk.gl ns (ns.length - 1) := ⟨_, rfl⟩
    refine ⟨_, rfl, 1, rfl, a, _, -1, _, rfl, rfl, SqT.of e3, at_last n1, (by show 2 ≤ sizeLine; decide), fun tq htq => ⟨tq, _, rfl, SqT.of upd_same, rfl, _, _, rfl, _, _, rfl, rfl, ?_⟩⟩
    rw [← el]
    have s4 := s3.trans (same_new (o := .tup [V.int l, V.int 1]) htq)
    have e4 := (same_new (o := .tup [V.int l, V.int 1]) htq) _ _ e3
    generalize upd H3 tq (.tup [V.int l, V.int 1]) = H4 at s4 e4 ⊢
    clear s3 e3 htq
    refine ⟨fun σ' H' => ∃ k : Nat, Fk.IsSt ns.length (Fk.gl ns) k ∧ σ' = [some (.ref a), some (.int l), some (.int (k : Int)), none, none, none, none] ∧ H' = H4, ?_, ?_⟩
    · refine ⟨fun m' σ' H' => ∃ k : Nat, m' + k = ns.length ∧ 1 ≤ k ∧ (∀ i, i < k → Fk.gl ns i = Fk.gl ns 0 - i) ∧ σ' = [some (.ref a), some (.int l), some (.int (k : Int)), none, none, none, none] ∧ H' = H4, ⟨ns.length - 1, 1, by omega, by omega, fun i hi => ?_, rfl, rfl⟩, ?_⟩
      · have e0 : i = 0 := by omega
        subst e0
        omega
      rintro m' σ' H' ⟨k, hm, k1, hr, rfl, rfl⟩
      refine ⟨_, rfl, _, rfl, _, _, rfl, .inr ⟨_, SqT.of e4, rfl⟩, _, _, rfl, rfl, _, rfl, ?_⟩
      rw [List.length_map]
      by_cases c : k < ns.length
      · refine iteT' (decide_eq_true (by omega)) ⟨_, rfl, _, rfl, a, _, _, _, rfl, rfl, SqT.of e4, at_gl c, _, rfl, a, _, 0, _, rfl, rfl, SqT.of e4, at_gl (i := 0) (by omega), _, rfl, _, _, rfl, rfl, rfl, _, rfl, ?_⟩
        by_cases d : Fk.gl ns k = Fk.gl ns 0 - k
        · refine iteT' (decide_eq_true (congrArg V.int d)) ⟨fun σ' H'' => σ' = [some (.ref a), some (.int l), some (.int ((k : Int) + 1)), none, none, none, none] ∧ H'' = H', ?_, ?_⟩
          · rintro σ' H'' ⟨rfl, rfl⟩
            refine ⟨m' - 1, by omega, k + 1, by omega, by omega, fun i hi => ?_, rfl, rfl⟩
            by_cases z : i = k
            · rw [z]
              exact d
            · exact hr i (by omega)
          · exact ⟨_, rfl, _, _, rfl, rfl, rfl, rfl⟩
        · exact iteF' (decide_eq_false (fun z => d (by injection z))) ⟨k, ⟨k1, by omega, hr, fun _ => d⟩, rfl, rfl⟩
      · exact iteF' (decide_eq_false (by omega)) ⟨k, ⟨k1, by omega, hr, fun z => absurd z c⟩, rfl, rfl⟩
    rintro σ H5 ⟨m, hst, rfl, rfl⟩
    have m1 := hst.lo
    have m2 := hst.hi
    have fk := Fk.fk_st hst
    rw [← el] at fk
    have lt : (ns.take (ns.length - 1)).length = ns.length - 1 := by
      rw [List.length_take]
      omega
    have step : ∀ {D : Addr} {F : Nat → Int} {H0 H6 : Hp} {i : Nat} {v : Int}, v = F i → i ≤ 1000 → Same H0 H6 → H0 D = none → H6 D = some (.lst ((Fk.mk i F).map V.int)) → ∃ acc, H6 D = some (HO.lst acc) ∧ acc.length < sizeLine ∧ upd H6 D (HO.lst (acc ++ [V.int v])) D = some (.lst ((Fk.mk (i + 1) F).map V.int)) ∧ Same H0 (upd H6 D (HO.lst (acc ++ [V.int v]))) := by
      intro D F H0 H6 i v ev hi s0 hD h6
      refine ⟨_, h6, ?_, ?_, fun b o e => by rw [upd_ne (ne_of_none e hD)]; exact s0 b o e⟩
      · rw [List.length_map, Fk.mk_len, sizeLine_eq]
        omega
      · rw [upd_same, mk_snoc, List.map_append, ev]
        rfl
    refine ⟨_, rfl, 1, rfl, -1, rfl, slA e4 fun r H6 s6 e6 => ⟨r, _, rfl, .inr (SqT.of e6), fun D hD => ?_⟩⟩
    rw [cut_last] at e6 ⊢
    have s7 := s6.trans (same_new (o := .lst ((ns.take (ns.length - 1)).map V.int)) hD)
    have e7 : (upd H6 D (.lst ((ns.take (ns.length - 1)).map V.int))) D = some (.lst ((ns.take (ns.length - 1)).map V.int)) := upd_same
    generalize upd H6 D (.lst ((ns.take (ns.length - 1)).map V.int)) = H7 at s7 e7 ⊢
    clear s6 e6 hD
    have e7a := s7 _ _ e4
    refine ⟨fun σ' H' => σ' = [some (.ref a), some (.int l), some (.int (m : Int)), some (.ref D), none, none, none] ∧ H' = H7 ∧ Fk.caseA ns.length m l = false, ?_, ?_⟩
    · refine pure_and (a := decide (l ≤ (m : Int))) (b := decide (l ≤ ((ns.length - 1 : Nat) : Int))) (fun Q q => ⟨_, rfl, _, rfl, _, _, rfl, rfl, _, rfl, q⟩) (fun Q q => ⟨_, rfl, _, rfl, _, _, rfl, .inl ⟨_, SqL.of e7, rfl⟩, _, _, rfl, rfl, _, rfl, by rw [List.length_map, lt]; exact q⟩) _ ?_
      rw [caseA_law m2 m1]
      cases cA : Fk.caseA ns.length m l with
      | false => exact iteF ⟨rfl, rfl, rfl⟩
      | true =>
        refine iteT ?_
        rw [if_pos cA] at fk
        refine ⟨_, rfl, D, _, rfl, .inl ⟨SqL.of e7, fun D2 hD2 => lc_it walk_enum (fun i H' => H' D2 = some (.lst ((Fk.mk i (Fk.fA l (Fk.gl ns))).map V.int)) ∧ Same H7 H') ⟨upd_same, same_new hD2⟩ (fun i H' _ ⟨_, s⟩ => SqL.of (s _ _ e7)) ?_ ?_⟩⟩
        · rintro i x H' H'' hi ⟨h1, s⟩ ⟨T, y, z, rfl, hT, rfl, hy, hz⟩
          cases hy
          rw [List.length_map, lt] at hi
          have g2 : z = .int (Fk.gl ns i) := by
            have w : ((ns.take (ns.length - 1)).map V.int)[i]? = some z := hz
            rw [List.getElem?_map, List.getElem?_take, if_pos hi, Fk.get_gl (by omega)] at w
            exact (Option.some.inj w).symm
          subst g2
          have sT := same_new (o := .tup [.int (i : Nat), .int (Fk.gl ns i)]) hT
          refine ⟨T, _, rfl, SqT.of upd_same, rfl, _, _, rfl, _, _, rfl, rfl, rfl, yesT ⟨_, rfl, _, rfl, _, _, rfl, rfl, _, rfl, ?_⟩⟩
          by_cases c : (i : Int) < l
          · refine iteT' (decide_eq_true c) ⟨_, rfl, _, _, rfl, rfl, step ?_ (by omega) (s.trans sT) hD2 (sT _ _ h1)⟩
            unfold Fk.fA
            rw [if_pos c]
          · refine iteF' (decide_eq_false c) ⟨_, rfl, step ?_ (by omega) (s.trans sT) hD2 (sT _ _ h1)⟩
            unfold Fk.fA
            rw [if_neg c]
        · rintro H8 ⟨h8, s8⟩
          rw [List.length_map, lt] at h8
          exact ⟨D2, _, rfl, .inl ⟨SqL.of h8, fun t ht => q t _ (s4.trans (s7.trans (s8.trans (same_new ht)))) (by rw [upd_same, fk])⟩⟩
    rintro σ H8 ⟨rfl, rfl, cA⟩
    rw [cA, if_neg Bool.false_ne_true] at fk
    refine ⟨_, rfl, a, _, rfl, .inr ⟨SqT.of e7a, fun D2 hD2 => lc_it walk_enumT (fun i H' => H' D2 = some (.lst ((Fk.mk i (Fk.fB ns.length m (Fk.gl ns))).map V.int)) ∧ Same H8 H') ⟨upd_same, same_new hD2⟩ (fun i H' _ ⟨_, s⟩ => SqT.of (s _ _ e7a)) ?_ ?_⟩⟩
    · rintro i x H' H'' hi ⟨h1, s⟩ ⟨T, y, z, rfl, hT, rfl, hy, hz⟩
      cases hy
      rw [List.length_map] at hi
      have g2 : z = .int (Fk.gl ns i) := by
        have w : (ns.map V.int)[i]? = some z := hz
        rw [List.getElem?_map, Fk.get_gl hi] at w
        exact (Option.some.inj w).symm
      subst g2
      have sT := same_new (o := .tup [.int (i : Nat), .int (Fk.gl ns i)]) hT
      refine ⟨T, _, rfl, SqT.of upd_same, rfl, _, _, rfl, _, _, rfl, rfl, rfl, yesT ⟨_, rfl, _, rfl, _, _, rfl, rfl, _, rfl, ?_⟩⟩
      by_cases c : i < m
      · refine iteT' (decide_eq_true (by omega)) ⟨_, rfl, _, _, rfl, rfl, step ?_ (by omega) (s.trans sT) hD2 (sT _ _ h1)⟩
        unfold Fk.fB
        rw [if_pos c]
      · refine iteF' (decide_eq_false (by omega)) ⟨_, rfl, step ?_ (by omega) (s.trans sT) hD2 (sT _ _ h1)⟩
        unfold Fk.fB
        rw [if_neg c, if_pos hi]
    rintro H9 ⟨h9, s9⟩
    rw [List.length_map] at h9
    have atl : atI ((Fk.mk ns.length (Fk.fB ns.length m (Fk.gl ns))).map V.int) (-1) = some (.int (Fk.fB ns.length m (Fk.gl ns) (ns.length - 1))) := by
      have z := at_last (ns := Fk.mk ns.length (Fk.fB ns.length m (Fk.gl ns))) (by rw [Fk.mk_len]; exact n1)
      rw [Fk.mk_len, Fk.gl_mk (by omega)] at z
      exact z
    refine ⟨fun σ' H' => σ' = [some (.ref a), some (.int l), some (.int (m : Int)), some (.ref D), some (.ref D2), none, none] ∧ H' = H9 ∧ Fk.caseB ns.length m l = false, ?_, ?_⟩
    · refine pure_and (a := decide ((m : Int) < l)) (b := decide ((m : Int) < Fk.fB ns.length m (Fk.gl ns) (ns.length - 1))) (fun Q q => ⟨_, rfl, _, rfl, _, _, rfl, rfl, _, rfl, q⟩) (fun Q q => ⟨_, rfl, 1, rfl, D2, _, -1, _, rfl, rfl, SqL.of h9, atl, _, rfl, _, _, rfl, rfl, _, rfl, q⟩) _ ?_
      have ec := caseB_law (g := Fk.gl ns) m2 m1
      rw [← el] at ec
      rw [ec]
      cases cB : Fk.caseB ns.length m l with
      | false => exact iteF ⟨rfl, rfl, rfl⟩
      | true =>
        refine iteT ?_
        rw [if_pos cB, mk_snoc] at fk
        have efb : Fk.fB ns.length m (Fk.gl ns) ns.length = (m : Int) := by
          unfold Fk.fB
          rw [if_neg (by omega), if_neg (Nat.lt_irrefl _)]
        rw [efb] at fk
        refine ⟨_, rfl, _, rfl, (by show 1 ≤ sizeLine; decide), fun L hL => ⟨D2, L, _, _, rfl, rfl, (same_new hL) _ _ h9, upd_same, ?_, fun L2 hL2 => ⟨L2, _, rfl, .inl ⟨SqL.of upd_same, fun t ht => q t _ ?_ ?_⟩⟩⟩⟩
        · rw [List.length_map, Fk.mk_len, sizeLine_eq]
          show _ + 1 ≤ _
          omega
        · exact s4.trans (s7.trans (s9.trans ((same_new hL).trans ((same_new hL2).trans (same_new ht)))))
        · rw [upd_same, fk, List.map_append]
          rfl
    rintro σ H10 ⟨rfl, rfl, cB⟩
    rw [cB, if_neg Bool.false_ne_true] at fk
    refine ⟨_, rfl, q a H10 (s4.trans (s7.trans s9)) ?_⟩
    rw [fk]
    exact s9 _ _ e7a
end
end K81

set_option Elab.async false
set_option linter.all false
set_option maxRecDepth 100000
set_option maxHeartbeats 4000000
set_option pp.maxSteps 3000
set_option exponentiation.threshold 500000
namespace K81
open PySem PySem.Spec PyProof.Rows L2 Dr Xv LamX Ps Gn
/-- unlike parts within b -/
structure Gd (b : Nat) (ns : List Int) : Prop where
  ap : Fk.Ap ns.length (Fk.gl ns)
  ln : ns.length ≤ b
  hi : ∀ x ∈ ns, x ≤ (b : Int)
theorem Gd.fk {b : Nat} {ns : List Int} (h : Gd b ns) : Gd (b + 1) (Fk.fk ns) := by
  obtain ⟨h1, h2, h3⟩ := Fk.fk_ap h.ap
  have := h.ln
  exact ⟨h1, by omega, fun x hx => by
    have := h3 x hx b h.hi (by omega)
    omega⟩
theorem Gd.apart {b : Nat} {ns : List Int} (h : Gd b ns) : apart ns = true := ap_apart h.ap.ds
theorem Gd.pt {b : Nat} {ns : List Int} (h : Gd b ns) (hb : b ≤ 200) : Pt.isPt ns = true := by
  have l := h.ln
  unfold Pt.isPt Pt.small
  rw [decide_eq_true (by omega : ns.length ≤ 200), Bool.true_and, Bool.and_eq_true]
  refine ⟨List.all_eq_true.mpr fun x hx => ?_, List.all_eq_true.mpr fun p hp => ?_⟩
  · obtain ⟨i, hi⟩ := List.mem_iff_getElem?.mp hx
    have hl := (List.getElem?_eq_some_iff.mp hi).1
    have h1 := h.ap.ps i hl
    have h2 := h.hi x hx
    rw [Fk.get_gl hl] at hi
    cases hi
    rw [decide_eq_true h1, decide_eq_true (by omega)]
    rfl
  · have z := List.all_eq_true.mp h.apart p hp
    have z2 : p.2 < p.1 := of_decide_eq_true z
    exact decide_eq_true (by omega)
theorem Gd.lo {b : Nat} {ns : List Int} (h : Gd b ns) : ∀ x ∈ ns, 1 ≤ x := fun x hx => by
  obtain ⟨i, hi⟩ := List.mem_iff_getElem?.mp hx
  have hl := (List.getElem?_eq_some_iff.mp hi).1
  have h1 := h.ap.ps i hl
  rw [Fk.get_gl hl] at hi
  cases hi
  exact h1
theorem fine_gd {n : Nat} {p : List Int} (h : Fk.fine n p = true) : Gd 100 p ∧ (Fk.fk p).sum = (n : Int) ∧ decide (Fk.fk p = p) = Fk.isAlone p ∧ (Fk.fk p = p ∨ ((Fk.fk p).length + p.length) % 2 ≠ 0) := by
  unfold Fk.fine at h
  simp only [Bool.and_eq_true, Bool.or_eq_true, decide_eq_true_eq] at h
  obtain ⟨h1, h2, h3, h4⟩ := h
  obtain ⟨a1, a2⟩ := Fk.apB_ok h1
  refine ⟨⟨a1, ?_, a2⟩, h2, h3, h4⟩
  by_cases z : p.length = 0
  · omega
  · have := a1.far 0 (p.length - 1) (by omega)
    have := a1.ps (p.length - 1) (by omega)
    have := a2 _ (List.mem_of_getElem? (Fk.get_gl (p := p) (i := 0) (by omega)))
    rw [Nat.zero_add] at *
    omega
section
variable {P : Program} {w : World} {K : PySem.W.Frag} {mg : Str → Option Value} {base : Heap}
abbrev XL (P : Program) (w : World) (K : PySem.W.Frag) (mg : Str → Option Value) (base : Heap) (f c : Addr) (A : Around) (outer : List Env) (s : Shared) (H : Hp) (E : XK) : Cx := (cxOf CX0 P w K mg base N_law "law" (defScope s_law) f (.ref c) A outer s H E).nox
/-- _law_caught(lambda: body) -/
theorem pe_law {f c Pt : Addr} {A : Around} {outer : List Env} {s : Shared} {H : Hp} {E : XK} {body : Expr} {scope : Scope} {t : XK → TE} {k : Nat} {p lpos pos : Pos} (M : Mod P w K mg base) (TB : TabB base mg c Pt) (hr : Room (k + 2) (XL P w K mg base f c A outer s H E).A) (L : lamSB (defScope s_law) scope = true)
    (hg : Gl (XL P w K mg base f c A outer s H E) "_law_caught")
    (hbody : ∀ (A' : Around) (outer' : List Env) (s' : Shared) (H' : Hp) (E' : XK) (f' c' : Addr), Room k (A'.deeper (lamEnv (XL P w K mg base f c A outer s H E) scope s'.heap.objs.size f' c')) → PE (lamCx (XL P w K mg base f c A outer s H E) A' outer' s' H' E' scope f' c') body (t E')) :
    PE (XL P w K mg base f c A outer s H E) (.Call (.Name "_law_caught" p) [.Lambda noArgs body scope lpos] [] pos) (tLam [(Pt, qL)] (TCaught K M.a_SeriesError) t) := by
  obtain ⟨oc, od, dV, kV, doc, pm, an, cdv, ct, osl, e, lk, hcd, hD, hK⟩ := M.F__law_caught.ex
  have bC : L2.Binds K M.d__law_caught ["work"] [] := M.b__law_caught
  rw [e] at lk bC
  exact pe_lamcall (X := XL P w K mg base f c A outer s H E) (T := [(Pt, qL)]) (a := "work") hg M.g__law_caught M.k__law_caught lk hcd bC sc__law_caught rfl (Or.inl rfl)
    (caught_gives sc__law_caught rfl rfl rfl rfl M.g_SeriesError) TB rfl (List.mem_singleton.mpr rfl) (fun p hp _ => by rw [List.mem_singleton.mp hp]; rfl) hr (lamS_by L) rfl (fun _ _ _ _ _ => rfl) hbody

end
def forBody : Stmt → List Stmt
  | .For _ _ b _ _ => b
  | _ => []
abbrev lapB : List Stmt := forBody ((defBody s_law).getD 1 (.Pass ⟨0, 0, 0, 0⟩))
abbrev oneB : List Stmt := forBody (lapB.getD 1 (.Pass ⟨0, 0, 0, 0⟩))
abbrev tailB : List Stmt := (defBody s_law).drop 2
/-- the law's slots: the draw is known -/
def Slots (a d : Addr) (σ : L2.St) : Prop := ∃ x2 x3 x4 x5 x6 x7 x8 x9 x10 x11 x12 x13, σ = [some (.ref a), some (.ref d), x2, x3, x4, x5, x6, x7, x8, x9, x10, x11, x12, x13]
abbrev aloneB : List Stmt := forBody (lapB.getD 7 (.Pass ⟨0, 0, 0, 0⟩))
theorem use_fr {cP cA : Addr} {H : Hp} {Q : VK} {E : XK} {t : Addr} {ns : List Int} {b : Nat} (ht : H t = some (.tup (ns.map V.int))) (g : Gd b ns) (hb : b ≤ 200) (q : ∀ u H', Same H H' → H' u = some (.tup ((Fk.fk ns).map V.int)) → Q (.ref u) H') : sp_franklin cP cA [.ref t] H Q E := by
  have hp := g.pt hb
  have hl := g.ln
  refine ⟨_, _, rfl, .tup ht, short_ints (by omega), pv_ints ns, fun z => ?_, fun ns' e _ => ?_⟩
  · rw [okT_yes hp] at z
    cases z
  · have e' := ints_inj e
    subst e'
    exact ⟨fun z => (by rw [g.apart] at z; cases z), fun _ => q⟩
theorem use_due {H : Hp} {Q : VK} {E : XK} {t : Addr} {ns : List Int} (ht : H t = some (.tup (ns.map V.int))) (hl : ns.length ≤ 1000) (q : ∀ u H', Same H H' → H' u = some (.tup ((Fk.fk ns).map V.int)) → Q (.ref u) H') : sp__law_due [.ref t] H Q E := ⟨t, ns, rfl, ht, hl, q⟩
theorem use_alone {H : Hp} {Q : VK} {E : XK} {t : Addr} {ns : List Int} (ht : H t = some (.tup (ns.map V.int))) (hl : ns.length ≤ 1000) (q : ∀ H', Same H H' → Q (.bl (Fk.isAlone ns)) H') : sp__law_is_alone [.ref t] H Q E := ⟨t, ns, rfl, ht, hl, q⟩
theorem tup_sta {Pt d l c t : Addr} {H : Hp} {ns : List Int} {os : List (Addr × HO)} (S : Sta Pt H d l c os) (h : (t, HO.tup (ns.map V.int)) ∈ os) : H t = some (.tup (ns.map V.int)) := (S.O _ h).1
section
variable {P : Program} {w : World} {K : PySem.W.Frag} {mg : Str → Option Value} {base : Heap} {f c Pt : Addr} {A : Around} {outer : List Env} {s : Shared} {H : Hp} {E : XK}
theorem one_ok (M : Mod P w K mg base) (hr : Room 32 (XL P w K mg base f c A outer s H E).A) :
    ∃ t, PSs (XL P w K mg base f c A outer s H E) oneB t ∧ ∀ (D : Ends) (H0 : Hp) (os : List (Addr × HO)) (ra d l cc tt : Addr) (ns : List Int) (n : Nat) (b : Int) (x2 x6 x7 x8 x9 x10 x11 x12 x13 : Option V),
      Sta Pt H0 d l cc os → (tt, HO.tup (ns.map V.int)) ∈ os → Fk.fine n ns = true →
      (∀ x6 H', Sta Pt H' d l cc os → D.nx [some (.ref ra), some (.ref d), x2, some (.int (n : Int)), some (.int (b + (if ns.length % 2 = 0 then (1 : Int) else -1))), some (.ref tt), x6, x7, x8, x9, x10, x11, x12, x13] H') →
      t D [some (.ref ra), some (.ref d), x2, some (.int (n : Int)), some (.int b), some (.ref tt), x6, x7, x8, x9, x10, x11, x12, x13] H0 := by
  have hx : ∀ {X : Cx}, Passes (L2.CX X.prog X.w) X (fun _ _ _ => False) := fun {X} => passes_call L2.takes0 (fun _ _ _ _ z => z)
  refine ⟨_, (pss_cons (ps_set (i := 6) sc_law.nd rfl (Or.inl rfl) (pe_call (ok_franklin M) (hr.mono (by decide)) rfl M.g_franklin M.k_franklin M.b_franklin .nil hx (pa_cons (pv 5) pa_nil)))
      (C8.pss_cut (ps_if (PW.pt (pw_or (pt_cmpR (op_neD hr.units) (pv 6) (pe_call (ok__law_due M) (hr.mono (by decide)) rfl M.g__law_due M.k__law_due M.b__law_due .nil pass0 (pa_cons (pv 5) pa_nil)) (nomark _)) (pw_or (pt_cmpR (op_neD hr.units) (pe_callK0 (ok_franklin M) (hr.mono (by decide)) rfl M.g_franklin M.k_franklin M.h_franklin hx (pk_cons (pv 6) pk_nil)) (pv 5) (nomark _)) (pw_or1 (pt_cmpR op_ne (pe_callB (cr_sumT rfl) (by rfl) M.sum0 (by decide +kernel) (pa_cons (pv 6) pa_nil)) (pv 3) (nomark _)))))) 
        (pss_one (ps_ret pe_bl)) pss_nil)
      (C8.pss_cut (ps_if (PW.pt (pw_or (pt_cmpR op_ne (pe_cmpR (op_eqD hr.units) (pv 6) (pv 5) (nomark _)) (pe_call (ok__law_is_alone M) (hr.mono (by decide)) rfl M.g__law_is_alone M.k__law_is_alone M.b__law_is_alone .nil pass0 (pa_cons (pv 5) pa_nil)) (nomark _)) (pw_or1 (PW.pt (pw_and (pt_cmpR (op_neD hr.units) (pv 6) (pv 5) (nomark _)) (pw_and1 (pt_cmpR op_eq (pe_op op_mod (pe_op op_add (pe_callB call_len (by rfl) M.len0 PySem.boot_len (pa_cons (pv 6) pa_nil)) (pe_callB call_len (by rfl) M.len0 PySem.boot_len (pa_cons (pv 5) pa_nil))) pe_int) pe_int (nomark _)))))))) 
        (pss_one (ps_ret pe_bl)) pss_nil)
      (pss_one (ps_set (i := 4) sc_law.nd rfl (Or.inl rfl) (pe_op op_add (pv 4) (pe_ifExp (pt_cmpR op_eq (pe_op op_mod (pe_callB call_len (by rfl) M.len0 PySem.boot_len (pa_cons (pv 5) pa_nil)) pe_int) pe_int (nomark _)) pe_int (pe_un un_neg pe_int)))))))), ?_⟩
  rintro D H0 os ra d l cc tt ns n b x2 x6 x7 x8 x9 x10 x11 x12 x13 S0 hm hf fin
  obtain ⟨g, hsum, hal, hpar⟩ := fine_gd hf
  have gl := g.ln
  have gf := g.fk
  have gfl := gf.ln
  have ff : Fk.fk (Fk.fk ns) = ns := Fk.fk_fk g.ap
  -- other
  refine ⟨_, rfl, tn <| use_fr (tup_sta S0 hm) g (by decide) fun u H1 s1 e1 => ?_⟩
  have S1 := S0.same s1
  refine ⟨fun σ' H' => σ' = [some (.ref ra), some (.ref d), x2, some (.int (n : Int)), some (.int b), some (.ref tt), some (.ref u), x7, x8, x9, x10, x11, x12, x13] ∧ Sta Pt H' d l cc os ∧ H' u = some (.tup ((Fk.fk ns).map V.int)), ?_, ?_⟩
  · refine ⟨_, rfl, _, rfl, tn <| use_due (tup_sta S1 hm) (by omega) fun u2 H2 s2 e2 => ?_⟩
    have S2 := S1.same s2
    have e2a := s2 _ _ e1
    refine ⟨tupD _, tupD _, tup_dp e2a, tup_dp e2, tup_shaped _, tup_shaped _, _, rfl, iteF' (eq_tup _) ?_⟩
    refine ⟨_, rfl, tn <| use_fr e2a gf (by decide) fun u3 H3 s3 e3 => ?_⟩
    rw [ff] at e3
    have S3 := S2.same s3
    have e3a := s3 _ _ e2a
    refine ⟨_, rfl, tupD _, tupD _, tup_dp e3, tup_dp (tup_sta S3 hm), tup_shaped _, tup_shaped _, _, rfl, iteF' (eq_tup _) ?_⟩
    refine ⟨_, rfl, _, _, rfl, SqT.of e3a, by omega, fun x hx => ?_, _, rfl, rfl, _, rfl, ?_⟩
    · have h1 := gf.hi x hx
      have h2 := gf.lo x hx
      omega
    · rw [hsum]
      exact iteF' (by simp) ⟨rfl, S3, e3a⟩
  clear S0 S1 s1 e1
  rintro σ H1 ⟨rfl, S1, e1⟩
  refine ⟨fun σ' H' => σ' = [some (.ref ra), some (.ref d), x2, some (.int (n : Int)), some (.int b), some (.ref tt), some (.ref u), x7, x8, x9, x10, x11, x12, x13] ∧ Sta Pt H' d l cc os, ?_, ?_⟩
  · refine ⟨_, rfl, _, rfl, tupD _, tupD _, tup_dp e1, tup_dp (tup_sta S1 hm), tup_shaped _, tup_shaped _, ?_⟩
    rw [eqv_tup]
    refine ⟨_, rfl, tn <| use_alone (tup_sta S1 hm) (by omega) fun H2 s2 => ?_⟩
    have S2 := S1.same s2
    have e2 := s2 _ _ e1
    refine ⟨rfl, _, rfl, iteF' (by rw [hal]; simp) ?_⟩
    refine ⟨_, rfl, _, rfl, tupD _, tupD _, tup_dp e2, tup_dp (tup_sta S2 hm), tup_shaped _, tup_shaped _, _, rfl, ?_⟩
    rw [eqv_tup]
    by_cases h : Fk.fk ns = ns
    · exact iteF' (by rw [decide_eq_true h]; rfl) (iteF ⟨rfl, S2⟩)
    · refine iteT' (by rw [decide_eq_false h]; rfl) ⟨_, rfl, _, _, rfl, .inr ⟨_, SqT.of e2, rfl⟩, _, rfl, _, _, rfl, .inr ⟨_, SqT.of (tup_sta S2 hm), rfl⟩, _, _, rfl, rfl, _, _, rfl, rfl, (by show (0 : Int) < 2; decide), rfl, _, rfl, iteF' (decide_eq_false fun z => ?_) ⟨rfl, S2⟩⟩
      rw [List.length_map, List.length_map] at z
      have z2 : ((((Fk.fk ns).length : Nat) : Int) + ((ns.length : Nat) : Int)) % 2 = 0 := by injection z
      rcases hpar with q | q
      · exact h q
      · exact q (by omega)
  clear S1 e1
  rintro σ H2 ⟨rfl, S2⟩
  refine ⟨_, rfl, _, rfl, _, _, rfl, .inr ⟨_, SqT.of (tup_sta S2 hm), rfl⟩, _, _, rfl, rfl, (by show (0 : Int) < 2; decide), rfl, _, rfl, ?_⟩
  rw [List.length_map]
  by_cases p : ns.length % 2 = 0
  · rw [if_pos p] at fin
    refine iteT' (decide_eq_true ?_) ⟨_, _, rfl, rfl, fin _ _ S2⟩
    show V.int (((ns.length : Nat) : Int) % 2) = V.int 0
    congr 1
    omega
  · rw [if_neg p] at fin
    refine iteF' (decide_eq_false fun z => ?_) ⟨_, rfl, _, _, rfl, rfl, fin _ _ S2⟩
    have z2 : ((ns.length : Nat) : Int) % 2 = 0 := by injection z
    omega
theorem alone_ok (M : Mod P w K mg base) (hr : Room 32 (XL P w K mg base f c A outer s H E).A) :
    ∃ t, PSs (XL P w K mg base f c A outer s H E) aloneB t ∧ ∀ (D : Ends) (H0 : Hp) (os : List (Addr × HO)) (ra d l cc tt : Addr) (ns : List Int) (x2 x3 x4 x5 x6 x7 x8 x9 x11 x12 x13 : Option V),
      Sta Pt H0 d l cc os → (tt, HO.tup (ns.map V.int)) ∈ os → Gd 100 ns → Fk.fk ns = ns →
      (∀ H', Sta Pt H' d l cc os → D.nx [some (.ref ra), some (.ref d), x2, x3, x4, x5, x6, x7, x8, x9, some (.ref tt), x11, x12, x13] H') →
      t D [some (.ref ra), some (.ref d), x2, x3, x4, x5, x6, x7, x8, x9, some (.ref tt), x11, x12, x13] H0 := by
  have hx : ∀ {X : Cx}, Passes (L2.CX X.prog X.w) X (fun _ _ _ => False) := fun {X} => passes_call L2.takes0 (fun _ _ _ _ z => z)
  refine ⟨_, (pss_one (ps_if (pt_cmpR (op_neD hr.units) (pe_call (ok_franklin M) (hr.mono (by decide)) rfl M.g_franklin M.k_franklin M.b_franklin .nil hx (pa_cons (pv 10) pa_nil)) (pv 10) (nomark _)) 
        (pss_one (ps_ret pe_bl)) pss_nil)), ?_⟩
  rintro D H0 os ra d l cc tt ns x2 x3 x4 x5 x6 x7 x8 x9 x11 x12 x13 S0 hm g ef fin
  refine ⟨_, rfl, tn <| use_fr (tup_sta S0 hm) g (by decide) fun u H1 s1 e1 => ?_⟩
  rw [ef] at e1
  have S1 := S0.same s1
  exact ⟨_, rfl, tupD _, tupD _, tup_dp e1, tup_dp (tup_sta S1 hm), tup_shaped _, tup_shaped _, _, rfl, iteF' (eq_tup _) (fin _ S1)⟩
end
end K81

set_option Elab.async false
set_option linter.all false
set_option maxRecDepth 100000
set_option maxHeartbeats 4000000
set_option pp.maxSteps 3000
set_option exponentiation.threshold 500000
namespace K81
open PySem PySem.Spec PyProof.Rows L2 Dr Xv LamX Ps Gn
def zipN (ts : List Addr) (ps : List (List Int)) : List (Addr × HO) := List.zipWith (fun t ns => (t, HO.tup (ns.map V.int))) ts ps
theorem mem_zipN {ts : List Addr} {ps : List (List Int)} {x : Addr × HO} (h : x ∈ zipN ts ps) : ∃ (i : Nat) (ns : List Int), ts[i]? = some x.1 ∧ ps[i]? = some ns ∧ x.2 = .tup (ns.map V.int) := by
  obtain ⟨i, hi⟩ := List.mem_iff_getElem?.mp h
  unfold zipN at hi
  rw [List.getElem?_zipWith] at hi
  cases h1 : ts[i]? with
  | none =>
    rw [h1] at hi
    cases hi
  | some t =>
    cases h2 : ps[i]? with
    | none =>
      rw [h1, h2] at hi
      cases hi
    | some ns =>
      rw [h1, h2] at hi
      cases hi
      exact ⟨i, ns, h1, h2, rfl⟩
theorem zipN_mem {ts : List Addr} {ps : List (List Int)} {i : Nat} {t : Addr} {ns : List Int} (h1 : ts[i]? = some t) (h2 : ps[i]? = some ns) : (t, HO.tup (ns.map V.int)) ∈ zipN ts ps := by
  refine List.mem_iff_getElem?.mpr ⟨i, ?_⟩
  unfold zipN
  rw [List.getElem?_zipWith, h1, h2]
theorem zipN_fst : ∀ {ts : List Addr} {ps : List (List Int)}, ts.length = ps.length → (zipN ts ps).map (·.1) = ts
  | [], [], _ => rfl
  | [], _ :: _, h => by cases h
  | _ :: _, [], h => by cases h
  | t :: ts, p :: ps, h => congrArg (t :: ·) (zipN_fst (ts := ts) (ps := ps) (by simpa using h))
theorem TupI.of {H : Hp} {ts : List Addr} {ps : List (List Int)} (hl : ts.length = ps.length) (h : ∀ x ∈ zipN ts ps, H x.1 = some x.2) : TupI H ts ps :=
  ⟨hl, fun i t ns e1 e2 => h _ (zipN_mem e1 e2)⟩
theorem resNew {Pt d l c p : Addr} {H H' : Hp} {os : List (Addr × HO)} {ts : List Addr} {ps : List (List Int)} (S : Sta Pt H d l c os) (hp : H p = none) (s : Same H H') (N : New H H' p ts ps) : Sta Pt H' d l c ((p, .lst (ts.map V.ref)) :: (zipN ts ps ++ os)) := by
  have S' := S.same s
  refine ⟨S'.W, fun x hx => ?_, List.pairwise_cons.mpr ⟨fun x hx => ?_, List.pairwise_append.mpr ⟨?_, S.P, fun x hx y hy => ?_⟩⟩⟩
  · rcases List.mem_cons.mp hx with rfl | hx
    · have n := S.W.dr.ne hp
      exact ⟨N.li, n.1, n.2.1, n.2.2, fun _ e => nomatch e⟩
    · rcases List.mem_append.mp hx with hx | hx
      · obtain ⟨i, ns, h1, h2, h3⟩ := mem_zipN hx
        have n := S.W.dr.ne (N.fr _ (List.mem_of_getElem? h1)).1
        exact ⟨by rw [h3]; exact N.tu.2 i _ ns h1 h2, n.1, n.2.1, n.2.2, fun _ e => by rw [h3] at e; cases e⟩
      · exact S'.O x hx
  · rcases List.mem_append.mp hx with hx | hx
    · obtain ⟨i, ns, h1, _⟩ := mem_zipN hx
      exact (N.fr _ (List.mem_of_getElem? h1)).2.symm
    · exact (ne_of_none (S.O x hx).1 hp).symm
  · have z : ((zipN ts ps).map (·.1)).Nodup := by
      rw [zipN_fst N.tu.1]
      exact N.nd
    exact List.pairwise_map.mp z
  · obtain ⟨i, ns, h1, _⟩ := mem_zipN hx
    exact (ne_of_none (S.O y hy).1 (N.fr _ (List.mem_of_getElem? h1)).1).symm
theorem use_uw {H : Hp} {Q : VK} {E : XK} {n : Nat} {v : Int} (ev : v = (n : Int)) (hn : n < 31) (q : ∀ (p : Addr) (H' : Hp) (ts : List Addr), H p = none → Same H H' → New H H' p ts (Fk.uw 31 n n) → Q (.ref p) H') : sp_uw 31 [.int v, .int v] H Q E := by
  subst ev
  have := Fk.uw_short n hn
  exact ⟨n, n, rfl, Nat.le_of_lt_succ hn, by omega, by omega, Nat.le_trans this (by decide), q⟩
theorem use_lr {a : Addr} {H : Hp} {Q : VK} {E : XK} (h : H a = some (.dK [(.inl 1, .int 1)])) (k : ∀ (p : Addr) (H' : Hp), H p = none → Same H H' → H' p = some (.lst (rowOf 31 E30)) → Q (.ref p) H') : sp__law_row [.ref a, .int 30] H Q E := ⟨a, rfl, h, k⟩
theorem tnC {v : V} {t : TA} {σ : L2.St} {H : Hp} {Q : List V → Hp → Prop} (h : t σ H fun xs H2 => Q (v :: xs) H2) : tCons (tC v) t σ H Q := h
theorem bal_E30 : ∀ n, n < 31 → Fk.bal (Fk.uw 31 n n) = E30 n := by decide +kernel
theorem bal_succ {ps : List (List Int)} {i : Nat} {ns : List Int} (h : ps[i]? = some ns) : Fk.bal (ps.take (i + 1)) = Fk.bal (ps.take i) + (if ns.length % 2 = 0 then (1 : Int) else -1) := by
  unfold Fk.bal
  rw [List.take_succ, h]
  show (List.map _ (ps.take i ++ [ns])).sum = _
  rw [List.map_append, List.sum_append]
  show _ + ((if ns.length % 2 = 0 then (1 : Int) else -1) + 0) = _
  rw [Int.add_zero]
theorem alone_gd : ∀ k, k < 31 → Fk.apB (Fk.alone1 k) = true ∧ Fk.apB (Fk.alone2 k) = true := by decide
theorem gd_of {ns : List Int} (h : Fk.apB ns = true) (hl : ns.length ≤ 100) : Gd 100 ns := by
  obtain ⟨h1, h2⟩ := Fk.apB_ok h
  exact ⟨h1, hl, h2⟩
theorem gl_app {ns : List Int} {x : Int} {i : Nat} : Fk.gl (ns ++ [x]) i = if i < ns.length then Fk.gl ns i else if i = ns.length then x else 0 := by
  unfold Fk.gl
  rw [List.getD_eq_getElem?_getD, List.getD_eq_getElem?_getD]
  by_cases h : i < ns.length
  · rw [if_pos h, List.getElem?_append_left h]
  · rw [if_neg h, List.getElem?_append_right (by omega)]
    by_cases k : i = ns.length
    · rw [if_pos k, k, Nat.sub_self]
      rfl
    · rw [if_neg k, List.getElem?_eq_none (by rw [List.length_singleton]; omega)]
      rfl
theorem ap_snoc {ns : List Int} {x : Int} (h : Fk.Ap ns.length (Fk.gl ns)) (h1 : 1 ≤ x) (h2 : ∀ y ∈ ns, x < y) : Fk.Ap (ns ++ [x]).length (Fk.gl (ns ++ [x])) := by
  rw [List.length_append, List.length_singleton]
  refine ⟨fun i hi => ?_, fun i hi => ?_⟩
  · rw [gl_app, gl_app, if_pos (by omega : i < ns.length)]
    by_cases c : i + 1 < ns.length
    · rw [if_pos c]
      exact h.ds i c
    · rw [if_neg c, if_pos (by omega)]
      exact h2 _ (List.mem_of_getElem? (Fk.get_gl (by omega)))
  · rw [gl_app]
    by_cases c : i < ns.length
    · rw [if_pos c]
      exact h.ps i c
    · rw [if_neg c, if_pos (by omega)]
      exact h1
theorem all_flat (ns : List Int) : (ns.map V.int).all L2.flatV = true := List.all_eq_true.mpr fun v hv => by
  obtain ⟨z, _, rfl⟩ := List.mem_map.mp hv
  rfl
section
variable {P : Program} {w : World} {K : PySem.W.Frag} {mg : Str → Option Value} {base : Heap} {f c Pt : Addr} {A : Around} {outer : List Env} {s : Shared} {H : Hp} {E : XK}
theorem lap_ok (M : Mod P w K mg base) (hr : Room 33 (XL P w K mg base f c A outer s H E).A) :
    ∃ t, PSs (XL P w K mg base f c A outer s H E) lapB t ∧ ∀ (D : Ends) (σ : L2.St) (H0 : Hp) (os : List (Addr × HO)) (a d l cc : Addr), Slots a d σ → Sta Pt H0 d l cc os → (∀ σ' H', Slots a d σ' → Sta Pt H' d l cc os → D.nx σ' H') → t D σ H0 := by
  have hx : ∀ {X : Cx}, Passes (L2.CX X.prog X.w) X (fun _ _ _ => False) := fun {X} => passes_call L2.takes0 (fun _ _ _ _ z => z)
  obtain ⟨tO, hO, rO⟩ := one_ok (f := f) (c := c) (A := A) (outer := outer) (s := s) (H := H) (E := E) (Pt := Pt) M (hr.mono (by decide))
  obtain ⟨tA, hA, rA⟩ := alone_ok (f := f) (c := c) (A := A) (outer := outer) (s := s) (H := H) (E := E) (Pt := Pt) M (hr.mono (by decide))
  refine ⟨_, (pss_cons (ps_par (i := 3) (j := 4) (by rfl) sc_law.nd rfl rfl (by decide) rfl rfl (pa_cons (pe_call (ok__law_take M) (hr.mono (by decide)) rfl M.g__law_take M.k__law_take M.b__law_take .nil pass0 (pa_cons (pv 1) (pa_cons pe_int pa_nil))) (pa_cons pe_int pa_nil)) (by rfl))
      (pss_cons (ps_for PassesOwn.never rfl (pi_list (pe_call (ok__law_unlike M 31) (hr.mono (by decide)) rfl M.g__law_unlike M.k__law_unlike M.b__law_unlike .nil pass0 (pa_cons (pv 3) (pa_cons (pv 3) pa_nil)))) (pg_name (i := 5) sc_law.nd rfl (Or.inl rfl)) hO)
      (C8.pss_cut (ps_if (pt_cmpR op_ne (pv 4) (pe_ix ix_list (pe_call (ok__law_row M) (hr.mono (by decide)) rfl M.g__law_row M.k__law_row M.b__law_row .nil pass0 (pa_cons (pe_disp (pps_cons pe_int pe_int pps_nil) (by rfl) (by rfl) (fun z => by cases z) (by decide)) (pa_cons pe_int pa_nil))) (pv 3) (fun _ _ => rfl)) (nomark _)) 
        (pss_one (ps_ret pe_bl)) pss_nil)
      (pss_cons (ps_set (i := 7) sc_law.nd rfl (Or.inr rfl) (pe_lc (own := [("k", 9)]) (g := (gName 9)) (by rfl) sc_law.nd (pi_range1 (by rfl) M.range0 (pa_cons (pe_op op_add pe_int (pe_call (ok__law_take M) (hr.mono (by decide)) rfl M.g__law_take M.k__law_take M.b__law_take .nil pass0 (pa_cons (pv 1) (pa_cons pe_int pa_nil)))) pa_nil)) (blkOk_by (own := [("k", 9)]) (N := N_law) (sc := defScope s_law) (by decide +kernel))
        (fun _ _ _ _ _ => (pg_name (i := 9) sc_law.nd rfl (Or.inl rfl))) (fun _ _ _ _ _ => pts_nil) (fun _ _ _ _ _ => (pe_op op_add pe_int (pe_call (ok__law_take M) (hr.mono (by decide)) rfl M.g__law_take M.k__law_take M.b__law_take .nil pass0 (pa_cons (pv 1) (pa_cons pe_int pa_nil)))))))
      (pss_cons (ps_setLc (i := 8) (own := [("part", 13)]) (g := (gName 13)) (by rfl) sc_law.nd rfl rfl (sw_true rfl rfl rfl (by decide +kernel)) (pi_range3 (by rfl) M.range0 (pa_cons pe_int (pa_cons pe_int (pa_cons (pe_un un_neg pe_int) pa_nil)))) (blkOk_by (own := [("part", 13)]) (N := N_law) (sc := defScope s_law) (by decide +kernel))
        (fun _ _ _ _ _ => (pg_name (i := 13) sc_law.nd rfl (Or.inl rfl))) (fun _ _ _ _ _ => (pts_one (pt_cmpR (r := rIn K false) op_in_seq (pv 13) (pv 7) (by rfl)))) (fun _ _ _ _ _ => (pv 13)))
      (C8.pss_cut (ps_if (PW.pt (pw_or (pt_cmpR (op_neD hr.units) (pe_call (ok_franklin M) (hr.mono (by decide)) rfl M.g_franklin M.k_franklin M.b_franklin .nil hx (pa_cons (pe_callTy call_tuple_of (by rfl) M.tuple0 (by decide +kernel) (pa_cons (pv 8) pa_nil)) pa_nil)) (pe_call (ok__law_due M) (hr.mono (by decide)) rfl M.g__law_due M.k__law_due M.b__law_due .nil pass0 (pa_cons (pe_callTy call_tuple_of (by rfl) M.tuple0 (by decide +kernel) (pa_cons (pv 8) pa_nil)) pa_nil)) (nomark _)) (pw_or1 (pt_cmpR (op_neD hr.units) (pe_call (ok_franklin M) (hr.mono (by decide)) rfl M.g_franklin M.k_franklin M.b_franklin .nil hx (pa_cons (pe_call (ok_franklin M) (hr.mono (by decide)) rfl M.g_franklin M.k_franklin M.b_franklin .nil hx (pa_cons (pe_callTy call_tuple_of (by rfl) M.tuple0 (by decide +kernel) (pa_cons (pv 8) pa_nil)) pa_nil)) pa_nil)) (pe_callTy call_tuple_of (by rfl) M.tuple0 (by decide +kernel) (pa_cons (pv 8) pa_nil)) (nomark _))))) 
        (pss_one (ps_ret pe_bl)) pss_nil)
      (pss_cons (ps_set (i := 9) sc_law.nd rfl (Or.inl rfl) (pe_op op_add pe_int (pe_call (ok__law_take M) (hr.mono (by decide)) rfl M.g__law_take M.k__law_take M.b__law_take .nil pass0 (pa_cons (pv 1) (pa_cons pe_int pa_nil)))))
      (pss_one (ps_for PassesOwn.never rfl (pi_list (pe_lst (pa_cons (pe_callTy (call_tuple_rg3 rfl) (by rfl) M.tuple0 (by decide +kernel) (pa_cons (pe_callTy cr_range3 (by rfl) M.range0 (by decide +kernel) (pa_cons (pe_op op_sub (pe_op op_mul pe_int (pv 9)) pe_int) (pa_cons (pe_op op_sub (pv 9) pe_int) (pa_cons (pe_un un_neg pe_int) pa_nil)))) pa_nil)) (pa_cons (pe_callTy (call_tuple_rg3 rfl) (by rfl) M.tuple0 (by decide +kernel) (pa_cons (pe_callTy cr_range3 (by rfl) M.range0 (by decide +kernel) (pa_cons (pe_op op_mul pe_int (pv 9)) (pa_cons (pv 9) (pa_cons (pe_un un_neg pe_int) pa_nil)))) pa_nil)) pa_nil)))) (pg_name (i := 10) sc_law.nd rfl (Or.inl rfl)) hA))))))))), ?_⟩
  rintro D σ H0 os a d l cc ⟨x2, x3, x4, x5, x6, x7, x8, x9, x10, x11, x12, x13, rfl⟩ S0 fin
  -- n
  refine ⟨_, rfl, d, l, cc, 31, rfl, S0.dr, by decide, by decide, fun v H1 v0 v1 D1 s1 => ?_⟩
  have S1 := S0.sx s1 D1
  obtain ⟨n, rfl⟩ : ∃ n : Nat, v = (n : Int) := ⟨v.toNat, by omega⟩
  have hn : n < 31 := by omega
  clear S0 s1 D1 v0 v1
  refine ⟨_, _, rfl, ?_⟩
  -- for partition
  refine ⟨_, rfl, _, rfl, tn <| use_uw rfl hn fun p H2 ts hp s2 N2 => ?_⟩
  have S2 := resNew S1 hp s2 N2
  have hlt := N2.tu.1
  clear S1 N2 hp s2
  obtain ⟨ps, eps⟩ : ∃ ps, ps = Fk.uw 31 n n := ⟨_, rfl⟩
  rw [← eps] at S2 hlt
  refine ⟨p, rfl, ⟨_, SqL.of (S2.g 0 rfl)⟩, for_list (K := K) (a := p) (xs := ts.map V.ref) (fun i σ H' => ∃ x5 x6, σ = [some (.ref a), some (.ref d), x2, some (.int (n : Int)), some (.int (Fk.bal (ps.take i))), x5, x6, x7, x8, x9, x10, x11, x12, x13] ∧ Sta Pt H' d l cc ((p, .lst (ts.map V.ref)) :: (zipN ts ps ++ os))) ⟨_, _, rfl, S2⟩ (fun i σ H' _ ⟨_, _, _, S⟩ => SqL.of (S.g 0 rfl)) ?_ ?_⟩
  · clear S2
    rintro i x σ H3 hi ⟨x5, x6, rfl, S3⟩
    rw [List.getElem?_map] at hi
    cases ht : ts[i]? with
    | none =>
      rw [ht] at hi
      cases hi
    | some t =>
      rw [ht] at hi
      cases hi
      have hil : i < ps.length := by
        rw [← hlt]
        exact (List.getElem?_eq_some_iff.mp ht).1
      have hns : ps[i]? = some ps[i] := List.getElem?_eq_getElem hil
      have hf : Fk.fine n ps[i] = true := List.all_eq_true.mp (by rw [eps]; exact Fk.fine_all n hn) _ (List.getElem_mem hil)
      refine rO _ _ _ _ _ _ _ t ps[i] n _ _ _ _ _ _ _ _ _ _ S3 (List.mem_cons_of_mem _ (List.mem_append_left _ (zipN_mem ht hns))) hf fun x6 H4 S4 => ⟨some (.ref t), x6, ?_, S4⟩
      rw [bal_succ hns]
  rintro σ H3 ⟨x5, x6, rfl, S3⟩
  rw [List.length_map, hlt, List.take_length, eps, bal_E30 n hn]
  have S3 := S3.sub (os' := os) (.cons _ (List.sublist_append_right _ _))
  clear S2 hlt eps
  -- balance
  refine ⟨fun σ' H' => ∃ x4, σ' = [some (.ref a), some (.ref d), x2, some (.int (n : Int)), x4, x5, x6, x7, x8, x9, x10, x11, x12, x13] ∧ Sta Pt H' d l cc os, ?_, ?_⟩
  · refine ⟨_, rfl, fun a5 h5 => ⟨upd_same, [(.inl 1, .int 1)], rfl, (by decide), ?_⟩⟩
    have s5 : Same H3 (upd (upd H3 a5 (.dK [])) a5 (.dK (mergeK [] [(.inl 1, .int 1)]))) := fun b o e => by
      rw [upd_ne (ne_of_none e h5), upd_ne (ne_of_none e h5)]
      exact e
    have S5 := S3.res (o := .dK (mergeK [] [(.inl 1, .int 1)])) h5 s5 upd_same (fun _ e => nomatch e)
    generalize upd (upd H3 a5 (.dK [])) a5 (.dK (mergeK [] [(.inl 1, .int 1)])) = H5 at S5 ⊢
    refine tn0 <| use_lr (S5.g 0 rfl) fun r2 H6 hr2 s6 h6 => ?_
    have S6 := S5.same s6
    refine ⟨_, rfl, r2, _, _, .int (E30 n), rfl, rfl, SqL.of h6, row_val (by omega), rfl, _, rfl, iteF' (by simp) ⟨_, rfl, S6.tl⟩⟩
  clear S3
  rintro σ H4 ⟨x4, rfl, S4⟩
  -- drawn
  refine ⟨_, rfl, d, l, cc, 25, rfl, S4.dr, by decide, by decide, fun v H5 v0 v1 D5 s5 => ?_⟩
  have S5 := S4.sx s5 D5
  clear S4 s5 D5
  refine ⟨_, _, rfl, rfl, _, rfl, by omega, by omega, fun Dd hD => ?_⟩
  have S6 := S5.newL (xs := []) hD
  refine lc_range (lo := 0) (n := (1 + v).toNat) (fun i H' => ∃ zs : List Int, zs.length = i ∧ Sta Pt H' d l cc ((Dd, .lst (zs.map V.int)) :: os)) ⟨[], rfl, S6⟩ ?_ ?_
  · clear S5 S6 hD
    rintro i H6 hi ⟨zs, hz, S6⟩
    refine ⟨rfl, yesT ⟨_, rfl, d, l, cc, 60, rfl, S6.dr, by decide, by decide, fun v H8 v0 v1 D8 s8 => ?_⟩⟩
    have S9 := S6.sx s8 D8
    refine ⟨_, _, rfl, rfl, _, S9.g 0 rfl, ?_, zs ++ [1 + v], by rw [List.length_append, hz]; rfl, ?_⟩
    · rw [List.length_map, sizeLine_eq]
      omega
    · rw [List.map_append]
      exact S9.put
  clear S5 S6 hD
  rintro H6 ⟨zs, hz, S6⟩
  -- some
  have rg : RgC 60 0 (-1) 60 := RgC.neg (i := 60) (j := 0) (by decide) (by decide) (by decide) (by decide)
  refine ⟨1, rfl, 60, 0, -1, 60, rfl, rg, fun D8 hD8 => ?_⟩
  have S7 := S6.newL (xs := []) hD8
  refine lc_it walk_rangeC (fun i H' => ∃ ws : List Int, ws.length ≤ i ∧ Fk.Ap ws.length (Fk.gl ws) ∧ (∀ x ∈ ws, x ≤ 60 ∧ 60 - (i : Int) < x) ∧ Sta Pt H' d l cc ((D8, .lst (ws.map V.int)) :: (Dd, .lst (zs.map V.int)) :: os)) ⟨[], Nat.le_refl _, ⟨fun i h => absurd h (by simp), fun i h => absurd h (by simp)⟩, (fun x h => by cases h), S7⟩ (fun _ _ _ _ => trivial) ?_ ?_
  · clear S6 S7 hD8
    rintro i x H7 H8 hi ⟨ws, hw, wa, wb, S7⟩ ⟨rfl, rfl⟩
    have ei : (60 : Int) + (i : Int) * -1 = 60 - (i : Int) := by omega
    show gName 13 (V.int (60 + (i : Int) * -1)) _ _ _
    rw [ei]
    refine ⟨rfl, _, rfl, _, rfl, Dd, _, rfl, .inl (SqL.of (S7.g 1 rfl)), rfl, all_flat _, _, rfl, ?_⟩
    cases inV (V.int (60 - (i : Int))) (zs.map V.int) with
    | true =>
      refine iteT ⟨_, rfl, _, S7.g 0 rfl, ?_, ws ++ [60 - (i : Int)], ?_, ap_snoc wa (by omega) fun y hy => (wb y hy).2, fun y hy => ?_, ?_⟩
      · rw [List.length_map, sizeLine_eq]
        omega
      · rw [List.length_append, List.length_singleton]
        omega
      · rcases List.mem_append.mp hy with h | h
        · have := wb y h
          omega
        · rw [List.mem_singleton.mp h]
          omega
      · rw [List.map_append]
        exact S7.put
    | false => exact iteF ⟨ws, by omega, wa, fun y hy => by have := wb y hy; omega, S7⟩
  clear S6 S7 hD8
  rintro H8 ⟨ws, hw, wa, wb, S8⟩
  have g : Gd 60 ws := ⟨wa, hw, fun x hx => (wb x hx).1⟩
  have gf := g.fk
  have ff : Fk.fk (Fk.fk ws) = ws := Fk.fk_fk g.ap
  refine ⟨fun σ' H' => ∃ x7 x8, σ' = [some (.ref a), some (.ref d), x2, some (.int (n : Int)), x4, x5, x6, x7, x8, x9, x10, x11, x12, x13] ∧ Sta Pt H' d l cc os, ?_, ?_⟩
  · refine ⟨_, rfl, D8, _, rfl, .inl ⟨SqL.of (S8.g 0 rfl), fun q1 h1 => tn <| use_fr upd_same g (by decide) fun u1 H9 s9 e9 => ?_⟩⟩
    have S9 := S8.same ((same_new h1).trans s9)
    refine ⟨_, rfl, D8, _, rfl, .inl ⟨SqL.of (S9.g 0 rfl), fun q2 h2 => tn <| use_due upd_same (by have := g.ln; omega) fun u2 H10 s10 e10 => ?_⟩⟩
    have S10 := S9.same ((same_new h2).trans s10)
    refine ⟨tupD _, tupD _, tup_dp (s10 _ _ ((same_new h2) _ _ e9)), tup_dp e10, tup_shaped _, tup_shaped _, _, rfl, iteF' (eq_tup _) ?_⟩
    refine ⟨_, rfl, D8, _, rfl, .inl ⟨SqL.of (S10.g 0 rfl), fun q3 h3 => tn <| use_fr upd_same g (by decide) fun u3 H11 s11 e11 => tn <| use_fr e11 gf (by decide) fun u4 H12 s12 e12 => ?_⟩⟩
    rw [ff] at e12
    have S12 := S10.same ((same_new h3).trans (s11.trans s12))
    refine ⟨_, rfl, D8, _, rfl, .inl ⟨SqL.of (S12.g 0 rfl), fun q4 h4 => ?_⟩⟩
    have S13 := S12.same (same_new (o := .tup (ws.map V.int)) h4)
    exact ⟨tupD _, tupD _, tup_dp ((same_new h4) _ _ e12), tup_dp upd_same, tup_shaped _, tup_shaped _, _, rfl, iteF' (eq_tup _) ⟨_, _, rfl, S13.tl.tl⟩⟩
  clear S8 g gf ff wa wb hw rg
  rintro σ H9 ⟨x7, x8, rfl, S9⟩
  -- k
  refine ⟨_, rfl, d, l, cc, 30, rfl, S9.dr, by decide, by decide, fun v H10 v0 v1 D10 s10 => ⟨_, _, rfl, rfl, ?_⟩⟩
  have S10 := S9.sx s10 D10
  clear S9 s10 D10
  obtain ⟨k, ek⟩ : ∃ k : Nat, 1 + v = (k : Int) := ⟨(1 + v).toNat, by omega⟩
  have hk : k < 31 := by omega
  dsimp only
  rw [ek]
  obtain ⟨f1, f2⟩ := Fk.alone_fk k hk
  obtain ⟨a1, a2⟩ := alone_gd k hk
  have l1 : (Fk.alone1 k).length ≤ 100 := by
    unfold Fk.alone1
    rw [Fk.mk_len]
    omega
  have l2 : (Fk.alone2 k).length ≤ 100 := by
    unfold Fk.alone2
    rw [Fk.mk_len]
    omega
  refine ⟨_, rfl, _, _, rfl, rfl, .inl ⟨by decide, by decide⟩, _, _, rfl, rfl, _, rfl, _, _, rfl, rfl, 1, rfl, _, _, -1, rfl, by decide, by decide, fun r1 h1 => ?_⟩
  have S11 := S10.same (same_new (o := RgX r1 (2 * (k : Int) - 1) ((k : Int) - 1) (-1)) h1)
  refine ⟨r1, _, _, _, k, rfl, upd_same, rgc1 k (by omega), by omega, fun t1 h2 => ?_⟩
  rw [rg_alone1]
  have S12 := S11.newT (xs := (Fk.alone1 k).map V.int) h2
  generalize upd (upd H10 r1 (RgX r1 (2 * (k : Int) - 1) ((k : Int) - 1) (-1))) t1 (.tup ((Fk.alone1 k).map V.int)) = H12 at S12 ⊢
  clear S10 S11 h1 h2
  refine ⟨_, rfl, _, _, rfl, rfl, .inl ⟨by decide, by decide⟩, _, rfl, 1, rfl, _, _, -1, rfl, by decide, by decide, fun r2 h3 => ?_⟩
  have S13 := S12.same (same_new (o := RgX r2 (2 * (k : Int)) (k : Int) (-1)) h3)
  refine ⟨r2, _, _, _, k, rfl, upd_same, rgc2 k (by omega), by omega, fun t2 h4 => ?_⟩
  rw [rg_alone2]
  have S14 := S13.newT (xs := (Fk.alone2 k).map V.int) h4
  generalize upd (upd H12 r2 (RgX r2 (2 * (k : Int)) (k : Int) (-1))) t2 (.tup ((Fk.alone2 k).map V.int)) = H14 at S14 ⊢
  clear S12 S13 h3 h4
  refine ⟨(by show 2 ≤ sizeLine; decide), fun lp hlp => ?_⟩
  have S15 := S14.newL (xs := [.ref t1, .ref t2]) hlp
  generalize upd H14 lp (.lst [V.ref t1, V.ref t2]) = H15 at S15 ⊢
  clear S14 hlp
  refine ⟨lp, rfl, ⟨_, SqL.of (S15.g 0 rfl)⟩, for_list (K := K) (a := lp) (xs := [.ref t1, .ref t2]) (fun i σ H' => ∃ x10, σ = [some (.ref a), some (.ref d), x2, some (.int (n : Int)), x4, x5, x6, x7, x8, some (.int (k : Int)), x10, x11, x12, x13] ∧ Sta Pt H' d l cc ((lp, .lst [.ref t1, .ref t2]) :: (t2, .tup ((Fk.alone2 k).map V.int)) :: (t1, .tup ((Fk.alone1 k).map V.int)) :: os)) ⟨_, rfl, S15⟩ (fun i σ H' _ ⟨_, _, S⟩ => SqL.of (S.g 0 rfl)) ?_ ?_⟩
  · clear S15
    rintro i x σ H16 hi ⟨x10, rfl, S16⟩
    match i, hi with
    | 0, hi =>
      cases hi
      exact rA _ _ _ _ _ _ _ t1 (Fk.alone1 k) _ _ _ _ _ _ _ _ _ _ _ S16 (by simp) (gd_of a1 l1) f1 fun H' S' => ⟨_, rfl, S'⟩
    | 1, hi =>
      cases hi
      exact rA _ _ _ _ _ _ _ t2 (Fk.alone2 k) _ _ _ _ _ _ _ _ _ _ _ S16 (by simp) (gd_of a2 l2) f2 fun H' S' => ⟨_, rfl, S'⟩
  · rintro σ H16 ⟨x10, rfl, S16⟩
    exact fin _ _ ⟨_, _, _, _, _, _, _, _, _, _, _, _, rfl⟩ S16.tl.tl.tl
end
end K81

set_option Elab.async false
set_option linter.all false
set_option maxRecDepth 100000
set_option maxHeartbeats 4000000
set_option pp.maxSteps 3000
set_option exponentiation.threshold 500000
namespace K81
open PySem PySem.Spec PyProof.Rows L2 Dr Xv LamX Ps Gn
def flV : V → Bool
  | .non => true
  | .bl _ => true
  | .int _ => true
  | .str _ => true
  | _ => false
theorem flat_pv {H : Hp} {v : V} (h : flV v = true) : PV H v := by
  cases v with
  | non => exact .non
  | bl b => exact .bl b
  | int i => exact .int i
  | str x => exact .str x
  | _ => cases h
/-- no partition, wherever these objects are -/
def BadP (os : List (Addr × HO)) (v : V) : Prop := ∀ H : Hp, (∀ x ∈ os, H x.1 = some x.2) → ∃ o, Tp H v o ∧ short o ∧ AllPV H o ∧ okT o = false
theorem bad_tup {os : List (Addr × HO)} {a : Addr} {xs : List V} (h : (a, HO.tup xs) ∈ os) (hf : xs.all flV = true) (hl : xs.length ≤ 1000) (ho : okT (some xs) = false) : BadP os (.ref a) := by
  refine fun H hH => ⟨some xs, .tup (hH _ h), fun ys e => ?_, fun ys e v hv => ?_, ho⟩
  · cases e
    rw [sizeLine_eq]
    omega
  · cases e
    exact flat_pv (List.all_eq_true.mp hf v hv)
theorem no_tup {H : Hp} {v : V} (h : Tp H v none) : ∃ o, Tp H v o ∧ short o ∧ AllPV H o ∧ okT o = false := ⟨none, h, (fun _ e => by cases e), (fun _ e => by cases e), rfl⟩
theorem fr_bad {cP cA : Addr} {os : List (Addr × HO)} {v : V} {H : Hp} {Q : VK} {E : XK} (hb : BadP os v) (hH : ∀ x ∈ os, H x.1 = some x.2) (q : ∀ H', Same H H' → E (.ref cP) none H') : sp_franklin cP cA [v] H Q E := by
  obtain ⟨o, h1, h2, h3, h4⟩ := hb H hH
  refine ⟨v, o, rfl, h1, h2, h3, fun _ => q, fun ns e hp => ?_⟩
  rw [e, okT_yes hp] at h4
  cases h4
theorem fr_twice {cP cA t : Addr} {ns : List Int} {H : Hp} {Q : VK} {E : XK} (ht : H t = some (.tup (ns.map V.int))) (hp : Pt.isPt ns = true) (ha : apart ns = false) (q : ∀ H', Same H H' → E (.ref cA) none H') : sp_franklin cP cA [.ref t] H Q E := by
  have hl := (Pt.isPt_par hp).2.1
  refine ⟨_, _, rfl, .tup ht, short_ints (by omega), pv_ints ns, fun z => ?_, fun ns' e _ => ?_⟩
  · rw [okT_yes hp] at z
    cases z
  · have e' := ints_inj e
    subst e'
    exact ⟨fun _ => q, fun z => by rw [ha] at z; cases z⟩
section
variable {P : Program} {w : World} {K : PySem.W.Frag} {mg : Str → Option Value} {base : Heap} {f c Pt : Addr} {A : Around} {outer : List Env} {s : Shared} {H : Hp} {E : XK}
theorem tail_ok (M : Mod P w K mg base) (TB : TabB base mg c Pt) (hr : Room 33 (XL P w K mg base f c A outer s H E).A) :
    ∃ t, PSs (XL P w K mg base f c A outer s H E) tailB t ∧ ∀ (D : Ends) (σ : L2.St) (H0 : Hp) (os : List (Addr × HO)) (ra d l cc : Addr), Slots ra d σ → Sta Pt H0 d l cc os → (∀ H', D.rt (.bl true) H') → t D σ H0 := by
  have hrL : Room 33 (XL P w K mg base f c A outer s H E).A := hr
  have hx : ∀ {X : Cx}, Passes (L2.CX X.prog X.w) X (fun _ _ _ => False) := fun {X} => passes_call L2.takes0 (fun _ _ _ _ z => z)
  refine ⟨_, (pss_cons (ps_set (i := 11) sc_law.nd rfl (Or.inl rfl) (pe_law (t := fun E' => (tCall (sp_franklin M.a_BadPartition M.a_NotApart) [] E' (tCons (tCall (spPick K) [] E0 (tCons (tVar 1) (tCons (tLst (tCons (tTup (tCons (tC (.int 1)) (tCons (tC (.int 1)) tNil))) (tCons (tTup (tCons (tC (.int 5)) (tCons (tC (.int 5)) (tCons (tC (.int 2)) tNil)))) (tCons (tTup (tCons (tC (.int 3)) (tCons (tC (.int 2)) (tCons (tC (.int 2)) (tCons (tC (.int 1)) tNil))))) tNil)))) tNil))) tNil))) M TB hrL (by decide +kernel) rfl
          (fun A' outer' s' H' E' f' c' hr' => (pe_call (ok_franklin M) (hr'.mono (by decide)) rfl M.g_franklin M.k_franklin M.b_franklin .nil (passes_call (takes_of rfl rfl rfl rfl) (fun _ _ _ _ h => h)) (pa_cons (pe_call (ok__law_pick M) (hr'.mono (by decide)) rfl M.g__law_pick M.k__law_pick M.b__law_pick .nil pass0 (pa_cons (pv 1) (pa_cons (pe_lst (pa_cons (pe_tup (pa_cons pe_int (pa_cons pe_int pa_nil))) (pa_cons (pe_tup (pa_cons pe_int (pa_cons pe_int (pa_cons pe_int pa_nil)))) (pa_cons (pe_tup (pa_cons pe_int (pa_cons pe_int (pa_cons pe_int (pa_cons pe_int pa_nil))))) pa_nil)))) pa_nil))) pa_nil)))))
      (pss_cons (ps_set (i := 12) sc_law.nd rfl (Or.inl rfl) (pe_law (t := fun E' => (tCall (sp_franklin M.a_BadPartition M.a_NotApart) [] E' (tCons (tCall (spPick K) [] E0 (tCons (tVar 1) (tCons (tLst (tCons (tC .non) (tCons (tLst (tCons (tC (.int 1)) tNil)) (tCons (tTup (tCons (tC (.int 1)) (tCons (tC (.int 2)) tNil))) (tCons (tTup (tCons (tC (.int 0)) tNil)) (tCons (tTup (tCons (tC (.bl true)) tNil)) tNil)))))) tNil))) tNil))) M TB hrL (by decide +kernel) rfl
          (fun A' outer' s' H' E' f' c' hr' => (pe_call (ok_franklin M) (hr'.mono (by decide)) rfl M.g_franklin M.k_franklin M.b_franklin .nil (passes_call (takes_of rfl rfl rfl rfl) (fun _ _ _ _ h => h)) (pa_cons (pe_call (ok__law_pick M) (hr'.mono (by decide)) rfl M.g__law_pick M.k__law_pick M.b__law_pick .nil pass0 (pa_cons (pv 1) (pa_cons (pe_lst (pa_cons pe_non (pa_cons (pe_lst (pa_cons pe_int pa_nil)) (pa_cons (pe_tup (pa_cons pe_int (pa_cons pe_int pa_nil))) (pa_cons (pe_tup (pa_cons pe_int pa_nil)) (pa_cons (pe_tup (pa_cons pe_bl pa_nil)) pa_nil)))))) pa_nil))) pa_nil)))))
      (pss_one (ps_ret (pe_and (pe_callB call_isC (by rfl) M.isinstance0 boot_isinstance (pa_cons (pv 11) (pa_cons (pe_glob (v := .ref M.a_NotApart) rfl M.g_NotApart rfl) pa_nil))) (pe_one (pe_callB call_isC (by rfl) M.isinstance0 boot_isinstance (pa_cons (pv 12) (pa_cons (pe_glob (v := .ref M.a_BadPartition) rfl M.g_BadPartition rfl) pa_nil))))))))), ?_⟩
  rintro D σ H0 os ra d l cc ⟨x2, x3, x4, x5, x6, x7, x8, x9, x10, x11, x12, x13, rfl⟩ S00 q
  have S0 := S00.sub (os' := []) (List.nil_sublist _)
  clear S00
  -- twice
  refine ⟨S0.tb, fun H1 eN T1 => ?_⟩
  have S1 := S0.ext eN T1
  clear S0 eN T1
  refine ⟨_, rfl, (by show 2 ≤ sizeLine; decide), fun a1 h1 => ⟨(by show 3 ≤ sizeLine; decide), fun a2 h2 => ⟨(by show 4 ≤ sizeLine; decide), fun a3 h3 => ⟨(by show 3 ≤ sizeLine; decide), fun z hz => ?_⟩⟩⟩⟩
  have S2 := (((S1.newT (xs := [1, 1].map V.int) h1).newT (xs := [5, 5, 2].map V.int) h2).newT (xs := [3, 2, 2, 1].map V.int) h3).newL (xs := [.ref a1, .ref a2, .ref a3]) hz
  refine ⟨d, l, cc, z, [.ref a1, .ref a2, .ref a3], rfl, S2.dr, fun H' s' => SqL.of (S2.gx 0 rfl s'), by simp, (by show 3 ≤ 1000; decide), fun v H2 hv D2 s2 => ?_⟩
  have S3 := S2.sx s2 D2
  clear S1 S2 h1 h2 h3 hz s2 D2
  have key : ∃ (t : Addr) (ns : List Int), v = .ref t ∧ H2 t = some (.tup (ns.map V.int)) ∧ _root_.Pt.isPt ns = true ∧ apart ns = false := by
    simp only [List.mem_cons, List.not_mem_nil, or_false] at hv
    rcases hv with rfl | rfl | rfl
    · exact ⟨_, _, rfl, S3.g 3 rfl, by decide, by decide⟩
    · exact ⟨_, _, rfl, S3.g 2 rfl, by decide, by decide⟩
    · exact ⟨_, _, rfl, S3.g 1 rfl, by decide, by decide⟩
  obtain ⟨t, ns, rfl, e1, e2, e3⟩ := key
  refine tn <| fr_twice e1 e2 e3 fun H3 s3 => ⟨M.E_NotApart.m, fun tw htw => ?_⟩
  have S4 := ((S3.same s3).new (o := ErX (.ref M.a_NotApart) none tw) htw (fun _ z => by
    unfold ErX at z
    cases z)).sub (os' := [(tw, ErX (.ref M.a_NotApart) none tw)]) (.cons₂ _ (List.nil_sublist _))
  generalize upd H3 tw (ErX (.ref M.a_NotApart) none tw) = H4 at S4 ⊢
  clear S3 s3 e1 htw hv
  -- bad
  refine ⟨S4.tb, fun H5 eN T5 => ?_⟩
  have S5 := S4.ext eN T5
  clear S4 eN T5
  refine ⟨_, rfl, (by show 1 ≤ sizeLine; decide), fun a1 h1 => ⟨(by show 2 ≤ sizeLine; decide), fun a2 h2 => ⟨(by show 1 ≤ sizeLine; decide), fun a3 h3 => ⟨(by show 1 ≤ sizeLine; decide), fun a4 h4 => ⟨(by show 5 ≤ sizeLine; decide), fun z hz => ?_⟩⟩⟩⟩⟩
  have S6 := ((((S5.newL (xs := [.int 1]) h1).newT (xs := [.int 1, .int 2]) h2).newT (xs := [.int 0]) h3).newT (xs := [.bl true]) h4).newL (xs := [.non, .ref a1, .ref a2, .ref a3, .ref a4]) hz
  refine ⟨d, l, cc, z, [.non, .ref a1, .ref a2, .ref a3, .ref a4], rfl, S6.dr, fun H' s' => SqL.of (S6.gx 0 rfl s'), by simp, (by show 5 ≤ 1000; decide), fun v H6 hv D6 s6 => ?_⟩
  have S7 := (S6.sx s6 D6).tl
  clear S5 S6 h1 h2 h3 h4 hz s6 D6
  have hB : BadP [(a4, HO.tup [V.bl true]), (a3, HO.tup [V.int 0]), (a2, HO.tup [V.int 1, V.int 2]), (a1, HO.lst [V.int 1])] v := by
    simp only [List.mem_cons, List.not_mem_nil, or_false] at hv
    rcases hv with rfl | rfl | rfl | rfl | rfl
    · exact fun H hH => no_tup .non
    · exact fun H hH => no_tup (.lst (hH (a1, .lst [.int 1]) (by simp)))
    · exact bad_tup (xs := [.int 1, .int 2]) (by simp) (by decide) (by decide) (by decide)
    · exact bad_tup (xs := [.int 0]) (by simp) (by decide) (by decide) (by decide)
    · exact bad_tup (xs := [.bl true]) (by simp) (by decide) (by decide) (by decide)
  refine tn <| fr_bad hB (fun x hx => (S7.O x (by
    simp only [List.mem_cons, List.not_mem_nil, or_false] at hx ⊢
    rcases hx with rfl | rfl | rfl | rfl <;> simp)).1) fun H7 s7 => ⟨M.E_BadPartition.m, fun bd hbd => ?_⟩
  have S8 := (S7.same s7).same (same_new (o := ErX (.ref M.a_BadPartition) none bd) hbd)
  have e8 : (upd H7 bd (ErX (.ref M.a_BadPartition) none bd)) bd = some (ErX (.ref M.a_BadPartition) none bd) := upd_same
  generalize upd H7 bd (ErX (.ref M.a_BadPartition) none bd) = H8 at S8 e8 ⊢
  -- return
  refine ⟨_, rfl, tw, M.a_NotApart, none, _, _, true, rfl, .inl ⟨rfl, S8.g 4 rfl⟩, M.E_NotApart.e, fun u r => r, M.E_NotApart.i, true, rfl, iteT ?_⟩
  exact ⟨_, rfl, bd, M.a_BadPartition, none, _, _, true, rfl, .inl ⟨rfl, e8⟩, M.E_BadPartition.e, fun u r => r, M.E_BadPartition.i, q _⟩
end
end K81

set_option Elab.async false
set_option linter.all false
set_option maxRecDepth 100000
set_option maxHeartbeats 0
set_option pp.maxSteps 3000
namespace K81
open PySem PySem.Spec PyProof.Rows L2 Dr Xv LamX Ps Gn
section
variable {P : Program} {w : World} {K : PySem.W.Frag} {mg : Str → Option Value} {base : Heap} {c Pt : Addr}
/-- the script as one of the law's objects (none where it is the module's) -/
theorem scr_own {H : Hp} {a d l cc : Addr} {xs : List V} (h : SqL K H a xs) (hd : H d = none) (hl : H l = none) (hc : H cc = none) : ∃ os : List (Addr × HO), os.length ≤ 1 ∧
    (∀ x ∈ os, H x.1 = some x.2 ∧ x.1 ≠ d ∧ x.1 ≠ l ∧ x.1 ≠ cc ∧ ∀ ps, x.2 ≠ .tbl ps) ∧ ∀ H', (∀ x ∈ os, H' x.1 = some x.2) → SqL K H' a xs := by
  have mk : ∀ o, H a = some o → (∀ ps, o ≠ .tbl ps) → (∀ H' : Hp, H' a = some o → SqL K H' a xs) → ∃ os : List (Addr × HO), os.length ≤ 1 ∧ (∀ x ∈ os, H x.1 = some x.2 ∧ x.1 ≠ d ∧ x.1 ≠ l ∧ x.1 ≠ cc ∧ ∀ ps, x.2 ≠ .tbl ps) ∧ ∀ H', (∀ x ∈ os, H' x.1 = some x.2) → SqL K H' a xs := fun o e nt k =>
    ⟨[(a, o)], Nat.le_refl _, fun x hx => by
      rw [List.mem_singleton.mp hx]
      exact ⟨e, ne_of_none e hd, ne_of_none e hl, ne_of_none e hc, nt⟩, fun H' h' => k H' (h' _ (List.mem_singleton.mpr rfl))⟩
  rcases h with (e | ⟨o, e⟩) | e
  · exact mk _ e (fun _ z => nomatch z) fun H' e' => .inl (.inl e')
  · exact mk _ e (fun _ z => nomatch z) fun H' e' => .inl (.inr ⟨o, e'⟩)
  · exact ⟨[], Nat.zero_le _, (fun x hx => absurd hx List.not_mem_nil), fun H' _ => Or.inr e⟩
def sp_law (K : PySem.W.Frag) (Pt : Addr) : Sp := fun vs H Q _ => ∃ (a : Addr) (ns : List Int), vs = [.ref a] ∧ SqL K H a (ns.map V.int) ∧ ns.length ≤ 1000 ∧ H Pt = some (.tbl #[]) ∧ ∀ H', Q (.bl true) H'
theorem ok_law (M : Mod P w K mg base) (hc : M.d_law.code = .ref c) (TB : TabB base mg c Pt) : FnOk P w K mg base CX0 34 M.f_law M.d_law ["script"] (sp_law K Pt) := by
  obtain ⟨oc, od, dV, kV, doc, pm, an, cdv, ct, osl, ed, lk, hcd, _, _⟩ := M.F_law.ex
  rw [ed] at hc lk ⊢
  have e : cdv = .ref c := hc
  subst e
  refine fn_of lk hcd sc_law (fun vs H Q E h => ?_) fun A outer s H vs Q E hr h => ?_
  · obtain ⟨a, ns, rfl, _⟩ := h
    rfl
  · obtain ⟨a, ns, rfl, hS, hlen, hT, q⟩ := h
    have hr' : Room 33 (XL P w K mg base M.f_law c A outer s H E).A := hr
    obtain ⟨tL, hL, rL⟩ := lap_ok (f := M.f_law) (c := c) (A := A) (outer := outer) (s := s) (H := H) (E := E) (Pt := Pt) M hr'
    obtain ⟨tT, hTl, rT⟩ := tail_ok (f := M.f_law) (c := c) (A := A) (outer := outer) (s := s) (H := H) (E := E) M TB hr'
    refine ⟨_, PSs.nox (pss_cons (ps_set (i := 1) sc_law.nd rfl (Or.inr rfl) (pe_call (ok__law_begun M) (hr.mono (by decide)) rfl M.g__law_begun M.k__law_begun M.b__law_begun .nil pass0 (pa_cons (pv 0) pa_nil)))
      (pss_cons (ps_for PassesOwn.never rfl (pi_range1 (by rfl) M.range0 (pa_cons (pe_op op_add pe_int (pe_callB (call_min2 rfl) (by rfl) M.min0 (by decide +kernel) (pa_cons (pe_callB call_len (by rfl) M.len0 PySem.boot_len (pa_cons (pv 0) pa_nil)) (pa_cons pe_int pa_nil)))) pa_nil)) (pg_name (i := 2) sc_law.nd rfl (Or.inl rfl)) hL)
      hTl)), ?_⟩
    refine ⟨_, rfl, a, ns, rfl, hS, hlen, fun d l cc H1 hd hl hcc s1 D1 => ?_⟩
    have W0 : Wd Pt H1 d l cc := ⟨D1, fun p hp => by
      rw [List.mem_singleton.mp hp]
      exact TabS.nil (s1 _ _ hT)⟩
    obtain ⟨os, o1, o2, o3⟩ := scr_own hS hd hl hcc
    have W1 : Sta Pt H1 d l cc os := ⟨W0, fun x hx => ⟨s1 _ _ (o2 x hx).1, (o2 x hx).2⟩, by
      cases os with
      | nil => exact List.Pairwise.nil
      | cons x r =>
        cases r with
        | nil => exact List.pairwise_singleton _ _
        | cons y r =>
          simp at o1⟩
    have hb : ∀ n : Nat, 0 ≤ (if (3 : Int) < (n : Int) then (3 : Int) else (n : Int)) ∧ (if (3 : Int) < (n : Int) then (3 : Int) else (n : Int)) ≤ 3 := fun n => by
      by_cases h4 : (3 : Int) < (n : Int)
      · rw [if_pos h4]
        exact ⟨by decide, by decide⟩
      · rw [if_neg h4]
        omega
    obtain ⟨hb1, hb2⟩ := hb (ns.map V.int).length
    refine ⟨_, rfl, _, _, rfl, .inl ⟨_, s1.seq hS, rfl⟩, _, _, rfl, _, _, rfl, rfl, _, rfl, ?_, ?_, ?_⟩
    · show -(2 ^ 62) ≤ 2 + _
      omega
    · show 2 + _ < 2 ^ 62
      omega
    refine for_range (lo := 0) (n := _) (fun i σ H' => Slots a d σ ∧ Sta Pt H' d l cc os) ⟨⟨_, _, _, _, _, _, _, _, _, _, _, _, rfl⟩, W1⟩ ?_ ?_
    · rintro i σ H2 hi ⟨⟨x2, x3, x4, x5, x6, x7, x8, x9, x10, x11, x12, x13, rfl⟩, W2⟩
      exact rL _ _ _ os a d l cc ⟨_, _, _, _, _, _, _, _, _, _, _, _, rfl⟩ W2 fun σ' H' hs W' => ⟨hs, W'⟩
    · rintro σ H2 ⟨hs, W2⟩
      exact rT _ _ _ os a d l cc hs W2 fun H' => q H'
end
end K81

set_option Elab.async false
set_option linter.all false
set_option maxRecDepth 100000
set_option maxHeartbeats 0
namespace K81
open PySem PySem.Spec PyProof.Rows L2 Dr Xv LamX Ps Gn
def dd (x : Str) (st : Stmt) : He.DefD := ⟨(x, none), x, x, defArgs st, defBody st, defScope st, [], []⟩
def fn : List He.DefD := [dd "law" s_law, dd "is_number" s_is_number, dd "are_numbers" s_are_numbers, dd "is_number_tuple" s_is_number_tuple, dd "is_partition" s_is_partition, dd "check_partition" s_check_partition, dd "franklin" s_franklin, dd "_law_begun" s__law_begun, dd "_law_blend" s__law_blend, dd "_law_take" s__law_take, dd "_law_pick" s__law_pick, dd "_law_caught" s__law_caught, dd "_law_sigmas" s__law_sigmas, dd "_law_row" s__law_row, dd "_law_unlike" s__law_unlike, dd "_law_due" s__law_due, dd "_law_is_alone" s__law_is_alone]
def fa : List He.Fa := [.glo "law", .glo "is_number", .glo "are_numbers", .glo "is_number_tuple", .glo "is_partition", .glo "check_partition", .glo "franklin", .glo "_law_begun", .glo "_law_blend", .glo "_law_take", .glo "_law_pick", .glo "_law_caught", .glo "_law_sigmas", .glo "_law_row", .glo "_law_unlike", .glo "_law_due", .glo "_law_is_alone", .glo "SeriesError", .glo "BadPartition", .glo "NotApart", .int "MOST_PARTS" 200, .int "GREATEST_PART" 1000000, .free "abs", .free "all", .free "bool", .free "enumerate", .free "int", .free "isinstance", .free "len", .free "list", .free "min", .free "range", .free "sum", .free "tuple", .free "zip"]
abbrev R : PySem.W.OpenRow := PySem.W.OpenLaw.row PySem.Challenge.rw_etasure_k81_whole_franklins_exchange
abbrev ga (K : PySem.W.Frag) (x : Str) : Addr := He.ga K x
def up (K : PySem.W.Frag) (x : Str) : List Value := .ref (ga K x) :: .ref (ga K "SeriesError") :: veT
def upS (K : PySem.W.Frag) : List Value := .ref (ga K "SeriesError") :: veT
def ext (K : PySem.W.Frag) : Bool := clsB K (ga K "SeriesError") (upS K) && (clsB K (ga K "BadPartition") (up K "BadPartition") && (clsB K (ga K "NotApart") (up K "NotApart") && (PySem.W.excIn K (ga K "BadPartition") veT "ValueError.__new__" && (PySem.W.excIn K (ga K "NotApart") veT "ValueError.__new__" && (He.eqO (PySem.W.specialIn K (.builtin "object.__class__") "__get__") (some (some (.builtin "getset_descriptor.__get__"))) && (eqB (PySem.W.takesIn K (.builtin "object.__class__")) (some true)))))))
def ob (s : PySem.W.SharedT) : AlE := obsE fa fn ext 4 (HandSHeadRun.getT s)
theorem ob_eq (s : PySem.W.SharedT) : ob s = (hookE fa fn ext 4).obs s.abs := by
  have e : HandSHeadRun.getT s = s.abs.heap.get? := funext (HandSHeadRun.getT_eq s)
  show obsE fa fn ext 4 (HandSHeadRun.getT s) = obsE fa fn ext 4 s.abs.heap.get?
  rw [e]
def loose : List PySem.Str := (List.map Str.ofString ["SeriesError", "BadPartition", "NotApart", "is_number", "are_numbers", "is_number_tuple", "MOST_PARTS", "GREATEST_PART", "is_partition", "check_partition", "franklin", "_law_begun", "_law_blend", "_law_take", "_law_pick", "_law_caught", "_law_sigmas", "_law_row", "_law_unlike", "_law_due", "_law_is_alone"])
theorem errs_of {K : PySem.W.Frag} (e : ext K = true) : ErrT K (ga K "BadPartition") (ga K "SeriesError") ∧ ErrT K (ga K "NotApart") (ga K "SeriesError") := by
  unfold ext at e
  simp only [Bool.and_eq_true] at e
  obtain ⟨eS, e_BadPartition, e_NotApart, x_BadPartition, x_NotApart, e7, e8⟩ := e
  have cS := clsB_ok eS
  have ne : ∀ x, up K x ≠ [] := fun x z => by cases z
  have hasT : ∀ (x : Str) (v : Value), veT.contains v = true → (up K x).contains v = true := fun x v hv => by
    unfold up
    rw [List.contains_cons, List.contains_cons, hv, Bool.or_true, Bool.or_true]
  have e7' := He.eqO_ok e7
  have e8' : PySem.W.takesIn K (.builtin "object.__class__") = some true := of_decide_eq_true e8
  have xS := cS.excC (fun z => by cases z) (by unfold upS; rw [List.contains_cons, show veT.contains (.type "BaseException") = true from rfl, Bool.or_true]) (by unfold upS; rw [List.contains_cons, show veT.contains (.type "object") = true from rfl, Bool.or_true]) e7' e8'
  have subS : ∀ x, (up K x).contains (.ref (ga K "SeriesError")) = true := fun x => by
    unfold up
    rw [List.contains_cons, List.contains_cons]
    simp
  have mk : ∀ x, ClsOk K (ga K x) (up K x) → PySem.W.excIn K (ga K x) veT "ValueError.__new__" = true → ErrT K (ga K x) (ga K "SeriesError") := fun x cx hx =>
    have xx := cx.excC (ne x) (hasT x _ rfl) (hasT x _ rfl) e7' e8'
    { x := hx, k := cx.kp, b := xx.hs, t := cx.ty, m := PySem.W.exm_ref xS.hs xS.hd cS.ty (by rw [cx.sub (ne x), subS x]), e := xx, i := cx.kit (ne x) cx (by rw [decide_eq_true rfl]; rfl) }
  exact ⟨mk _ (clsB_ok e_BadPartition) x_BadPartition, mk _ (clsB_ok e_NotApart) x_NotApart⟩
theorem run (w : World) : HandSHeadRun.RunEq R (PySem.W.view R.prog [25]) (hookE fa fn ext 4) ob 20000 loose w := by
  intro os
  kernel_rfl
theorem mod_of {P : Program} {w : World} {K : PySem.W.Frag} {h : Heap} {mg : Str → Option Value} {f : Addr} (X : K.In h) (G : h.Ns mainGlobals mg) (hfa : mg ("law" : Str) = some (.ref f)) (c : He.SaysD fa fn K) (ex : ext K = true) :
    ∃ fd, FnP K "law" s_law f fd ∧ ∀ base : Heap, ∃ M : Mod P w K mg base, M.f_law = f ∧ M.d_law = fd := by
  obtain ⟨fd0, F0⟩ := c.def_ 0 (d := dd "law" s_law) rfl
  obtain ⟨fd1, F1⟩ := c.def_ 1 (d := dd "is_number" s_is_number) rfl
  obtain ⟨fd2, F2⟩ := c.def_ 2 (d := dd "are_numbers" s_are_numbers) rfl
  obtain ⟨fd3, F3⟩ := c.def_ 3 (d := dd "is_number_tuple" s_is_number_tuple) rfl
  obtain ⟨fd4, F4⟩ := c.def_ 4 (d := dd "is_partition" s_is_partition) rfl
  obtain ⟨fd5, F5⟩ := c.def_ 5 (d := dd "check_partition" s_check_partition) rfl
  obtain ⟨fd6, F6⟩ := c.def_ 6 (d := dd "franklin" s_franklin) rfl
  obtain ⟨fd7, F7⟩ := c.def_ 7 (d := dd "_law_begun" s__law_begun) rfl
  obtain ⟨fd8, F8⟩ := c.def_ 8 (d := dd "_law_blend" s__law_blend) rfl
  obtain ⟨fd9, F9⟩ := c.def_ 9 (d := dd "_law_take" s__law_take) rfl
  obtain ⟨fd10, F10⟩ := c.def_ 10 (d := dd "_law_pick" s__law_pick) rfl
  obtain ⟨fd11, F11⟩ := c.def_ 11 (d := dd "_law_caught" s__law_caught) rfl
  obtain ⟨fd12, F12⟩ := c.def_ 12 (d := dd "_law_sigmas" s__law_sigmas) rfl
  obtain ⟨fd13, F13⟩ := c.def_ 13 (d := dd "_law_row" s__law_row) rfl
  obtain ⟨fd14, F14⟩ := c.def_ 14 (d := dd "_law_unlike" s__law_unlike) rfl
  obtain ⟨fd15, F15⟩ := c.def_ 15 (d := dd "_law_due" s__law_due) rfl
  obtain ⟨fd16, F16⟩ := c.def_ 16 (d := dd "_law_is_alone" s__law_is_alone) rfl
  obtain ⟨X_BadPartition, X_NotApart⟩ := errs_of ex
  obtain ⟨t_MOST_PARTS, c_MOST_PARTS⟩ := He.int_ok X G (c.fact 20 (f := .int "MOST_PARTS" 200) rfl)
  obtain ⟨t_GREATEST_PART, c_GREATEST_PART⟩ := He.int_ok X G (c.fact 21 (f := .int "GREATEST_PART" 1000000) rfl)
  have gl := hfa.symm.trans (He.glo_ok X G (c.fact 0 (f := .glo "law") rfl))
  cases gl
  have g0 := He.glo_ok X G (c.fact 0 (f := .glo "law") rfl)
  have g1 := He.glo_ok X G (c.fact 1 (f := .glo "is_number") rfl)
  have g2 := He.glo_ok X G (c.fact 2 (f := .glo "are_numbers") rfl)
  have g3 := He.glo_ok X G (c.fact 3 (f := .glo "is_number_tuple") rfl)
  have g4 := He.glo_ok X G (c.fact 4 (f := .glo "is_partition") rfl)
  have g5 := He.glo_ok X G (c.fact 5 (f := .glo "check_partition") rfl)
  have g6 := He.glo_ok X G (c.fact 6 (f := .glo "franklin") rfl)
  have g7 := He.glo_ok X G (c.fact 7 (f := .glo "_law_begun") rfl)
  have g8 := He.glo_ok X G (c.fact 8 (f := .glo "_law_blend") rfl)
  have g9 := He.glo_ok X G (c.fact 9 (f := .glo "_law_take") rfl)
  have g10 := He.glo_ok X G (c.fact 10 (f := .glo "_law_pick") rfl)
  have g11 := He.glo_ok X G (c.fact 11 (f := .glo "_law_caught") rfl)
  have g12 := He.glo_ok X G (c.fact 12 (f := .glo "_law_sigmas") rfl)
  have g13 := He.glo_ok X G (c.fact 13 (f := .glo "_law_row") rfl)
  have g14 := He.glo_ok X G (c.fact 14 (f := .glo "_law_unlike") rfl)
  have g15 := He.glo_ok X G (c.fact 15 (f := .glo "_law_due") rfl)
  have g16 := He.glo_ok X G (c.fact 16 (f := .glo "_law_is_alone") rfl)
  have gc0 := He.glo_ok X G (c.fact 17 (f := .glo "SeriesError") rfl)
  have gc1 := He.glo_ok X G (c.fact 18 (f := .glo "BadPartition") rfl)
  have gc2 := He.glo_ok X G (c.fact 19 (f := .glo "NotApart") rfl)
  have b_abs := He.free_ok X G (c.fact 22 (f := .free "abs") rfl)
  have b_all := He.free_ok X G (c.fact 23 (f := .free "all") rfl)
  have b_bool := He.free_ok X G (c.fact 24 (f := .free "bool") rfl)
  have b_enumerate := He.free_ok X G (c.fact 25 (f := .free "enumerate") rfl)
  have b_int := He.free_ok X G (c.fact 26 (f := .free "int") rfl)
  have b_isinstance := He.free_ok X G (c.fact 27 (f := .free "isinstance") rfl)
  have b_len := He.free_ok X G (c.fact 28 (f := .free "len") rfl)
  have b_list := He.free_ok X G (c.fact 29 (f := .free "list") rfl)
  have b_min := He.free_ok X G (c.fact 30 (f := .free "min") rfl)
  have b_range := He.free_ok X G (c.fact 31 (f := .free "range") rfl)
  have b_sum := He.free_ok X G (c.fact 32 (f := .free "sum") rfl)
  have b_tuple := He.free_ok X G (c.fact 33 (f := .free "tuple") rfl)
  have b_zip := He.free_ok X G (c.fact 34 (f := .free "zip") rfl)
  exact ⟨fd0, F0, fun base => ⟨{ f_law := _, d_law := fd0, F_law := F0, g_law := g0, f_is_number := _, d_is_number := fd1, F_is_number := F1, g_is_number := g1, f_are_numbers := _, d_are_numbers := fd2, F_are_numbers := F2, g_are_numbers := g2, f_is_number_tuple := _, d_is_number_tuple := fd3, F_is_number_tuple := F3, g_is_number_tuple := g3, f_is_partition := _, d_is_partition := fd4, F_is_partition := F4, g_is_partition := g4, f_check_partition := _, d_check_partition := fd5, F_check_partition := F5, g_check_partition := g5, f_franklin := _, d_franklin := fd6, F_franklin := F6, g_franklin := g6, f__law_begun := _, d__law_begun := fd7, F__law_begun := F7, g__law_begun := g7, f__law_blend := _, d__law_blend := fd8, F__law_blend := F8, g__law_blend := g8, f__law_take := _, d__law_take := fd9, F__law_take := F9, g__law_take := g9, f__law_pick := _, d__law_pick := fd10, F__law_pick := F10, g__law_pick := g10, f__law_caught := _, d__law_caught := fd11, F__law_caught := F11, g__law_caught := g11, f__law_sigmas := _, d__law_sigmas := fd12, F__law_sigmas := F12, g__law_sigmas := g12, f__law_row := _, d__law_row := fd13, F__law_row := F13, g__law_row := g13, f__law_unlike := _, d__law_unlike := fd14, F__law_unlike := F14, g__law_unlike := g14, f__law_due := _, d__law_due := fd15, F__law_due := F15, g__law_due := g15, f__law_is_alone := _, d__law_is_alone := fd16, F__law_is_alone := F16, g__law_is_alone := g16, a_SeriesError := _, g_SeriesError := gc0, a_BadPartition := _, g_BadPartition := gc1, a_NotApart := _, g_NotApart := gc2, E_BadPartition := X_BadPartition, E_NotApart := X_NotApart, t_MOST_PARTS := t_MOST_PARTS, c_MOST_PARTS := c_MOST_PARTS, t_GREATEST_PART := t_GREATEST_PART, c_GREATEST_PART := c_GREATEST_PART, abs0 := b_abs, all0 := b_all, bool0 := b_bool, enumerate0 := b_enumerate, int0 := b_int, isinstance0 := b_isinstance, len0 := b_len, list0 := b_list, min0 := b_min, range0 := b_range, sum0 := b_sum, tuple0 := b_tuple, zip0 := b_zip }, rfl, rfl⟩⟩
theorem facts {P : Program} {w : World} {K : PySem.W.Frag} {h : Heap} {mg : Str → Option Value} {f : Addr} (X : K.In h) (G : h.Ns mainGlobals mg) (hfa : mg ("law" : Str) = some (.ref f)) (c : He.SaysD fa fn K) (ex : ext K = true) :
    ∃ fd, (∀ (s : Shared) (v : Value), BindsTo s fd ⟨[v], []⟩ [("script", v)]) ∧ ∀ base : Heap, K.In base → base.Ns mainGlobals mg → TabB base mg (He.cT K lawD).1 (He.cT K lawD).2 → FnOk P w K mg base CX0 34 f fd ["script"] (sp_law K (He.cT K lawD).2) := by
  have gl := hfa.symm.trans (He.glo_ok X G (c.fact 0 (f := .glo "law") rfl))
  cases gl
  obtain ⟨fd, F, hM⟩ := mod_of (P := P) (w := w) X G hfa c ex
  have b := FunD.bindsA (ps := ["script"]) F fun _ _ _ _ _ _ us hl => match us, hl with | [_], _ => rfl
  refine ⟨fd, fun s v => b s [v] rfl, fun base hK hN TB => ?_⟩
  obtain ⟨M, e1, e2⟩ := hM base
  have hc : fd.code = .ref (He.cT K lawD).1 := by
    obtain ⟨oc, od, dV, kV, doc, pm, an, cdv, ct, osl, rfl, lk, hcd, _, _⟩ := F.ex
    obtain ⟨c0, rfl⟩ := He.codeIn_ref hcd
    have z := He.codeOf_eq (p := lawD) (c := c0) lk rfl
    show Value.ref c0 = Value.ref (He.codeOf K lawD)
    rw [z]
  have z := ok_law M (c := (He.cT K lawD).1) (Pt := (He.cT K lawD).2) (by rw [e2]; exact hc) TB
  rw [e1, e2] at z
  exact z
end K81
open PySem PySem.W PySem.Calls PyProof.Rows
theorem PySem.Challenge.cw_etasure_k81_whole_franklins_exchange_holds : PySem.Challenge.rw_etasure_k81_whole_franklins_exchange.Holds := by
  w_on; o_law
  refine HandSHeadRun.head_any (r := OpenLaw.row PySem.Challenge.rw_etasure_k81_whole_franklins_exchange) (q := view (OpenLaw.row PySem.Challenge.rw_etasure_k81_whole_franklins_exchange).prog [25]) (H := Xv.hookE K81.fa K81.fn K81.ext 4) (ob := K81.ob) (M := 20000) (loose := K81.loose) (d := HandSHeadRun.topDef (OpenLaw.row PySem.Challenge.rw_etasure_k81_whole_franklins_exchange).prog 25) (kwd := []) K81.ob_eq
    (by kernel_rfl) (fun s => by kernel_rfl) K81.run (by kernel_rfl) (by kernel_rfl) (by kernel_rfl) (by rfl) (by first | assumption | decide +kernel) (by decide +kernel) ⟨rfl, rfl, rfl, rfl, rfl, by decide +kernel⟩ ?hw ?hc
  case hw => w_witness2
  case hc =>
    refine LamX.walk_ofTsE (l := PySem.Challenge.rw_etasure_k81_whole_franklins_exchange) (n := 63) (k := 34) (x := "script") (CX := fun _ => L2.CX0) rfl (by decide) (by kernel_rfl) ⟨rfl, by decide, by decide⟩ ?F (fun _ _ _ _ _ h => h)
    intro w mg fa h Y G hmg0
    obtain ⟨K, KX, c⟩ := Y
    have hmg : mg ("law" : PySem.Str) = some (.ref fa) := by
      have e : (HandSHeadRun.topDef (OpenLaw.row PySem.Challenge.rw_etasure_k81_whole_franklins_exchange).prog 25).name = ("law" : PySem.Str) := by kernel_rfl
      rw [← e]
      exact hmg0
    obtain ⟨fd, hb, hF⟩ := K81.facts (P := (PySem.Challenge.rw_etasure_k81_whole_franklins_exchange).prog) (w := w) KX G hmg c.d c.more
    refine ⟨K, KX, fd, [He.cT K Xv.lawD], K81.sp_law K (He.cT K Xv.lawD).2, fun p hp => ?_, fun p hp => ?_, fun p hp => ?_, hb, fun H a ns hl _ hT hS => ⟨a, ns, rfl, hS, by omega, hT _ (List.mem_singleton.mpr rfl), fun _ => rfl⟩, fun base hK hN hTB => hF base hK hN (hTB _ (List.mem_singleton.mpr rfl))⟩
    · rw [List.mem_singleton.mp hp]
      exact c.empty
    · rw [List.mem_singleton.mp hp]
      exact c.out
    · rw [List.mem_singleton.mp hp]
      exact PySem.W.codeHd_of_K KX c.hd

