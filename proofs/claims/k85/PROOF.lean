import PyProof.Rows.All
import Wide.All
import OpenK.AllK
import Wide.FinOn
import KE.KExcIs
import HandS.ForMost
import HandS.ForExc
import HandS.Wide
import HandS.Defaults
import HandS.IsInst
import HandS.ExcIs
import HandS.ExcOwn
import HandS.ExcValue
import HandS.ExcInit
import HandS.MakeKw
import HandS.MakeKwOnly
import HandS.Lambda
import HandS.TryOnly
import HandS.ClsMeth
import HandS.HeadWalk
import HandS.ExcField
import KE.GoesEnum
import HandS.Walk
import KE.GoesEnumKw
import KE.GoesMore
import HandS.SortKw
import Lean
import KE.KStateDown
import HandS.More
import HandS.Words
import HandS.WordsExc
import HandS.Head0
import HandS.Head1
import HandS.Head2
import HandS.HeadEnd
import HandS.HeadHook1
import HandS.HeadHook2
import HandS.HeadHook4
import Flt.RightSqrt
import HandS.Zip
import HandS.ExcBuiltin
import HandS.EndOwn
import HandS.Small
import HandS.Style
import HandS.TupAny
import HandS.TupLe
import HandS.Conv
import HandS.Deep
import HandS.Iter
import KE.DataMinMax
import HandS.DictComp
import HandS.Gcd
import HandS.SetFor
import HandS.Strs
import KE.SortData
import HandS.Sort
import HandS.DeepEq
import HandS.Head3
import PySem.Challenge.RW_etasure_k85_families_that_are_quotients
set_option Elab.async false
set_option linter.all false
set_option maxRecDepth 100000
set_option maxHeartbeats 4000000
set_option pp.maxSteps 3000
namespace Xv
open PySem PySem.Spec PyProof.Rows L2
/-! ### errors of own classes as values -/
/-- at a an error of the class at C: without a dict, or with its dict at d -/
def ErrAt (H : Hp) (a C : Addr) : Prop := H a = some (ExO (.ref C) a) ∨ ∃ d fs, H a = some (exo a C (some d)) ∧ H d = some (exd d fs)
section
variable {X : Cx} {pins : List (Addr × Obj)} {σ : L2.St} {H : Hp} {s : Shared} {a C : Addr}
theorem errAt_inst (I : Inv X pins σ H s) (h : ErrAt H a C) : ∃ ox od, PySem.W.InstAt s.heap a ox C od := by
  rcases h with h | ⟨d, fs, h, hd⟩
  · have q : ObjOk X.prog X.w H s.heap a (ExO (.ref C) a) := I.hok a _ h
    obtain ⟨⟨oe, vs, e, z, dt, _⟩, _⟩ := q
    obtain ⟨oc, od, oda, osl⟩ := oe
    obtain ⟨z1, z2⟩ := z
    dsimp only at z1 z2 dt
    subst z1 z2 dt
    exact ⟨_, none, e, rfl, rfl, trivial⟩
  · obtain ⟨t1, ho⟩ := exo_at I.hok h
    obtain ⟨mA, ⟨od, es, ep, e2, _⟩, _⟩ := exd_at I.hok hd
    exact ⟨_, some od, ho, rfl, rfl, e2⟩
/-- isinstance(e, c), e such an error -/
def rIsErr (K : PySem.W.Frag) : List V → Hp → VK → Prop := fun xs H Q => ∃ (a C : Addr) (c : V) (cv : Value) (b : Bool), xs = [.ref a, c] ∧ ErrAt H a C ∧ ExcC K C ∧ (∀ u, RelV c u → u = cv) ∧ PySem.W.kitOne K (.ref C) cv = some b ∧ Q (.bl b) H
theorem call_isErr : CallR X (.builtin "isinstance") (rIsErr X.K) := by
  intro pins s σ H xs us Q I r h
  obtain ⟨a, C, c, cv, b, rfl, he, T, hc, hk, q⟩ := h
  obtain ⟨u1, u2, rfl, r1, r2⟩ := vals2 r
  cases (show u1 = Value.ref a from r1)
  have e2 := hc _ r2
  subst e2
  obtain ⟨ox, od, J⟩ := errAt_inst I he
  obtain ⟨cd, hcd, _⟩ := PySem.W.any_some T.hd
  exact PySem.W.kia_one (PySem.W.kitx_exc (by rw [hcd]; rfl) T.hg T.hk T.hs T.ha T.hn T.ht T.hm) I.kIn J hk (fun z => nomatch z) fun tk => ⟨.bl b, H, I.tok tk, rfl, q⟩
end
/-! ### e.f of an error that holds its fields -/
structure ErrRd (K : PySem.W.Frag) (C : Addr) (f : Str) : Prop where
  ga : PySem.W.findIn K (.ref C) "__getattribute__" = some (some (.builtin "BaseException.__getattribute__"))
  gg : PySem.W.findIn K (.ref C) "__getattr__" = some none
  sub : PySem.W.subIn K (.ref C) (.type "BaseException") = some true
  hd : PySem.W.hasDictIn K C = true
  no : PySem.W.findIn K (.ref C) f = some none
def tErrF (K : PySem.W.Frag) (f : Str) (te : TE) : TE := fun σ H Q => te σ H fun x H1 => ∃ (a C d : Addr) (fs : List (Str × V)) (v : V), x = .ref a ∧ H1 a = some (exo a C (some d)) ∧ H1 d = some (exd d fs) ∧ ErrRd K C f ∧ fs.lookup f = some v ∧ Q v H1
section
variable {X : Cx}
theorem pe_errF {e : Expr} {te : TE} {f : Str} {pos : Pos} (he : PE X e te) (hb : attributeBase e f X.env (eval e X.env) = eval e X.env := by rfl) : PE X (.Attribute e f pos) (tErrF X.K f te) := by
  refine ⟨fun pins s σ H Q I h => attr_of hb (thn (he.run pins s σ H _ I h) fun u s1 hh => ?_)⟩
  obtain ⟨x, H1, I1, rx, a, C, d, fs, v, ex, ha, hd, T, hl, q⟩ := hh
  subst ex
  cases (show u = Value.ref a from rx)
  obtain ⟨t1, ho⟩ := exo_at I1.hok ha
  obtain ⟨mA, hns, hr⟩ := exd_at I1.hok hd
  obtain ⟨od, hod, hlk⟩ := lookIn_ns hns
  obtain ⟨u, hu, ru⟩ := RelO.some_of (v := v) (o := mA f) (by rw [← hl]; exact hr f)
  have J : PySem.W.InstAt s1.heap a _ C (some od) := ⟨ho, rfl, rfl, hod⟩
  exact PySem.HandSPX.exc_get I1.kIn J T.ga T.gg T.sub (PySem.W.findObj_own T.hd T.no rfl (by rw [hlk, hu])) (handed_of ru) ⟨v, H1, I1.tok _, ru, q⟩
end
/-! ### S.__init__(self, ..), S an own class over ValueError without an __init__ of its own -/
section
variable {X : Cx} {o e : Expr} {es : List Expr} {ta : TA} {x : Str} {p1 p2 pos : Pos}
theorem pe_sinit {S : Addr} {mc : Value} {pl : Sem Bool} (hg : Gl X x) (hm : X.mg x = some (.ref S)) (kS : PySem.W.keepIn X.K (.ref S) = true) (rd : PySem.W.readsIn X.K S mc = true) (sg : PySem.W.specialIn X.K (.ref S) "__getattribute__" = some (some (.builtin "type.__getattribute__")))
    (vV : PySem.W.findCls X.K (.ref S) mc "__init__" = some (.val (.builtin "ValueError.__init__"))) (ha : PA X (e :: es) ta) (hdb : (x == ("__debug__" : Str)) = false := by decide)
    (hc : eval (.Call (.Attribute (.Name x p1) "__init__" p2) (e :: es) [] pos) X.env = (do
      let ov ← eval (.Name x p1) X.env
      standAt p2.atName
      let (f, first) ← holding [ov] (getMethod ov "__init__" pl)
      callWith pos f first (backTo pos (starEach (e :: es) X.env)) (backToKw pos (keywordEach [] X.env))) := by rfl)
    (he : starEach (e :: es) X.env = (false, eval e X.env) :: starEach es X.env := by rfl) (hpl : (backTo pos (starEach es X.env)).any (·.1) = false := by rfl) :
    PE X (.Call (.Attribute (.Name x p1) "__init__" p2) (e :: es) [] pos) (tVeI X.K ta) := by
  refine ⟨fun pins s σ H Q I h => PySem.W.methodCall_KW (ld_glob I hg hm ?_ hdb) hc⟩
  refine PySem.W.method_cls I.kIn sg (PySem.W.cls_value I.kIn rd vV (by decide +kernel) ?_)
  show wpAny _ _ (callWith pos (Value.builtin "ValueError.__init__") [] (backTo pos (starEach (e :: es) X.env)) []) _ _ _
  refine PyProof.Rows.callWith_method1 (thn (ha.run pos pins _ σ H _ (I.tok _) h) fun us s1 hh => ?_) he hpl
  obtain ⟨vs, H1, I1, r1, a, C, ws, ev, hl, T, ea, q⟩ := hh
  subst ev
  cases r1 with
  | @cons _ u0 _ ur ra rw' =>
    cases (show u0 = Value.ref a from ra)
    have hlen : ur.length ≤ sizeLine := by
      have e1 := Paired.length rw'
      rw [sizeLine_eq]
      omega
    exact oinit_ok T I1 ea hlen fun s' J => ⟨.non, H1, J, rfl, q⟩
end
/-! ### C(e, ..) of such a class as a value, its own __init__ walked as a def -/
def tErrV (C : Addr) (sp : Sp) (E : XK) (ta : TA) : TE := fun σ H Q => ta σ H fun vs H1 => vs.length ≤ 1000 ∧ ∀ a, H1 a = none → sp (.ref a :: vs) (upd H1 a (exo a C none)) (fun v H2 => v = .non ∧ Q (.ref a) H2) E
section
variable {X : Cx} {e : Expr} {es : List Expr} {ta : TA} {x : Str} {p pos : Pos}
theorem pe_errV {CX : CXT} {C fI : Addr} {k : Nat} {fd : FuncData} {ps : List Str} {sp : Sp} {E : XK} (T : OexC X.K C) (iC : PySem.W.findIn X.K (.ref C) "__init__" = some (some (.ref fI))) (tI : PySem.W.typeIn X.K (.ref fI) = some (.type "function"))
    (F1 : FnOk X.prog X.w X.K X.mg X.base CX k fI fd ps sp) (hr : Room (k + 1) X.A) (hb : Binds X.K fd ps []) (hx : Passes CX X E) (hg : Gl X x) (hm : X.mg x = some (.ref C)) (ha : PA X (e :: es) ta)
    (hdb : (x == ("__debug__" : Str)) = false := by decide) (he : starEach (e :: es) X.env = (false, eval e X.env) :: starEach es X.env := by rfl) (hpl : (backTo pos (starEach es X.env)).any (·.1) = false := by rfl) :
    PE X (.Call (.Name x p) (e :: es) [] pos) (tErrV C sp E ta) := by
  refine ⟨fun pins s σ H Q I h => wpAny_Call_Name_kw (ld_glob I hg hm ?_ hdb)⟩
  obtain ⟨nm, q, N, bs, bm, sn, sub, ab, col, dd, k0, k1, k2, k3, k5, hC, hbm⟩ := T.cls
  refine PySem.W.callWith_K (h₀ := X.base) I.ok.mod.kin T.kC (thn (ha.run pos pins s σ H _ I h) fun us s1 hh => ?_) he hpl
  obtain ⟨vs, H1, I1, r1, hz, q1⟩ := hh
  refine ⟨I1.kIn, ?_⟩
  show wpAny _ _ (call (.ref C) us) _ _ _
  obtain ⟨hp, g, dr, tk, os⟩ := s1
  have hq := q1 (hp.objs.size + 1) (I1.hok.fresh (Nat.le_succ _))
  have I2 : Inv X pins σ (upd H1 (hp.objs.size + 1) (exo (hp.objs.size + 1) C none)) ⟨(hp.push (PySem.W.kdv_tup us)).push (PySem.HandSPX.excO C hp.objs.size), g, dr, tk, os⟩ :=
    I1.laid (t' := tk) (fun b o z => Heap.get?_push_of_some _ (Heap.get?_push_of_some _ z)) (Nat.le_succ _) (L2.exo_ok (by heap_get))
  have r2 : Vals (V.ref (hp.objs.size + 1) :: vs) (Value.ref (hp.objs.size + 1) :: us) := .cons rfl r1
  have hl : (Value.ref (hp.objs.size + 1) :: us).length = ps.length := by rw [← r2.length]; exact F1.len _ _ _ _ hq
  have hb2 := hb _ (Value.ref (hp.objs.size + 1) :: us) I2.kIn (by simpa using hl)
  rw [List.append_nil] at hb2
  have hus : us.length ≤ sizeLine := by
    have e1 := Paired.length r1
    rw [sizeLine_eq]
    omega
  refine wpAny_call (PySem.HandSPX.call_own F.excBase_ValueError (fun Y => PySem.HandSPX.refsVE_contains Y bm hbm) (I1.kIn _ _ hC) (PySem.W.looks_findIn I1.kIn iC) (fun self => PySem.W.bind_fn I1.kIn self tI) hus (codeAny_mono
    (F1.run _ X.stack _ _ ⟨_, []⟩ _ _ _ E (hr.make C us []) (I2.env0.make C us []) hb2 r2 hq) fun r s' hq' => ?_))
  rcases r with er | fl
  · exact hx pins σ _ _ er s' I2 hq'
  · cases fl with
    | ret u =>
      obtain ⟨v, H', I3, rv, ev, q3⟩ := I2.after hq'
      subst ev
      exact ⟨rv, ⟨V.ref (hp.objs.size + 1), H', I3, rfl, q3⟩⟩
    | next => exact hq'.elim
    | brk => exact hq'.elim
    | cont => exact hq'.elim
end
end Xv

set_option Elab.async false
set_option linter.all false
set_option maxRecDepth 100000
set_option maxHeartbeats 4000000
set_option pp.maxSteps 3000
/-! try: .. except x as n: suite, the exception known behind the try -/
namespace Xv
open PySem PySem.Spec PyProof.Rows L2
/-- at a an exception of the class cls, its dict d -/
def ErX (cls : Value) (d : Option Addr) (a : Addr) : HO := .ext fun h => ∃ (oe : Obj) (vs : Array Value), h.get? a = some oe ∧ Zc cls d oe ∧ oe.data = .fields vs
section
variable {X : Cx} {pins : List (Addr × Obj)} {σ : L2.St} {H : Hp} {s : Shared} {a : Addr} {oe : Obj} {vs : Array Value} {cls : Value} {d : Option Addr}
/-- a pinned exception that was not there at the entry is tracked -/
theorem track (I : Inv X ((a, oe) :: pins) σ H s) (hex : X.ex = []) (n0 : X.s_0.heap.get? a = none) (hz : Zc cls d oe) (hd : oe.data = .fields vs) (hA : ∀ p ∈ X.pn ++ pins, p.1 ≠ a) : Inv X pins σ (upd H a (ErX cls d a)) s := by
  obtain ⟨ha, hn, nL, nF, _⟩ := I.pin (a, oe) (List.mem_append_right _ List.mem_cons_self)
  have old : ∀ b o, X.s_0.heap.get? b = some o → b ≠ a := fun b o e z => by
    rw [z, n0] at e
    cases e
  have nl : X.env.locals ≠ a := fun z => nL z.symm
  have cl : ∀ x c, X.env.cells.lookup x = some c → c ≠ a := fun x c e z => by
    obtain ⟨v, o, q1, q2⟩ := I.cell x c e
    rw [z] at q1
    have ha' : s.heap.get? a = some oe := ha
    rw [ha'] at q1
    cases q1
    rw [hd] at q2
    cases q2
  have J : Inv X pins σ H s := ClX.unpin I
  refine ⟨J.ok, J.os, J.bare, ⟨J.base.keep, J.base.slot, fun b o e n hx => ?_, J.base.there, fun b xs e => ?_, fun b o u e => ?_, fun b ps e => ?_⟩, J.loc, J.cell, ?_, fun x c e => ?_, fun p hp => ?_, fun b o e => ?_, J.len⟩
  · rw [upd_ne (old b o e)]
    exact J.base.free b o e n hx
  · have q := J.base.tups b xs e
    rw [upd_ne (ne_of_none q hn)]
    exact q
  · have q := J.base.frzs b o u e
    rw [upd_ne (ne_of_none q hn)]
    exact q
  · obtain ⟨more, q⟩ := J.base.tbls b ps e
    exact ⟨more, by rw [upd_ne (ne_of_none q hn)]; exact q⟩
  · rw [upd_ne nl]
    exact J.free
  · rw [upd_ne (cl x c e)]
    exact J.freeC x c e
  · obtain ⟨e1, e2, e3, e4, e5⟩ := J.pin p hp
    exact ⟨e1, by rw [upd_ne (hA p hp)]; exact e2, e3, e4, e5⟩
  · by_cases hb : b = a
    · subst hb
      rw [upd_same] at e
      cases e
      exact ⟨⟨oe, vs, ha, hz, hd⟩, ⟨oe, ha⟩, fun h1 h2 q k => by
        obtain ⟨o, w, q1, q2⟩ := q
        exact ⟨o, w, k o q1, q2⟩⟩
    · rw [upd_ne hb] at e
      exact (J.hok b o e).stay (fun c v _ q => q) (fun c q => by rw [upd_ne (ne_of_none q hn)]; exact q) fun c xs q => by rw [upd_ne (ne_of_none q hn)]; exact q
end
/-- what the clause wishes of an exception of the body: behind the suite the exception is known -/
def wKeep (K : PySem.W.Frag) (len : Nat) (c : Value) (i : Nat) (ts : TS) (Wout : WX) (D : Ends) : WX := fun cls d σ H => σ.length = len → ∃ b, PySem.W.exmOne K cls c = some b ∧
  (b = true → ∀ a, H a = none → ts { nx := fun σ' H' => D.nx (σ'.set i none) (upd H' a (ErX cls d a)), rt := fun _ _ => False, bk := fun _ _ => False, ct := fun _ _ => False } (σ.set i (some (.ref a))) H) ∧ (b = false → Wout cls d σ H)
section
variable {X : Cx} {x n : Str} {c : Value} {i : Nat} {body suite : List Stmt} {b0 : Stmt} {np pos pos' : Pos} {tb : WX → TS} {ts : TS} {Wout : WX}
theorem ps_try_keep (hs : X.stack = X.env :: X.outer) (hf : X.env.frame = some X.env.locals) (hN : X.N.Nodup) (hex : X.ex = []) (hi : X.N[i]? = some n) (hln : X.env.kindOf n = some .local) (hc : Names X x c) (tk : Takes X Wout)
    (hb : ∀ (W : WX) (pn : List (Addr × Obj)) (xe : Value → Shared → Prop), Takes (X.tr pn xe) W → PSs (X.tr pn xe) body (tb W)) (hsu : ∀ (a : Addr) (oe : Obj) (pn : List (Addr × Obj)), PSs (X.suite a ((a, oe) :: pn)) (b0 :: suite) ts) :
    PS X (.Try body [.ExceptHandler (some (.Name x np)) (some n) (b0 :: suite) pos'] [] [] pos) (fun D σ H => tb (wKeep X.K X.N.length c i ts Wout D) D σ H) := by
  refine ⟨fun pins s σ H D I h => ?_⟩
  have ok := I.ok
  have frm : X.A.frames = some (X.env :: X.outer) := by
    rw [ok.frames, hs]
  refine wpAny_Try_except (wpAny_mono ((hb (wKeep X.K X.N.length c i ts Wout D) (X.pn ++ pins) (fun e s1 => wpAny (model X.prog X.w) X.A (noteFrame e X.env) (fun _ s2 => wpAny (model X.prog X.w) X.A (setFlight e none) (fun _ s3 => wpAny (model X.prog X.w) X.A
    (handleBy e X.env [.ExceptHandler (some (.Name x np)) (some n) (b0 :: suite) pos']) (SP X pins D) X.xe s3) X.xe s2) X.xe s1) (fun u s' xx => ?_)).run [] s σ H D (I.toTry _) h) (fun f s1 hsp => ?_) (fun _ _ he => he))
  · obtain ⟨a, B, sI, pins', σ', H', cls, d, rfl, J', nb, up, sky, na, os, ag, hw⟩ := xx
    obtain ⟨b, hb1, hyes, hno⟩ := hw J'.len
    have J : Inv X pins σ' H' sI := J'.ofTry ok
    rw [hs] at sky
    refine Sky.land Zc.steady frm hf sky fun h3 fl3 up3 => ?_
    have J3 : Inv X pins σ' H' { s' with heap := h3 } := J.landed nb fl3.1 (up.trans up3) os ag
    obtain ⟨oe3, vs3, he3, hz3, hd3⟩ := fl3.there
    have nfr : a ∉ frs (X.env :: X.outer) := fun hm => by
      obtain ⟨_, o', e', hnf⟩ := fl3.2.2.1.mem hm
      rw [he3] at e'
      cases e'
      exact hnf _ hd3
    have nL : a ≠ X.env.locals := fun z => nfr (List.mem_filterMap.mpr ⟨X.env, List.mem_cons_self, by rw [hf, z]⟩)
    have nF : a ∉ X.fs := fun hm => by
      obtain ⟨e, he, q⟩ := List.mem_filterMap.mp hm
      exact nfr (List.mem_filterMap.mpr ⟨e, List.mem_cons_of_mem _ he, q⟩)
    have notB : B.get? a = none := fl3.2.1
    have onB : ∀ b o, sI.heap.get? b = some o → b ∉ frs (X.env :: X.outer) → b ≠ a := fun b o e hm z => by
      have q := nb b o e (by rw [hs]; exact hm)
      rw [z, notB] at q
      cases q
    have n0 : X.s_0.heap.get? a = none := by
      cases e : X.s_0.heap.get? a with
      | none => rfl
      | some o =>
        obtain ⟨o', q⟩ := J.base.there a o e (by rw [hex]; exact fun z => nomatch z)
        exact absurd rfl (onB a o' q nfr)
    have nP : ∀ p ∈ X.pn ++ pins, p.1 ≠ a := fun p hp => by
      obtain ⟨e1, _, e3, e4, _⟩ := J.pin p hp
      refine onB p.1 p.2 e1 fun hm => ?_
      rcases List.mem_cons.mp (show p.1 ∈ X.env.locals :: frs X.outer from by
        have q : frs (X.env :: X.outer) = X.env.locals :: frs X.outer := by
          show (X.env :: X.outer).filterMap (·.frame) = _
          rw [List.filterMap_cons, hf]
          rfl
        rw [← q]
        exact hm) with z | z
      · exact e3 z
      · exact e4 z
    have S3 := J3.suite he3 hd3 na nL nF
    refine wpAny_handleBy_cons (codeAny_handlers_test ?_) (by intro q; cases q)
    have LT : PySem.W.Looks (model X.prog X.w) h3 (typeOf (.ref a)) cls := fun A Q E s k q => wpAny_typeOf_ref (k _ _ he3) (by rw [hz3.1]; exact q)
    have LM := PySem.W.exm_one (M := model X.prog X.w) (J3.kIn) LT hb1
    have test : ∀ {Q : Value → Shared → Prop} {E : Value → Shared → Prop}, Q c { s' with heap := h3 } → wpAny (model X.prog X.w) (X.A.mark (some (.ref a))) (eval (.Name x np) X.env) Q E { s' with heap := h3 } := by
      intro Q E q
      obtain ⟨hg, hdbg, hm | ⟨hm, hv, hnn⟩⟩ := hc
      · exact ld_glob (X := X.suite a ((a, oe3) :: (X.pn ++ pins))) S3 hg hm q hdbg
      · exact ld_blt (X := X.suite a ((a, oe3) :: (X.pn ++ pins))) S3 hg hm hv q hnn hdbg
    refine test (LM.here ?_)
    cases b with
    | true =>
      refine codeAny_handlers_suite_as (HandSPX.lands_againZ fl3 fun h4 fl4 up4 => ?_)
      have J4 : Inv X pins σ' H' { s' with heap := h4 } := J.landed nb fl4.1 ((up.trans up3).trans up4) os ag
      obtain ⟨oe4, vs4, he4, hz4, hd4⟩ := fl4.there
      refine store_ok (X := X.suite a ((a, oe4) :: (X.pn ++ pins))) (v := .ref a) (J4.suite he4 hd4 na nL nF) hN hi (.inl hln) rfl (fun s5 S5 => ?_) (.inr hln)
      refine wpAny_mono ((hsu a oe4 (X.pn ++ pins)).run [] s5 _ H' _ S5 (hyes rfl a na)) (fun f s6 hsp => ?_) (fun _ _ z => False.elim z)
      cases f with
      | next =>
        obtain ⟨σ6, H6, S6, q6⟩ := hsp
        have P6 : Inv X ((a, oe4) :: pins) σ6 H6 s6 := (S6.unsuite ok).pins_of fun p hp => by
          rcases List.mem_cons.mp hp with z | z
          · rw [z]
            exact S6.pin (a, oe4) (List.mem_append_left _ List.mem_cons_self)
          · exact S6.pin p (List.mem_append_left _ (List.mem_cons_of_mem _ (List.mem_append_right _ z)))
        exact gone_ok P6 hN hi hln fun s7 J7 => ⟨_, _, track J7 hex n0 hz4 hd4 nP, q6⟩
      | brk =>
        obtain ⟨_, _, _, q6⟩ := hsp
        exact q6.elim
      | cont =>
        obtain ⟨_, _, _, q6⟩ := hsp
        exact q6.elim
      | ret u =>
        obtain ⟨_, _, _, _, _, q6⟩ := hsp
        exact q6.elim
    | false =>
      show wpAny _ X.A (handleBy (.ref a) X.env []) _ _ _
      refine wpAny_handleBy_nil ?_
      obtain ⟨k1, k2, k3, oe, vs, T, oT, ts', he, hz, hd, h1, hr⟩ := id fl3
      unfold PySem.passOn
      refine wpAny_bind (wpAny_field he hd h1 ?_)
      rw [if_neg (show ¬ ((Value.ref T == Value.none) = true) from by simp)]
      have fin : wpAny (model X.prog X.w) X.A (setFlight (.ref a) X.env.frame) (fun _ s4 => wpAny (model X.prog X.w) X.A (throw (.ref a) : Sem Flow) (SP X pins D) X.xe s4) X.xe { s' with heap := h3 } := by
        rw [hf]
        exact HandSPX.setFlight_upZ fl3 fun h4 hh4 up4 => wpAny_throw (tk _ _ ⟨a, B, sI, pins, σ', H', cls, d, rfl, J, nb, (up.trans up3).trans up4, .inr (.inr (by rw [hs]; exact hh4)), na, os, ag, hno rfl⟩)
      first
        | exact wpAny_bind (wpAny_pure (wpAny_bind fin))
        | exact wpAny_bind fin
  · cases f with
    | next =>
      obtain ⟨σ', H', J', q⟩ := hsp
      exact wpAny_execs_nil ⟨σ', H', J'.ofTry ok, q⟩
    | brk =>
      obtain ⟨σ', H', J', q⟩ := hsp
      exact ⟨σ', H', J'.ofTry ok, q⟩
    | cont =>
      obtain ⟨σ', H', J', q⟩ := hsp
      exact ⟨σ', H', J'.ofTry ok, q⟩
    | ret u =>
      obtain ⟨v, σ', H', J', r, q⟩ := hsp
      exact ⟨v, σ', H', J'.ofTry ok, r, q⟩
end
end Xv

set_option Elab.async false
set_option linter.all false
set_option maxRecDepth 100000
set_option maxHeartbeats 4000000
set_option pp.maxSteps 3000
/-! _law_caught: work() is called, its exception is handed back -/
namespace Xv
open PySem PySem.Spec PyProof.Rows L2 LamX
abbrev caughtBody (p1 p2 p3 p4 p5 p6 p7 p8 p9 pa pb pc pd pe : Pos) (j : Nat) : List Stmt := [.Assign [.Name "caught" p1] (.Constant .none j p2) p3,
  .Try [.Expr (.Call (.Name "work" p4) [] [] p5) p6] [.ExceptHandler (some (.Name "SeriesError" p7)) (some "error") [.Assign [.Name "caught" p8] (.Name "error" p9) pa] pb] [] [] pc, .Return (some (.Name "caught" pd)) pe]
/-- what is asked: work() gives whatever, or raises an exception that is caught -/
def TCaught (K : PySem.W.Frag) (CS : Addr) : (XK → Hp → VK → Prop) → Hp → VK → Prop := fun tl H Q =>
  tl (fun cls d H' => PySem.W.exmOne K cls (.ref CS) = some true ∧ ∀ a, H' a = none → Q (.ref a) (upd H' a (ErX cls d a))) H (fun _ H' => ∃ v, some (some V.non) = some (some v) ∧ Q v H')
theorem caught_gives {X : Cx} {sg : Scope} {g CS : Addr} {cdg : Value} {q : Str} {p1 p2 p3 p4 p5 p6 p7 p8 p9 pa pb pc pd pe : Pos} {j : Nat} (Sg : FnScope ["work", "caught", "error"] ["work"] sg) (v0 : sg.names.lookup ("work" : Str) = some NameKind.local) (v1 : sg.names.lookup ("caught" : Str) = some NameKind.local) (v2 : sg.names.lookup ("error" : Str) = some NameKind.local)
    (hge : sg.names.lookup ("SeriesError" : Str) = some NameKind.globalImplicit) (hme : X.mg "SeriesError" = some (.ref CS)) : GivesTo X ["work", "caught", "error"] "_law_caught" sg g cdg (caughtBody p1 p2 p3 p4 p5 p6 p7 p8 p9 pa pb pc pd pe j) "work" q (TCaught X.K CS) := by
  intro f c' s H Q tl act hc h
  have hgl : Gl (cxOf C8.CX0 X.prog X.w X.K X.mg X.base ["work", "caught", "error"] "_law_caught" sg g cdg X.A X.stack s H C8.E0).nox "SeriesError" := hge
  refine ⟨_, pss_cons (ps_set (i := 1) Sg.nd rfl (Or.inl v1) pe_non) (pss_cons (ps_try_keep (X := (cxOf C8.CX0 X.prog X.w X.K X.mg X.base ["work", "caught", "error"] "_law_caught" sg g cdg X.A X.stack s H C8.E0).nox) (c := .ref CS) (i := 2)
      (tb := fun W D σ H => ∃ Ech : XK, (∀ cls d σ' H', Ech cls d H' → W cls d σ' H') ∧ σ[0]? = some (some (.ref f)) ∧ H c' = some (CodeO c' q) ∧ tl Ech H (fun _ H' => D.nx σ H'))
      rfl rfl Sg.nd rfl rfl v2 ⟨hgl, by decide, .inl hme⟩ L2.takes0 (fun W pn xe tk => ?_) (fun a oe pn => pss_one (ps_set (i := 1) Sg.nd rfl (Or.inl v1) (pe_var (i := 2) rfl (Or.inl v2))))) (pss_one (ps_ret (pe_var (i := 1) rfl (Or.inl v1))))), ?_⟩
  · refine ⟨fun pins s' σ H' D I h' => ?_⟩
    obtain ⟨Ech, hW, h1, h2, h3⟩ := h'
    have hp := act W pn xe Ech p4 p5 tk hW
    have hq := pss_one (ps_expr (pos := p6) hp)
    exact hq.run pins s' σ H' D I ⟨h1, h2, h3⟩
  · refine ⟨fun cls d H' => PySem.W.exmOne X.K cls (.ref CS) = some true ∧ ∀ a, H' a = none → Q (.ref a) (upd H' a (ErX cls d a)), fun cls d σ' H' hE => ?_, rfl, hc, ?_⟩
    · obtain ⟨e1, e2⟩ := hE
      intro hl
      match σ', hl with
      | [s0, s1, s2], _ => exact ⟨true, e1, fun _ a ha => ⟨_, rfl, _, rfl, e2 a ha⟩, fun z => nomatch z⟩
    · exact h
/-- a caught exception of the class at C at a, its fields fs, if it has a dict -/
def ErC (H : Hp) (a C : Addr) (fs : Option (List (Str × V))) : Prop := (fs = none ∧ H a = some (ErX (.ref C) none a)) ∨ ∃ d xs, fs = some xs ∧ H a = some (ErX (.ref C) (some d) a) ∧ H d = some (.xd xs)
section
variable {X : Cx} {pins : List (Addr × Obj)} {σ : L2.St} {H : Hp} {s : Shared} {a C : Addr} {fs : Option (List (Str × V))}
theorem erC_same {H H' : Hp} (h : ErC H a C fs) (k : Same H H') : ErC H' a C fs := by
  rcases h with ⟨e, h⟩ | ⟨d, xs, e, h, hd⟩
  · exact .inl ⟨e, k _ _ h⟩
  · exact .inr ⟨d, xs, e, k _ _ h, k _ _ hd⟩
theorem erC_inst (I : Inv X pins σ H s) (h : ErC H a C fs) : ∃ ox od, PySem.W.InstAt s.heap a ox C od := by
  rcases h with ⟨_, h⟩ | ⟨d, xs, _, h, hd⟩
  · have q : ObjOk X.prog X.w H s.heap a (ErX (.ref C) none a) := I.hok a _ h
    obtain ⟨⟨oe, vs, e, z, dt⟩, _⟩ := q
    obtain ⟨oc, od, oda, osl⟩ := oe
    obtain ⟨z1, z2⟩ := z
    dsimp only at z1 z2 dt
    subst z1 z2 dt
    exact ⟨_, none, e, rfl, rfl, trivial⟩
  · have q : ObjOk X.prog X.w H s.heap a (ErX (.ref C) (some d) a) := I.hok a _ h
    obtain ⟨⟨oe, vs, e, z, dt⟩, _⟩ := q
    have hx : ObjOk X.prog X.w H s.heap d (.xd xs) := I.hok d _ hd
    obtain ⟨mA, hns, hr⟩ := hx
    obtain ⟨od, ho, hl⟩ := lookIn_ns hns
    exact ⟨oe, some od, e, z.1, by unfold PySem.W.notCls; rw [dt] <;> rfl, by rw [z.2]; exact ho⟩
/-- isinstance(e, c), e a caught exception -/
def rIsC (K : PySem.W.Frag) : List V → Hp → VK → Prop := fun xs H Q => ∃ (a C : Addr) (fs : Option (List (Str × V))) (c : V) (cv : Value) (b : Bool), xs = [.ref a, c] ∧ ErC H a C fs ∧ ExcC K C ∧ (∀ u, RelV c u → u = cv) ∧ PySem.W.kitOne K (.ref C) cv = some b ∧ Q (.bl b) H
theorem call_isC : CallR X (.builtin "isinstance") (rIsC X.K) := by
  intro pins s σ H xs us Q I r h
  obtain ⟨a, C, fs, c, cv, b, rfl, he, T, hc, hk, q⟩ := h
  obtain ⟨u1, u2, rfl, r1, r2⟩ := vals2 r
  cases (show u1 = Value.ref a from r1)
  have e2 := hc _ r2
  subst e2
  obtain ⟨ox, od, J⟩ := erC_inst I he
  obtain ⟨cd, hcd, _⟩ := PySem.W.any_some T.hd
  exact PySem.W.kia_one (PySem.W.kitx_exc (by rw [hcd]; rfl) T.hg T.hk T.hs T.ha T.hn T.ht T.hm) I.kIn J hk (fun z => nomatch z) fun tk => ⟨.bl b, H, I.tok tk, rfl, q⟩
end
/-- e.f, e a caught exception with fields -/
def tErC (K : PySem.W.Frag) (f : Str) (te : TE) : TE := fun σ H Q => te σ H fun x H1 => ∃ (a C : Addr) (fs : List (Str × V)) (v : V), x = .ref a ∧ ErC H1 a C (some fs) ∧ XfC K C ∧ PySem.W.findIn K (.ref C) f = some none ∧ fs.lookup f = some v ∧ Q v H1
theorem pe_erC {X : Cx} {e : Expr} {te : TE} {pos : Pos} {n : Str} (he : PE X e te) (hb : attributeBase e n X.env (eval e X.env) = eval e X.env := by rfl) : PE X (.Attribute e n pos) (tErC X.K n te) := by
  refine ⟨fun pins s σ H Q I h => attr_of hb (thn (he.run pins s σ H _ I h) fun u s1 hh => ?_)⟩
  obtain ⟨x, H1, I1, rx, a, C, fs, v, rfl, he, T, hno, l, q⟩ := hh
  obtain rfl : u = Value.ref a := rx
  rcases he with ⟨z, _⟩ | ⟨d, xs, z, h, hd⟩
  · cases z
  · cases z
    have qo : ObjOk X.prog X.w H1 s1.heap a (ErX (.ref C) (some d) a) := I1.hok a _ h
    obtain ⟨⟨oe, vs, e, z, dt⟩, _⟩ := qo
    have hx : ObjOk X.prog X.w H1 s1.heap d (.xd fs) := I1.hok d _ hd
    obtain ⟨mA, hns, hr⟩ := hx
    obtain ⟨od, ho, hl⟩ := lookIn_ns hns
    obtain ⟨u, hu, ru⟩ := RelO.some_of (v := v) (o := mA n) (by rw [← l]; exact hr n)
    have J : PySem.W.InstAt s1.heap a oe C (some od) := ⟨e, z.1, by unfold PySem.W.notCls; rw [dt] <;> rfl, by rw [z.2]; exact ho⟩
    exact HandSPX.exc_get I1.kIn J T.ga T.gg T.exC (PySem.W.findObj_own T.hdC hno rfl (by rw [hl, hu])) (handed_of ru) ⟨v, H1, I1.tok _, ru, q⟩
end Xv

set_option Elab.async false
set_option linter.all false
set_option maxRecDepth 100000
set_option maxHeartbeats 4000000
set_option pp.maxSteps 3000
namespace PySem
theorem meets_enumerate_new1 {v : Value} {o : Obj} {H : Heap → Prop} (B : Begins v o H) :
    Meets (Builtin.«enumerate.__new__» ⟨[.type "enumerate", v], []⟩) (fun _ R s => H s.heap ∧
      R (.ok (.ret (.ref (s.heap.push o).objs.size))) { s with heap := (s.heap.push o).push { cls := .type "enumerate", data := .fields #[.none, .bool false, .ref s.heap.objs.size, rawInt 0, .none, .none] } }) :=
  .of_wp fun prog w A R s h => by
    obtain ⟨hp, g, d, tk, os⟩ := s; obtain ⟨h1, h⟩ := h
    have hsub := sub_enumerate
    have q1 : ∀ {A' : Around} {E : Value → Shared → Prop} {Q : Value → Shared → Prop}, Q (.ref hp.objs.size) ⟨hp.push o, g, d, tk, os⟩ → wpAny (model prog w) A' (pyIter v) Q E ⟨hp, g, d, tk, os⟩ :=
      fun q => B.iter prog w _ _ ⟨hp, g, d, tk, os⟩ _ h1 q
    wp_walk using q1
    refine wpAny_stack_any fun st => wpAny_pure ?_
    split
    · rename_i c _ _ _ _ _
      cases (c == Value.type "enumerate")
      · wp_walk using q1
        exact ⟨_, rfl, h⟩
      · wp_walk using q1
        exact ⟨_, rfl, h⟩
    · wp_walk using q1
      exact ⟨_, rfl, h⟩
section
variable {prog : Program} {w : World} {A : Around} {E : Value → Shared → Prop} {s : Shared}
theorem enum_begins1 {v : Value} {o : Obj} {H : Heap → Prop} {Q : Value → Shared → Prop} (B : Begins v o H) (h1 : H s.heap)
    (h : ∀ h', IsEnum h' (s.heap.objs.size + 1) s.heap.objs.size 0 .none → h'.get? s.heap.objs.size = some o → h'.objs.size = s.heap.objs.size + 2 →
      (∀ b o, s.heap.get? b = some o → h'.get? b = some o) → Q (.ref (s.heap.objs.size + 1)) { s with heap := h' }) :
    wpAny (model prog w) A (call (.type "enumerate") [v]) Q E s := by
  refine callType_new F.called_enumerate (by decide) (F.typeCall_enumerate_1 _) (F.newCall_enumerate_1 _) (fun obj => F.args_object_init_2 obj _) F.entry_enumerate_new
    (meets_enumerate_new1 B) ⟨h1, ?_⟩
  have hz : (s.heap.push o).objs.size = s.heap.objs.size + 1 := Heap.size_push ..
  show _ ∧ _
  rw [hz]
  have he : IsEnum ((s.heap.push o).push { cls := .type "enumerate", data := .fields #[.none, .bool false, .ref s.heap.objs.size, rawInt 0, .none, .none] }) (s.heap.objs.size + 1) s.heap.objs.size 0 .none := by
    have := Heap.get?_push_size (s.heap.push o) (o := { cls := .type "enumerate", data := .fields #[.none, .bool false, .ref s.heap.objs.size, rawInt 0, .none, .none] }) rfl
    rw [hz] at this; exact this
  refine ⟨⟨_, he, rfl⟩, h _ he (Heap.get?_push_of_some _ (Heap.get?_push_size _ B.free)) (by rw [Heap.size_push, hz]) fun b o x => Heap.get?_push_of_some _ (Heap.get?_push_of_some _ x)⟩
end
end PySem
namespace Xv
open PySem PySem.Spec PyProof.Rows L2
/-- enumerate of a tuple -/
def IteT (K : PySem.W.Frag) (a : Addr) : It :=
  ⟨fun i H => ∃ (xs : List V) (x : V), SqT K H a xs ∧ xs[i]? = some x, fun i H v H' => ∃ T x, v = .ref T ∧ H T = none ∧ H' = upd H T (.tup [.int (i : Nat), x]) ∧ ∀ xs, SqT K H a xs → xs[i]? = some x, fun i H => ∃ xs : List V, SqT K H a xs ∧ xs.length = i⟩
theorem turn_enumT {P : Program} {w : World} {K : PySem.W.Frag} {elts : List Expr} {kk : Nat} {tpos : Pos} (a e it : Addr) (hat : a ≠ it) :
    Turn P w K (.Tuple elts kk tpos) (IteT K a) [e, it] e (fun i h => (∃ old, IsEnum h e it ((i : Nat) : Int) old) ∧ h.IsTupleIter it a i ∧ e ≠ it ∧ e ≠ a) where
  mem := by simp
  obj := fun i h st b hb => by
    obtain ⟨⟨old, he⟩, ⟨o, ho, hc, hd⟩, _⟩ := st
    have e' : b = e ∨ b = it := by simpa using hb
    rcases e' with z | z
    · rw [z]; exact ⟨_, he, fun v q => nomatch q⟩
    · rw [z]; exact ⟨o, ho, fun v q => by rw [hd] at q; cases q⟩
  keep := fun i h h' st k => let ⟨⟨old, he⟩, hi, hne, hea⟩ := st; ⟨⟨old, k e (by simp) _ he⟩, hi.at fun o q => k it (by simp) o q, hne, hea⟩
  item := by
    intro X hP hw hK hc i pins s σ H E I hf st hg
    subst hP hw hK
    obtain ⟨⟨old, he⟩, hit, hne, hea⟩ := st
    obtain ⟨xs, x, hq, hx⟩ := hg
    obtain ⟨its, rv, p, hz⟩ := I.tuple hq
    obtain ⟨u, hu, ru⟩ := rv.get hx
    have hel : e < s.heap.objs.size := Heap.lt_size he
    have hil : it < s.heap.objs.size := by obtain ⟨_, q, _⟩ := hit; exact Heap.lt_size q
    have hlt : i < its.toArray.size := by
      have := (List.getElem?_eq_some_iff.mp hu).1
      simpa using this
    refine wpAny_pyNext_enum_itemD (Draws.tuple (prog := X.prog) (w := X.w) (A := X.A.in1) (I.ok.hd hc) it a hat its.toArray) he ⟨hit, p⟩ hlt hne (by simp [hne, hea]) fun y h' tk hy ho hst' hT hsz hk => ?_
    obtain ⟨hit', _⟩ := hst'
    have ey : y = u := by
      have e1 : its.toArray[i]? = some u := by simpa using hu
      rw [e1] at hy
      exact (Option.some.inj hy).symm
    subst ey
    refine ⟨_, rfl, wpAny_letOwnedTupleGo_enum (s := { s with heap := h', toks := tk + 1 }) ho fun h'' he' sb => ?_⟩
    have hT2 : h''.get? s.heap.objs.size = some { cls := .type "tuple", data := .seq #[.int i tk, y] } := (sb.2 _ (Nat.ne_of_gt hel)).trans hT
    have new : ObjOk X.prog X.w (upd H s.heap.objs.size (.tup [.int (i : Nat), x])) h'' s.heap.objs.size (.tup [.int (i : Nat), x]) :=
      ⟨by show 2 ≤ sizeLine; decide, [.int i tk, y], .cons ⟨_, rfl⟩ (.cons ru .nil), ⟨_, hT2, rfl, _, rfl⟩⟩
    have I1 : Inv X pins σ (upd H s.heap.objs.size (.tup [.int (i : Nat), x])) { s with heap := h'', toks := tk + 1 } :=
      I.turnedNew (ch := [e, it]) (fun b ob hb q => (sb.2 b (fun z => hb (by simp [z]))).trans (hk b ob (fun z => hb (by simp [z])) (fun z => hb (by simp [z])) q)) hf (Nat.le_refl _) new
    refine ⟨.ref s.heap.objs.size, _, I1, rfl, ⟨_, x, rfl, I.hok.fresh (Nat.le_refl _), rfl, fun ys hy => by rw [I.tuple_inj hy hq]; exact hx⟩, ⟨⟨y, ?_⟩, hit'.at fun o q => (sb.2 it (Ne.symm hne)).trans q, hne, hea⟩, fun b hb => ?_⟩
    · have e1 : ((i + 1 : Nat) : Int) = (i : Int) + 1 := by omega
      rw [e1]; exact he'
    · have hb' : b < s.heap.objs.size := by
        have e' : b = e ∨ b = it := by simpa using hb
        rcases e' with z | z
        · rw [z]; exact hel
        · rw [z]; exact hil
      rw [upd_ne (Nat.ne_of_lt hb')]
      exact (hf b hb).1
  done := by
    intro X hP hw hK hc i pins s σ H E I hf st hg
    subst hP hw hK
    obtain ⟨⟨old, he⟩, hit, hne, hea⟩ := st
    obtain ⟨xs, hq, hx⟩ := hg
    obtain ⟨its, rv, p, hz⟩ := I.tuple hq
    obtain ⟨f0, f1, f2, f3, f4, f5⟩ := hf it (by simp)
    have hl := rv.length
    have en : i = its.toArray.size := by
      rw [List.size_toArray]
      omega
    subst en
    have D := Draws.tuple (prog := X.prog) (w := X.w) (A := X.A.in1) (I.ok.hd hc) it a hat its.toArray
    exact wpAny_pyNext_enum_endD D he ⟨hit, p⟩ fun h' eb => ⟨rfl, I.turned (t' := s.toks) (fun b o hb q => eb b o hb q) f0 f1 f3 f4 f5⟩
  self := fun A i s Q E st h => let ⟨⟨_, he⟩, _⟩ := st; wpAny_pyIter_enum he h
/-- enumerate of a list or a tuple -/
def iEnumT (K : PySem.W.Frag) (ta : TA) : TI := fun σ H R => ta σ H fun vs H1 => ∃ a xs, vs = [.ref a] ∧ ((SqL K H1 a xs ∧ R (Ite K a) H1) ∨ (SqT K H1 a xs ∧ R (IteT K a) H1))
theorem pi_enumT {X : Cx} {e : Expr} {ta : TA} {p pos tpos : Pos} {elts : List Expr} {kk : Nat} (hg : Gl X "enumerate") (hm : X.mg "enumerate" = none) (ha : PA X [e] ta) (hs : starEach [e] X.env = [(false, eval e X.env)] := by rfl) :
    PI X (.Tuple elts kk tpos) (.Call (.Name "enumerate" p) [e] [] pos) (iEnumT X.K ta) := by
  refine ⟨fun pins s σ H R I h => ?_⟩
  refine Call_ (ld_blt I hg hm boot_enumerate (PyProof.Rows.callWith_type1 (thn (ha.run pos pins s σ H _ I h) fun us s1 ⟨vs, H1, I1, r1, q1⟩ => ?_) hs rfl))
  obtain ⟨a, xs, ex, q⟩ := q1
  subst ex
  cases r1 with
  | cons r rr =>
    cases rr
    cases r
    rcases q with ⟨hq, q⟩ | ⟨hq, q⟩
    · obtain ⟨its, rv, p', hz⟩ := I1.list hq
      refine call_enumerate_list p'.isList fun h' he hit hsz hk => wpAny_pyIter_enum he ?_
      have I2 : Inv X pins σ H1 { s1 with heap := h' } := I1.kept (t' := s1.toks) hk
      refine ⟨s1.heap.objs.size + 1, [s1.heap.objs.size + 1, s1.heap.objs.size], _, _, H1, rfl, I2, turn_enum a (s1.heap.objs.size + 1) s1.heap.objs.size, ⟨⟨.none, he⟩, hit, Nat.succ_ne_self _⟩, fun b hb => ?_, q⟩
      have e' : b = s1.heap.objs.size + 1 ∨ b = s1.heap.objs.size := by simpa using hb
      have hle : s1.heap.objs.size ≤ b := by
        rcases e' with z | z
        · rw [z]; exact Nat.le_add_right _ _
        · rw [z]; exact Nat.le_refl _
      exact I1.fpOk hle (I1.hok.fresh hle)
    · obtain ⟨its, rv, p', hz⟩ := I1.tuple hq
      have p2 : s1.heap.IsTuple a its.toArray := p'
      have hal : a < s1.heap.objs.size := by
        obtain ⟨o, ho, _⟩ := p2
        exact Heap.lt_size ho
      refine enum_begins1 (begins_tuple a its.toArray) p2 fun h' he hit hsz hk => wpAny_pyIter_enum he ?_
      have I2 : Inv X pins σ H1 { s1 with heap := h' } := I1.kept (t' := s1.toks) hk
      refine ⟨s1.heap.objs.size + 1, [s1.heap.objs.size + 1, s1.heap.objs.size], _, _, H1, rfl, I2, turn_enumT a (s1.heap.objs.size + 1) s1.heap.objs.size (Nat.ne_of_lt hal),
        ⟨⟨.none, he⟩, ⟨_, hit, rfl, rfl⟩, Nat.succ_ne_self _, Nat.ne_of_gt (Nat.lt_succ_of_lt hal)⟩, fun b hb => ?_, q⟩
      have e' : b = s1.heap.objs.size + 1 ∨ b = s1.heap.objs.size := by simpa using hb
      have hle : s1.heap.objs.size ≤ b := by
        rcases e' with z | z
        · rw [z]; exact Nat.le_add_right _ _
        · rw [z]; exact Nat.le_refl _
      exact I1.fpOk hle (I1.hok.fresh hle)
theorem walk_enumT {K : PySem.W.Frag} {a : Addr} {xs : List V} : Walk (IteT K a) xs.length (fun H => SqT K H a xs) (YPair (fun i => some (.int (i : Nat))) (fun i => xs[i]?)) := by
  refine ⟨fun i _ hi q => ⟨xs, xs[i], q, by simp [hi]⟩, fun _ q => ⟨xs, q, rfl⟩, fun i H v H' _ q y => ?_⟩
  obtain ⟨T, x, h1, h2, h3, h4⟩ := y
  exact ⟨T, .int (i : Nat), x, h1, h2, h3, rfl, h4 xs q⟩
/-- a list or a tuple walked -/
def iSeq (K : PySem.W.Frag) (tl : TE) : TI := fun σ H R => tl σ H fun x H1 => ∃ a, x = .ref a ∧ (((∃ xs, SqL K H1 a xs) ∧ R (Itl K a) H1) ∨ ((∃ xs, SqT K H1 a xs) ∧ R (Itt K a) H1))
theorem pi_seq {X : Cx} {tg l : Expr} {tl : TE} (hl : PE X l tl) : PI X tg l (iSeq X.K tl) := by
  refine ⟨fun pins s σ H R I h => ?_⟩
  refine thn (hl.run pins s σ H _ I h) fun v s1 ⟨x, H1, I1, r1, q1⟩ => ?_
  obtain ⟨a, e, q⟩ := q1
  subst e
  cases r1
  rcases q with ⟨⟨xs, hq⟩, q⟩ | ⟨⟨xs, hq⟩, q⟩
  · obtain ⟨its, rv, p, hz⟩ := I1.list hq
    refine wpAny_pyIter_list p.isList ?_
    refine ⟨s1.heap.objs.size, [s1.heap.objs.size], _, _, H1, rfl, I1.kept (t' := s1.toks) fun b o e => Heap.get?_push_of_some _ e, turn_list a _, ⟨_, Heap.get?_push_size _ rfl, rfl, rfl⟩, fun b hb => ?_, q⟩
    have e : b = s1.heap.objs.size := by simpa using hb
    subst e
    exact I1.fpOk (Nat.le_refl _) (I1.hok.fresh (Nat.le_refl _))
  · obtain ⟨its, rv, p, hz⟩ := I1.tuple hq
    refine wpAny_pyIter_tuple (show s1.heap.IsTuple a its.toArray from p) ?_
    refine ⟨s1.heap.objs.size, [s1.heap.objs.size], _, _, H1, rfl, I1.kept (t' := s1.toks) fun b o e => Heap.get?_push_of_some _ e, turn_tuple a _, ⟨_, Heap.get?_push_size _ rfl, rfl, rfl⟩, fun b hb => ?_, q⟩
    have e : b = s1.heap.objs.size := by simpa using hb
    subst e
    exact I1.fpOk (Nat.le_refl _) (I1.hok.fresh (Nat.le_refl _))
/-! ### f(k = v, ..): keywords alone -/
section
variable {X : Cx} {p pos : Pos} {x : Str} {kws : List Keyword} {tk : TA} {CX : CXT} {k : Nat} {f : Addr} {fd : FuncData} {ps ks : List Str} {sp : Sp} {E : XK} {g : List Value → List Value → List Value} {gV : List V → List V → List V}
theorem pe_callK0 (F : FnOk X.prog X.w X.K X.mg X.base CX k f fd ps sp) (hr : Room k X.A) (hg : Gl X x) (hm : X.mg x = some (.ref f)) (hk : PySem.W.keepIn X.K (.ref f) = true) (hb : KBinds X.K fd ps ks g gV) (hx : Passes CX X E)
    (hkw : PK X kws tk) (hall : (backToKw pos (keywordEach kws X.env)).all (·.1.isSome) = true := by rfl) (hks : (backToKw pos (keywordEach kws X.env)).filterMap (·.1) = ks := by rfl)
    (hdb : (x == ("__debug__" : Str)) = false := by decide)
    (hpl : ((backTo pos (starEach [] X.env)).any (·.1) || (backToKw pos (keywordEach kws X.env)).any (·.1.isNone)) = false := by rfl) :
    PE X (.Call (.Name x p) [] kws pos) (tCallK sp gV E tNil tk) := by
  refine ⟨fun pins s σ H Q I h => ?_⟩
  refine wpAny_Call_Name_kw (ld_glob I hg hm ?_ hdb)
  refine PySem.W.callWith_KW0 (h₀ := X.base) I.ok.mod.kin hk hall (thn (hkw.run pos pins s σ H _ I h) fun ws s2 ⟨zs, H2, I2, rz, q2⟩ => ⟨I2.kIn, ?_⟩) hpl
  rw [hks]
  exact run_fnk (us := []) (vs := []) F hr hb hx I2 .nil rz q2
end
/-! ### xs[t::m] of a list, 0 ≤ t, 0 < m -/
/-- the items at lo, lo + m, .. -/
def stepV (xs : List V) (t m : Nat) : List V := (List.range ((xs.length - t + m - 1) / m)).filterMap fun k => xs[t + m * k]?
def tStepL (K : PySem.W.Frag) (te : TE) (tl ts : TO) : TE := fun σ H Q => te σ H fun x H1 => tl σ H1 fun l H2 => ts σ H2 fun u H3 => ∃ a xs, ∃ t m : Nat, x = .ref a ∧ l = some (t : Int) ∧ u = some (m : Int) ∧ 0 < m ∧ t ≤ xs.length ∧ SqL K H3 a xs ∧ ∀ p, H3 p = none → Q (.ref p) (upd H3 p (.lst (stepV xs t m)))
theorem pick_step {its : List Value} {t m : Nat} (hm : 0 < m) (ht : t ≤ its.length) : slicePick its.toArray (some (t : Int)) none (some (m : Int)) = ((List.range ((its.length - t + m - 1) / m)).filterMap fun k => its[t + m * k]?).toArray := by
  have hm' : (m : Int) > 0 := by omega
  have hm2 : ¬ ((t : Int) < 0) := by omega
  have e1 : max 0 (min (t : Int) (its.length : Int)) = (t : Int) := by omega
  unfold slicePick sliceBounds
  simp only [Option.getD_some, List.size_toArray, hm', if_true, hm2, if_false, e1]
  unfold sliceRange
  simp only [hm', if_true]
  congr 1
  have e2 : (if (t : Int) < (its.length : Int) then ((its.length : Int) - t + m - 1) / m else 0).toNat = (its.length - t + m - 1) / m := by
    by_cases h : (t : Int) < (its.length : Int)
    · rw [if_pos h]
      have e3 : ((its.length : Int) - t + m - 1) = ((its.length - t + m - 1 : Nat) : Int) := by omega
      rw [e3]
      rw [← Int.natCast_ediv]
      exact Int.toNat_natCast _
    · rw [if_neg h]
      have e3 : its.length - t + m - 1 = m - 1 := by omega
      rw [e3, Nat.div_eq_of_lt (by omega)]
      rfl
  rw [e2, List.filterMap_map]
  congr 1
  funext k
  have e4 : ((t : Int) + (m : Int) * (k : Int)).toNat = t + m * k := by
    rw [← Int.natCast_mul]
    omega
  show its.toArray[((t : Int) + (m : Int) * (k : Int)).toNat]? = _
  rw [e4]
  simp
theorem stepV_vals {xs : List V} {its : List Value} (r : Vals xs its) (t m : Nat) : ∀ n : Nat, Vals ((List.range n).filterMap fun k => xs[t + m * k]?) ((List.range n).filterMap fun k => its[t + m * k]?)
  | 0 => .nil
  | n + 1 => by
    rw [List.range_succ, List.filterMap_append, List.filterMap_append]
    refine (stepV_vals r t m n).append ?_
    show Vals (List.filterMap _ [n]) (List.filterMap _ [n])
    rw [List.filterMap_cons, List.filterMap_cons]
    cases e : xs[t + m * n]? with
    | none =>
      have e2 : its[t + m * n]? = none := by
        have hl := r.length
        rw [List.getElem?_eq_none_iff] at e ⊢
        omega
      rw [e2]
      exact .nil
    | some v =>
      obtain ⟨u, hu, ru⟩ := r.get e
      rw [hu]
      exact .cons ru .nil
theorem filterMap_range_le {f : Nat → Option V} : ∀ n : Nat, ((List.range n).filterMap f).length ≤ n
  | 0 => Nat.le_refl _
  | n + 1 => by
    rw [List.range_succ, List.filterMap_append, List.length_append]
    have h1 := filterMap_range_le (f := f) n
    have h2 : ([n].filterMap f).length ≤ 1 := by
      rw [List.filterMap_cons]
      cases f n <;> simp
    omega
theorem stepV_length {xs : List V} {t m : Nat} (hm : 0 < m) (ht : t ≤ xs.length) : (stepV xs t m).length ≤ xs.length := by
  refine Nat.le_trans (filterMap_range_le _) ?_
  refine Nat.le_trans (m := xs.length - t) ?_ (Nat.sub_le _ _)
  by_cases h : xs.length - t = 0
  · rw [h, Nat.div_eq_of_lt (by omega)]
    exact Nat.le_refl _
  · refine Nat.div_le_of_le_mul ?_
    generalize xs.length - t = d at *
    have h1 : 0 ≤ (d - 1) * (m - 1) := Nat.zero_le _
    obtain ⟨d', rfl⟩ : ∃ d', d = d' + 1 := ⟨d - 1, by omega⟩
    obtain ⟨m', rfl⟩ : ∃ m', m = m' + 1 := ⟨m - 1, by omega⟩
    have e : (m' + 1) * (d' + 1) = m' * d' + m' + d' + 1 := by
      rw [Nat.add_mul, Nat.mul_add]
      omega
    rw [e]
    omega
theorem pe_stepL {X : Cx} {e lo st : Expr} {te : TE} {tl ts : TO} {p3 pos : Pos} (he : PE X e te) (hl : PO X (some lo) tl) (hst : PO X (some st) ts) : PE X (.Subscript e (.Slice (some lo) none (some st) p3) pos) (tStepL X.K te tl ts) := by
  refine ⟨fun pins s σ H Q I h => ?_⟩
  refine Subscript_ (thn (he.run pins s σ H _ I h) fun v s1 ⟨x, H1, I1, r1, q1⟩ => ?_)
  refine wpAny_Slice (thn (hl.run pins s1 σ H1 _ I1 q1) fun vl s2 ⟨l, H2, I2, pl, q2⟩ => ?_)
  refine thn (po_none.run pins s2 σ H2 (fun o H3 => o = none ∧ H3 = H2) I2 ⟨rfl, rfl⟩) fun vu s3 ⟨u, H3, I3, pu, eu, e3⟩ => ?_
  subst eu e3
  refine thn (hst.run pins s3 σ H3 _ I3 q2) fun vs s4 ⟨o, H4, I4, ps, q4⟩ => ?_
  obtain ⟨a, xs, t, m, rfl, rfl, rfl, hm, ht, hx, q⟩ := q4
  cases r1
  have I5 : Inv X pins σ H4 { s4 with heap := s4.heap.push { cls := .type "slice", data := .fields #[vl, vu, vs] } } := I4.kept (t' := s4.toks) fun b ob q => Heap.get?_push_of_some _ q
  obtain ⟨its, r, hT, hz⟩ := I5.list hx
  have hlen := r.length
  show wpAny (model X.prog X.w) X.A (subscriptTail e (.Slice (some lo) none (some st) p3) (.ref a) (.ref s4.heap.objs.size)) (EP X pins σ Q) X.xe { s4 with heap := s4.heap.push { cls := .type "slice", data := .fields #[vl, vu, vs] } }
  refine tail_any (ops := [.ref a, .ref s4.heap.objs.size]) hT.isList.typeIs (PySem.slot_list_getitem.lookup) ?_ (by with_unfolding_all rfl)
  refine wpAny_getItem_list_slice hT.isList (Heap.IsSliceOf.new _ vl vu vs) pl pu ps (by
    intro z
    have z2 := Option.some.inj z
    omega) ?_ (by rw [List.size_toArray]; omega)
  rw [pick_step hm (by omega)]
  refine ⟨.ref _, _, I5.laid (t' := s4.toks) (o := .lst (stepV xs t m)) (fun b ob q => Heap.get?_push_of_some _ q) (Nat.le_refl _) ?_, rfl, q _ (I5.hok.fresh (Nat.le_refl _))⟩
  refine ⟨Nat.le_trans (stepV_length hm ht) hz, _, 0, ?_, Heap.get?_push_size _ rfl⟩
  rw [← hlen]
  exact stepV_vals r t m _
end Xv

set_option Elab.async false
set_option linter.all false
set_option maxRecDepth 100000
set_option maxHeartbeats 4000000
set_option pp.maxSteps 3000
namespace Xv
open PySem PySem.Spec PyProof.Rows L2
/-! ### xs[i] of a list, for xs[i] += e -/
def rGetL (K : PySem.W.Frag) : V → V → Hp → VK → Prop := fun x y H Q => ∃ p xs i v, x = .ref p ∧ y = .int i ∧ SqL K H p xs ∧ atI xs i = some v ∧ Q v H
theorem get_list {X : Cx} : PGet X (rGetL X.K) := by
  intro pins s σ H x y v u Q I rx ry h
  obtain ⟨p, xs, i, z, rfl, rfl, hq, he, q⟩ := h
  cases rx
  obtain ⟨t, rfl⟩ := ry
  obtain ⟨its, r, pl, hz⟩ := I.list hq
  obtain ⟨j, h1, h2, h3, h4, h5⟩ := atI_get he
  obtain ⟨w, ew, rw'⟩ := r.get h2
  have hl := r.length
  have hn := line63
  have fin : EP X pins σ Q w s := ⟨z, H, I, rw', q⟩
  by_cases h0 : 0 ≤ i
  · have hj : i.toNat = j := by
      rw [seqIndex_of h0 h5] at h1
      exact Option.some.inj h1
    exact wpAny_getItem_list pl.isList h0 (by omega) (by rw [hj]; simpa using ew) fin
  · have hj : (i + (its.toArray.size : Int)).toNat = j := by
      rw [seqIndex_neg (by omega) h4] at h1
      rw [List.size_toArray, ← hl]
      exact Option.some.inj h1
    exact wpAny_getItem_list_neg pl.isList (by omega) (by rw [List.size_toArray] <;> omega) (by omega) (by rw [hj]; simpa using ew) fin
/-! ### xs[lo:hi:-1] of a list, hi ≤ lo < len(xs) -/
def downV (xs : List V) (lo hi : Nat) : List V := (List.range (lo - hi)).filterMap fun k => xs[lo - k]?
def tDownL (K : PySem.W.Frag) (te : TE) (tl tu ts : TO) : TE := fun σ H Q => te σ H fun x H1 => tl σ H1 fun l H2 => tu σ H2 fun u H3 => ts σ H3 fun st H4 => ∃ a xs, ∃ lo hi : Nat, x = .ref a ∧ l = some (lo : Int) ∧ u = some (hi : Int) ∧ st = some (-1) ∧ hi ≤ lo ∧ lo < xs.length ∧ SqL K H4 a xs ∧ ∀ p, H4 p = none → Q (.ref p) (upd H4 p (.lst (downV xs lo hi)))
theorem filterMap_eq {α β : Type} {f g : α → Option β} : ∀ {l : List α}, (∀ x ∈ l, f x = g x) → l.filterMap f = l.filterMap g
  | [], _ => rfl
  | x :: r, h => by
    rw [List.filterMap_cons, List.filterMap_cons, h x (List.mem_cons_self ..), filterMap_eq fun y hy => h y (List.mem_cons_of_mem _ hy)]
theorem pick_down {its : List Value} {lo hi : Nat} (h1 : hi ≤ lo) (h2 : lo < its.length) : slicePick its.toArray (some (lo : Int)) (some (hi : Int)) (some (-1)) = ((List.range (lo - hi)).filterMap fun k => its[lo - k]?).toArray := by
  unfold slicePick sliceBounds
  have c1 : ¬ ((-1 : Int) > 0) := by decide
  have c2 : ¬ ((lo : Int) < 0) := by omega
  have c3 : ¬ ((hi : Int) < 0) := by omega
  have e1 : max (-1) (min (lo : Int) ((its.length : Int) - 1)) = (lo : Int) := by omega
  have e2 : max (-1) (min (hi : Int) ((its.length : Int) - 1)) = (hi : Int) := by omega
  simp only [Option.getD_some, List.size_toArray, c1, if_false, c2, c3, e1, e2]
  unfold sliceRange
  simp only [c1, if_false]
  have e3 : (if (lo : Int) > (hi : Int) then ((lo : Int) - hi - -1 - 1) / (- -1) else 0).toNat = lo - hi := by
    have e4 : (- -1 : Int) = 1 := by decide
    rw [e4, Int.ediv_one]
    split <;> omega
  rw [e3, List.filterMap_map]
  congr 1
  refine filterMap_eq fun k hk => ?_
  have hk := List.mem_range.mp hk
  have e4 : ((lo : Int) + -1 * (k : Int)).toNat = lo - k := by omega
  show its.toArray[((lo : Int) + -1 * (k : Int)).toNat]? = _
  rw [e4]
  simp
theorem downV_vals {xs : List V} {its : List Value} (r : Vals xs its) (lo : Nat) : ∀ n : Nat, Vals ((List.range n).filterMap fun k => xs[lo - k]?) ((List.range n).filterMap fun k => its[lo - k]?)
  | 0 => .nil
  | n + 1 => by
    rw [List.range_succ, List.filterMap_append, List.filterMap_append]
    refine (downV_vals r lo n).append ?_
    show Vals (List.filterMap _ [n]) (List.filterMap _ [n])
    rw [List.filterMap_cons, List.filterMap_cons]
    cases e : xs[lo - n]? with
    | none =>
      have e2 : its[lo - n]? = none := by
        have hl := r.length
        rw [List.getElem?_eq_none_iff] at e ⊢
        omega
      rw [e2]
      exact .nil
    | some v =>
      obtain ⟨u, hu, ru⟩ := r.get e
      rw [hu]
      exact .cons ru .nil
theorem filterMap_range_len {f : Nat → Option V} : ∀ n : Nat, ((List.range n).filterMap f).length ≤ n
  | 0 => Nat.le_refl _
  | n + 1 => by
    rw [List.range_succ, List.filterMap_append, List.length_append]
    have h1 := filterMap_range_len (f := f) n
    have h2 : ([n].filterMap f).length ≤ 1 := by
      rw [List.filterMap_cons]
      cases f n <;> simp
    omega
theorem pe_stepDown {X : Cx} {e lo hi st : Expr} {te : TE} {tl tu ts : TO} {p3 pos : Pos} (he : PE X e te) (hl : PO X (some lo) tl) (hu : PO X (some hi) tu) (hst : PO X (some st) ts) : PE X (.Subscript e (.Slice (some lo) (some hi) (some st) p3) pos) (tDownL X.K te tl tu ts) := by
  refine ⟨fun pins s σ H Q I h => ?_⟩
  refine Subscript_ (thn (he.run pins s σ H _ I h) fun v s1 ⟨x, H1, I1, r1, q1⟩ => ?_)
  refine wpAny_Slice (thn (hl.run pins s1 σ H1 _ I1 q1) fun vl s2 ⟨l, H2, I2, pl, q2⟩ => ?_)
  refine thn (hu.run pins s2 σ H2 _ I2 q2) fun vu s3 ⟨u, H3, I3, pu, q3⟩ => ?_
  refine thn (hst.run pins s3 σ H3 _ I3 q3) fun vs s4 ⟨o, H4, I4, ps, q4⟩ => ?_
  obtain ⟨a, xs, lo, hi, rfl, rfl, rfl, rfl, h1, h2, hx, q⟩ := q4
  cases r1
  have I5 : Inv X pins σ H4 { s4 with heap := s4.heap.push { cls := .type "slice", data := .fields #[vl, vu, vs] } } := I4.kept (t' := s4.toks) fun b ob q => Heap.get?_push_of_some _ q
  obtain ⟨its, r, hT, hz⟩ := I5.list hx
  have hlen := r.length
  refine tail_any (ops := [.ref a, .ref s4.heap.objs.size]) hT.isList.typeIs (PySem.slot_list_getitem.lookup) ?_ (by with_unfolding_all rfl)
  refine wpAny_getItem_list_slice hT.isList (Heap.IsSliceOf.new _ vl vu vs) pl pu ps (by decide) ?_ (by rw [List.size_toArray]; omega)
  rw [pick_down h1 (by omega)]
  refine ⟨.ref _, _, I5.laid (t' := s4.toks) (o := .lst (downV xs lo hi)) (fun b ob q => Heap.get?_push_of_some _ q) (Nat.le_refl _) ?_, rfl, q _ (I5.hok.fresh (Nat.le_refl _))⟩
  refine ⟨Nat.le_trans (filterMap_range_len _) (by omega), _, 0, ?_, Heap.get?_push_size _ rfl⟩
  exact downV_vals r lo _
/-! ### enumerate(v, start=c) of a list or a tuple -/
section
variable {M : Model} {A : Around} {E : Value → Shared → Prop} {s : Shared} {env : Env}
theorem callWith_type_kwB {pos : Pos} {id : String} {first : List Value} {args : List (Bool × Sem Value)} {keywords : List (Option Str × Sem Value)} {Q : Value → Shared → Prop}
    (hplain : args.any (·.1) = false) (hkw : keywords.any (·.1.isNone) = false)
    (h : wpAny M A (evalArgs (.type id) true args keywords) (fun a s₁ => wpAny M A (call (.type id) (first ++ a.pos) a.kw) Q E s₁) E s) :
    wpAny M A (callWith pos (.type id) first args keywords) Q E s := by
  unfold callWith
  refine wpAny_bind (wpAny_holding (wpAny_mono h (fun a s₁ h₁ => wpAny_bind (wpAny_standAt ?_)) fun _ _ x => x))
  simp only [hplain, hkw, Bool.or_false]
  refine wpAny_bind (wpAny_pure ?_)
  exact wpAny_bind (wpAny_mono h₁ (fun r s₂ hr => wpAny_bind (wpAny_holding (wpAny_point (wpAny_pure hr)))) fun _ _ x => x)
theorem callWith_kwT {pos : Pos} {id : String} {e : Expr} {rest : List Expr} {kws : List Keyword} {Q : Value → Shared → Prop}
    (h : wpAny M A (spliced (backTo pos (starEach (e :: rest) env))) (fun vs s₁ => wpAny M A (evalAll ((backToKw pos (keywordEach kws env)).map (·.2)))
      (fun kvs s₂ => wpAny M A (call (.type id) vs (((backToKw pos (keywordEach kws env)).filterMap (·.1)).zip kvs)) Q E s₂) E s₁) E s)
    (he : backTo pos (starEach (e :: rest) env) = (false, eval e env) :: backTo pos (starEach rest env) := by rfl)
    (hplain : (backTo pos (starEach (e :: rest) env)).any (·.1) = false := by rfl)
    (hall : (backToKw pos (keywordEach kws env)).all (·.1.isSome) = true := by rfl)
    (hkw : (backToKw pos (keywordEach kws env)).any (·.1.isNone) = false := by rfl) :
    wpAny M A (callWith pos (.type id) [] (backTo pos (starEach (e :: rest) env)) (backToKw pos (keywordEach kws env))) Q E s := by
  refine callWith_type_kwB hplain hkw ?_
  rw [he] at h ⊢
  exact evalArgs_kwB hall h
end
/-- the items with their counts from c, each in a new pair -/
def IteS (K : PySem.W.Frag) (c : Int) (a : Addr) (tup : Bool) : It :=
  ⟨fun i H => ∃ (xs : List V) (x : V), (if tup then SqT K H a xs else SqL K H a xs) ∧ xs[i]? = some x, fun i H v H' => ∃ T x, v = .ref T ∧ H T = none ∧ H' = upd H T (.tup [.int (c + (i : Nat)), x]) ∧ ∀ xs, (if tup then SqT K H a xs else SqL K H a xs) → xs[i]? = some x, fun i H => ∃ xs : List V, (if tup then SqT K H a xs else SqL K H a xs) ∧ xs.length = i⟩
def StS (c : Int) (tup : Bool) (a e it : Addr) (i : Nat) (h : Heap) : Prop := (∃ old, IsEnum h e it (c + (i : Int)) old) ∧ (if tup then h.IsTupleIter it a i else h.IsListIter it a i) ∧ e ≠ it ∧ e ≠ a
theorem sq_vals {X : Cx} {pins : List (Addr × Obj)} {σ : L2.St} {H : Hp} {s : Shared} {a : Addr} {xs : List V} {tup : Bool} (I : Inv X pins σ H s) (h : if tup then SqT X.K H a xs else SqL X.K H a xs) :
    ∃ its : List Value, Vals xs its ∧ (if tup then s.heap.IsTuple a its.toArray else s.heap.IsList a its.toArray) := by
  cases tup with
  | true =>
    obtain ⟨its, rv, p, hz⟩ := I.tuple h
    exact ⟨its, rv, p⟩
  | false =>
    obtain ⟨its, rv, p, hz⟩ := I.list h
    exact ⟨its, rv, p.isList⟩
theorem draws_sq {prog : Program} {w : World} {A : Around} (hh : A.handled = none) (it a : Addr) (hne : a ≠ it) (items : Array Value) (tup : Bool) :
    Draws prog w A it [it, a] items.size (fun i v => items[i]? = some v) (fun i h => (if tup then h.IsTupleIter it a i else h.IsListIter it a i) ∧ (if tup then h.IsTuple a items else h.IsList a items)) := by
  cases tup with
  | true => exact Draws.tuple hh it a hne items
  | false => exact Draws.list hh it a hne items
theorem turn_enumS {P : Program} {w : World} {K : PySem.W.Frag} {elts : List Expr} {kk : Nat} {tpos : Pos} (c : Int) (tup : Bool) (a e it : Addr) (hat : a ≠ it) :
    Turn P w K (.Tuple elts kk tpos) (IteS K c a tup) [e, it] e (StS c tup a e it) where
  mem := by simp
  obj := fun i h st b hb => by
    obtain ⟨⟨old, he⟩, hit, _⟩ := st
    have e' : b = e ∨ b = it := by simpa using hb
    rcases e' with z | z
    · rw [z]; exact ⟨_, he, fun v q => nomatch q⟩
    · rw [z]
      cases tup with
      | true =>
        obtain ⟨o, ho, hc, hd⟩ := hit
        exact ⟨o, ho, fun v q => by rw [hd] at q; cases q⟩
      | false =>
        obtain ⟨o, ho, hc, hd⟩ := hit
        exact ⟨o, ho, fun v q => by rw [hd] at q; cases q⟩
  keep := fun i h h' st k => by
    obtain ⟨⟨old, he⟩, hi, hne, hea⟩ := st
    refine ⟨⟨old, k e (by simp) _ he⟩, ?_, hne, hea⟩
    cases tup with
    | true => exact hi.at fun o q => k it (by simp) o q
    | false => exact hi.at fun o q => k it (by simp) o q
  item := by
    intro X hP hw hK hc i pins s σ H E I hf st hg
    subst hP hw hK
    obtain ⟨⟨old, he⟩, hit, hne, hea⟩ := st
    obtain ⟨xs, x, hq, hx⟩ := hg
    obtain ⟨its, rv, p⟩ := sq_vals I hq
    obtain ⟨u, hu, ru⟩ := rv.get hx
    have hel : e < s.heap.objs.size := Heap.lt_size he
    have hil : it < s.heap.objs.size := by
      cases tup with
      | true => obtain ⟨_, q, _⟩ := hit; exact Heap.lt_size q
      | false => obtain ⟨_, q, _⟩ := hit; exact Heap.lt_size q
    have hlt : i < its.toArray.size := by
      have := (List.getElem?_eq_some_iff.mp hu).1
      simpa using this
    refine wpAny_pyNext_enum_itemC (draws_sq (prog := X.prog) (w := X.w) (A := X.A.in1) (I.ok.hd hc) it a hat its.toArray tup) he ⟨hit, p⟩ hlt hne (by simp [hne, hea]) fun y h' tk hy ho hst' hT hsz hk => ?_
    obtain ⟨hit', _⟩ := hst'
    have ey : y = u := by
      have e1 : its.toArray[i]? = some u := by simpa using hu
      rw [e1] at hy
      exact (Option.some.inj hy).symm
    subst ey
    refine ⟨_, rfl, wpAny_letOwnedTupleGo_enum (s := { s with heap := h', toks := tk + 1 }) ho fun h'' he' sb => ?_⟩
    have hT2 : h''.get? s.heap.objs.size = some { cls := .type "tuple", data := .seq #[.int (c + i) tk, y] } := (sb.2 _ (Nat.ne_of_gt hel)).trans hT
    have new : ObjOk X.prog X.w (upd H s.heap.objs.size (.tup [.int (c + (i : Nat)), x])) h'' s.heap.objs.size (.tup [.int (c + (i : Nat)), x]) :=
      ⟨by show 2 ≤ sizeLine; decide, [.int (c + i) tk, y], .cons ⟨_, rfl⟩ (.cons ru .nil), ⟨_, hT2, rfl, _, rfl⟩⟩
    have I1 : Inv X pins σ (upd H s.heap.objs.size (.tup [.int (c + (i : Nat)), x])) { s with heap := h'', toks := tk + 1 } :=
      I.turnedNew (ch := [e, it]) (fun b ob hb q => (sb.2 b (fun z => hb (by simp [z]))).trans (hk b ob (fun z => hb (by simp [z])) (fun z => hb (by simp [z])) q)) hf (Nat.le_refl _) new
    refine ⟨.ref s.heap.objs.size, _, I1, rfl, ⟨_, x, rfl, I.hok.fresh (Nat.le_refl _), rfl, fun ys hy => ?_⟩, ⟨⟨y, ?_⟩, ?_, hne, hea⟩, fun b hb => ?_⟩
    · cases tup with
      | true => rw [I.tuple_inj hy hq]; exact hx
      | false => rw [I.list_inj hy hq]; exact hx
    · have e1 : c + ((i + 1 : Nat) : Int) = c + (i : Int) + 1 := by omega
      rw [e1]; exact he'
    · cases tup with
      | true => exact hit'.at fun o q => (sb.2 it (Ne.symm hne)).trans q
      | false => exact hit'.at fun o q => (sb.2 it (Ne.symm hne)).trans q
    · have hb' : b < s.heap.objs.size := by
        have e' : b = e ∨ b = it := by simpa using hb
        rcases e' with z | z
        · rw [z]; exact hel
        · rw [z]; exact hil
      rw [upd_ne (Nat.ne_of_lt hb')]
      exact (hf b hb).1
  done := by
    intro X hP hw hK hc i pins s σ H E I hf st hg
    subst hP hw hK
    obtain ⟨⟨old, he⟩, hit, hne, hea⟩ := st
    obtain ⟨xs, hq, hx⟩ := hg
    obtain ⟨its, rv, p⟩ := sq_vals I hq
    obtain ⟨f0, f1, f2, f3, f4, f5⟩ := hf it (by simp)
    have hl := rv.length
    have en : i = its.toArray.size := by
      rw [List.size_toArray]
      omega
    subst en
    exact wpAny_pyNext_enum_endD (draws_sq (prog := X.prog) (w := X.w) (A := X.A.in1) (I.ok.hd hc) it a hat its.toArray tup) he ⟨hit, p⟩ fun h' eb => ⟨rfl, I.turned (t' := s.toks) (fun b o hb q => eb b o hb q) f0 f1 f3 f4 f5⟩
  self := fun A i s Q E st h => let ⟨⟨_, he⟩, _⟩ := st; wpAny_pyIter_enum he h
def iEnumS (K : PySem.W.Frag) (ta : TA) (tk : TA) : TI := fun σ H R => ta σ H fun vs H1 => tk σ H1 fun zs H2 => ∃ (a : Addr) (xs : List V) (c : Int) (tup : Bool), vs = [.ref a] ∧ zs = [.int c] ∧ -(2 ^ 63) ≤ c ∧ c < 2 ^ 63 ∧ (if tup then SqT K H2 a xs else SqL K H2 a xs) ∧ R (IteS K c a tup) H2
theorem pi_enumK {X : Cx} {e : Expr} {ta tk : TA} {p pos tpos : Pos} {kws : List Keyword} {elts : List Expr} {kk : Nat} (hg : Gl X "enumerate") (hm : X.mg "enumerate" = none) (ha : PA X [e] ta) (hk : PK X kws tk)
    (he : backTo pos (starEach [e] X.env) = (false, eval e X.env) :: backTo pos (starEach [] X.env) := by rfl) (hpl : (backTo pos (starEach [e] X.env)).any (·.1) = false := by rfl)
    (hall : (backToKw pos (keywordEach kws X.env)).all (·.1.isSome) = true := by rfl) (hnone : (backToKw pos (keywordEach kws X.env)).any (·.1.isNone) = false := by rfl) (hks : (backToKw pos (keywordEach kws X.env)).filterMap (·.1) = [Str.ofString "start"] := by rfl) :
    PI X (.Tuple elts kk tpos) (.Call (.Name "enumerate" p) [e] kws pos) (iEnumS X.K ta tk) := by
  refine ⟨fun pins s σ H R I h => ?_⟩
  refine wpAny_Call_Name_kw (ld_blt I hg hm boot_enumerate ?_)
  refine callWith_kwT (thn (ha.run pos pins s σ H _ I h) fun us s0 ⟨vs, H0, I0, r1, q1⟩ => thn (hk.run pos pins s0 σ H0 _ I0 q1) fun ws s1 ⟨zs, H1, I1, r2, q2⟩ => ?_) he hpl hall hnone
  rw [hks]
  obtain ⟨a, xs, c, tup, ex, ez, c0, c1, hq, q⟩ := q2
  subst ex ez
  cases r1 with
  | cons r rr =>
    cases rr
    cases r
    cases r2 with
    | cons r rr =>
      cases rr
      obtain ⟨t, rfl⟩ := r
      show wpAny (model X.prog X.w) X.A (call (.type "enumerate") [.ref a] [(Str.ofString "start", .int c t)]) _ X.xe s1
      have main : ∀ (tup : Bool) (its : List Value), (if tup then s1.heap.IsTuple a its.toArray else s1.heap.IsList a its.toArray) → R (IteS X.K c a tup) H1 →
          wpAny (model X.prog X.w) X.A (call (.type "enumerate") [.ref a] [(Str.ofString "start", .int c t)]) (fun v s1 => wpAny (model X.prog X.w) X.A (pyIter v) (PIE X pins σ (.Tuple elts kk tpos) R) X.xe s1) X.xe s1 := by
        intro tup its p2 q
        have hal : a < s1.heap.objs.size := by
          cases tup with
          | true => obtain ⟨o, ho, _⟩ := p2; exact Heap.lt_size ho
          | false => obtain ⟨o, ho, _⟩ := p2; exact Heap.lt_size ho
        have fin : ∀ (h' : Heap), IsEnum h' (s1.heap.objs.size + 1) s1.heap.objs.size c .none → (if tup then h'.IsTupleIter s1.heap.objs.size a 0 else h'.IsListIter s1.heap.objs.size a 0) → (∀ b o, s1.heap.get? b = some o → h'.get? b = some o) →
            wpAny (model X.prog X.w) X.A (pyIter (.ref (s1.heap.objs.size + 1))) (PIE X pins σ (.Tuple elts kk tpos) R) X.xe { s1 with heap := h' } := by
          intro h' he hit hk
          refine wpAny_pyIter_enum he ?_
          have I2 : Inv X pins σ H1 { s1 with heap := h' } := I1.kept (t' := s1.toks) hk
          refine ⟨s1.heap.objs.size + 1, [s1.heap.objs.size + 1, s1.heap.objs.size], _, _, H1, rfl, I2, turn_enumS c tup a (s1.heap.objs.size + 1) s1.heap.objs.size (Nat.ne_of_lt hal),
            ⟨⟨.none, by have e0 : c + ((0 : Nat) : Int) = c := by omega
                        rw [e0]; exact he⟩, hit, Nat.succ_ne_self _, Nat.ne_of_gt (Nat.lt_succ_of_lt hal)⟩, fun b hb => ?_, q⟩
          have e' : b = s1.heap.objs.size + 1 ∨ b = s1.heap.objs.size := by simpa using hb
          have hle : s1.heap.objs.size ≤ b := by
            rcases e' with z | z
            · rw [z]; exact Nat.le_add_right _ _
            · rw [z]; exact Nat.le_refl _
          exact I1.fpOk hle (I1.hok.fresh hle)
        cases tup with
        | true => exact enum_begins_start (begins_tuple a its.toArray) p2 c0 c1 fun h' he hit hsz hk => fin h' he ⟨_, hit, rfl, rfl⟩ hk
        | false => exact enum_begins_start (begins_list a its.toArray) p2 c0 c1 fun h' he hit hsz hk => fin h' he ⟨_, hit, rfl, rfl⟩ hk
      obtain ⟨its, rv, p'⟩ := sq_vals I1 hq
      exact main tup its p' q
theorem walk_enumS {K : PySem.W.Frag} {c : Int} {tup : Bool} {a : Addr} {xs : List V} : Walk (IteS K c a tup) xs.length (fun H => if tup then SqT K H a xs else SqL K H a xs) (YPair (fun i => some (.int (c + (i : Nat)))) (fun i => xs[i]?)) := by
  refine ⟨fun i _ hi q => ⟨xs, xs[i], q, by simp [hi]⟩, fun _ q => ⟨xs, q, rfl⟩, fun i H v H' _ q y => ?_⟩
  obtain ⟨T, x, h1, h2, h3, h4⟩ := y
  exact ⟨T, .int (c + (i : Nat)), x, h1, h2, h3, rfl, h4 xs q⟩
end Xv

set_option Elab.async false
set_option linter.all false
set_option maxRecDepth 100000
set_option maxHeartbeats 0
namespace Xv
open PySem PySem.Spec PyProof.Rows L2
/-! the classes' facts, asked of the written part -/
def veT : List Value := [.type "ValueError", .type "Exception", .type "BaseException", .type "object"]
def oexB (K : PySem.W.Frag) (C : Addr) : Bool := match K.lookup C with
  | some ⟨.type "type", _, .cls cd, sl⟩ => (match cd.mro, sl.toList with
    | .ref C' :: bm, [_, _, _, _, some (.builtin n), _] => decide (C' = C) && (decide (n = "ValueError.__new__") && (!cd.hasDel && (PySem.HandSPX.refsVE bm && cd.hasDict)))
    | _, _ => false)
  | _ => false
theorem oexB_ok {K : PySem.W.Frag} {C : Addr} (h : oexB K C = true) : ∃ nm q N bs bm sn sub ab col dd k0 k1 k2 k3 k5, K.lookup C = some (excClassObj nm q C N bs bm true sn sub ab col dd k0 k1 k2 k3 k5 "ValueError.__new__") ∧ PySem.HandSPX.refsVE bm = true := by
  unfold oexB at h
  split at h
  · rename_i dx cd sl ho
    split at h
    · rename_i C' bm k0 k1 k2 k3 n k5 hm hs
      simp only [Bool.and_eq_true, decide_eq_true_eq, Bool.not_eq_true'] at h
      obtain ⟨rfl, rfl, hd, hr, hh⟩ := h
      obtain ⟨nm, bs, mro, ns, qn, hdc, sn, sub, ab, col, del⟩ := cd
      dsimp only at hm hd hh
      subst hm hd hh
      obtain ⟨l⟩ := sl
      have hs' : l = [k0, k1, k2, k3, some (.builtin "ValueError.__new__"), k5] := hs
      subst hs'
      exact ⟨nm, qn, ns, bs, bm, sn, sub, ab, col, dx, k0, k1, k2, k3, k5, ho, hr⟩
    · cases h
  · cases h
def eqV2 (a b : Option Value) : Bool := decide (a = b)
/-- a class of errors whose way up is l -/
def clsB (K : PySem.W.Frag) (C : Addr) (l : List Value) : Bool := (match PySem.W.clsIn K C with
  | some cd => decide (cd.mro = l) && cd.hasDict
  | none => false) && (eqV2 (PySem.W.typeIn K (.ref C)) (some (.type "type")) && (He.eqO (PySem.W.findIn K (.ref C) "__getattribute__") (some (some (.builtin "BaseException.__getattribute__"))) && (He.eqO (PySem.W.findIn K (.ref C) "__getattr__") (some none) &&
    (He.eqO (PySem.W.findIn K (.ref C) "__class__") (some (some (.builtin "object.__class__"))) && PySem.W.keepIn K (.ref C)))))
structure ClsOk (K : PySem.W.Frag) (C : Addr) (l : List Value) : Prop where
  cl : ∃ cd, PySem.W.clsIn K C = some cd ∧ cd.mro = l ∧ cd.hasDict = true
  ty : PySem.W.typeIn K (.ref C) = some (.type "type")
  ga : PySem.W.findIn K (.ref C) "__getattribute__" = some (some (.builtin "BaseException.__getattribute__"))
  gg : PySem.W.findIn K (.ref C) "__getattr__" = some none
  gc : PySem.W.findIn K (.ref C) "__class__" = some (some (.builtin "object.__class__"))
  kp : PySem.W.keepIn K (.ref C) = true
theorem clsB_ok {K : PySem.W.Frag} {C : Addr} {l : List Value} (h : clsB K C l = true) : ClsOk K C l := by
  unfold clsB at h
  simp only [Bool.and_eq_true] at h
  obtain ⟨h1, h2, h3, h4, h5, h6⟩ := h
  refine ⟨?_, of_decide_eq_true h2, He.eqO_ok h3, He.eqO_ok h4, He.eqO_ok h5, h6⟩
  cases e : PySem.W.clsIn K C with
  | none =>
    rw [e] at h1
    cases h1
  | some cd =>
    rw [e] at h1
    have h1' : (decide (cd.mro = l) && cd.hasDict) = true := h1
    rw [Bool.and_eq_true] at h1'
    exact ⟨cd, rfl, of_decide_eq_true h1'.1, h1'.2⟩
theorem ClsOk.sub {K : PySem.W.Frag} {C : Addr} {l : List Value} (h : ClsOk K C l) (hl : l ≠ []) (b : Value) : PySem.W.subIn K (.ref C) b = some (l.contains b) := by
  obtain ⟨cd, e, rfl, _⟩ := h.cl
  show (PySem.W.clsIn K C).bind (fun cd => if cd.mro.isEmpty then none else some (cd.mro.contains b)) = _
  rw [e]
  show (if cd.mro.isEmpty = true then none else some (cd.mro.contains b)) = _
  rw [if_neg (by cases q : cd.mro with
    | nil => exact absurd q hl
    | cons _ _ => exact Bool.false_ne_true)]
theorem ClsOk.excC {K : PySem.W.Frag} {C : Addr} {l : List Value} (h : ClsOk K C l) (hl : l ≠ []) (h1 : l.contains (.type "BaseException") = true) (h2 : l.contains (.type "object") = true) (hn : PySem.W.specialIn K (.builtin "object.__class__") "__get__" = some (some (.builtin "getset_descriptor.__get__")))
    (ht : PySem.W.takesIn K (.builtin "object.__class__") = some true) : ExcC K C where
  hg := h.ga
  hk := h.gg
  hs := by rw [h.sub hl, h1]
  hd := by
    obtain ⟨cd, e, _, hd⟩ := h.cl
    show (PySem.W.clsIn K C).any (·.hasDict) = true
    rw [e]
    exact hd
  ha := h.gc
  hn := hn
  ht := ht
  hm := by
    have z := h.sub hl (.type "object")
    rw [h2] at z
    exact z
theorem ClsOk.kit {K : PySem.W.Frag} {C D : Addr} {l m : List Value} (h : ClsOk K C l) (hl : l ≠ []) (hD : ClsOk K D m) {b : Bool} (e : (decide (C = D) || l.contains (.ref D)) = b) : PySem.W.kitOne K (.ref C) (.ref D) = some b := by
  unfold PySem.W.kitOne
  by_cases q : C = D
  · subst q
    rw [if_pos (by simp)]
    rw [decide_eq_true rfl] at e
    exact congrArg some e
  · rw [if_neg (by simpa using q)]
    show (if ((PySem.W.clsIn K D).isSome && PySem.W.typeIn K (.ref D) == some (.type "type")) = true then PySem.W.subIn K (.ref C) (.ref D) else none) = some b
    obtain ⟨cd, ed, _⟩ := hD.cl
    rw [ed, hD.ty, if_pos (by rfl), h.sub hl]
    rw [decide_eq_false q, Bool.false_or] at e
    exact congrArg some e
theorem ClsOk.kitT {K : PySem.W.Frag} {C : Addr} {l : List Value} (h : ClsOk K C l) (hl : l ≠ []) {T : String} (hT : PySem.W.kitMeta T = true) (e : l.contains (.type T) = true) : PySem.W.kitOne K (.ref C) (.type T) = some true := by
  unfold PySem.W.kitOne
  rw [if_neg (by simp)]
  show (if PySem.W.kitMeta T = true then PySem.W.subIn K (.ref C) (.type T) else none) = some true
  rw [if_pos hT, h.sub hl, e]
def eqB (a b : Option Bool) : Bool := decide (a = b)
def cfB (r : Option PySem.W.CFound) : Bool := match r with
  | some (.val v) => decide (v = .builtin "ValueError.__init__")
  | _ => false
theorem cfB_ok {r : Option PySem.W.CFound} (h : cfB r = true) : r = some (.val (.builtin "ValueError.__init__")) := by
  unfold cfB at h
  split at h
  · rw [of_decide_eq_true h]
  · cases h
/-! a hook: the facts by names, more of them by a Bool, the law's own table of code objects -/
abbrev AlE : Type := He.AlD × Bool
def asE (g : Addr → Option Obj) (n : Nat) : List Addr := cStatics :: He.asD g n
def lawD : He.Defn := ("law", none)
def obsE (fa : List He.Fa) (fn : List He.DefD) (ext : PySem.W.Frag → Bool) (n : Nat) (g : Addr → Option Obj) : AlE := (He.obsD fa fn (He.frT g (asE g n)), ext (He.frT g (asE g n)) && He.tabsB g [lawD] (He.frT g (asE g n)))
structure SaysE (fa : List He.Fa) (fn : List He.DefD) (ext : PySem.W.Frag → Bool) (h : Heap) (K : PySem.W.Frag) : Prop where
  d : He.SaysD fa fn K
  more : ext K = true
  hd : PySem.W.codeHdIn K (He.cT K lawD).1 (He.cT K lawD).2 = true
  out : K.lookup (He.cT K lawD).2 = none
  empty : h.get? (He.cT K lawD).2 = some { cls := .none, data := .fields #[] }
theorem saysE_of {fa : List He.Fa} {fn : List He.DefD} {ext : PySem.W.Frag → Bool} {n : Nat} {h : Heap} (e : obsE fa fn ext n h.get? = (He.valD fn, true)) : SaysE fa fn ext h (He.frT h.get? (asE h.get? n)) := by
  have e1 : He.obsD fa fn (He.frT h.get? (asE h.get? n)) = He.valD fn := congrArg (fun z : AlE => z.1) e
  have e2 : (ext (He.frT h.get? (asE h.get? n)) && He.tabsB h.get? [lawD] (He.frT h.get? (asE h.get? n))) = true := congrArg (fun z : AlE => z.2) e
  obtain ⟨h1, h2⟩ := Bool.and_eq_true_iff.mp e2
  obtain ⟨h3, h4⟩ := Bool.and_eq_true_iff.mp (List.all_eq_true.mp h2 lawD (List.mem_singleton.mpr rfl))
  cases q : h.get? (He.cT (He.frT h.get? (asE h.get? n)) lawD).2 with
  | none =>
    rw [q] at h4
    cases h4
  | some o =>
    rw [q] at h4
    exact ⟨e1, h1, h3, He.frT_none q h4, by rw [q, He.emptyTab_eq h4]⟩
def hookE (fa : List He.Fa) (fn : List He.DefD) (ext : PySem.W.Frag → Bool) (n : Nat) : PySem.W.Hook where
  α := AlE
  obs := fun s => obsE fa fn ext n s.heap.get?
  val := fun _ => (He.valD fn, true)
  says := fun _ h => ∃ K : PySem.W.Frag, K.In h ∧ SaysE fa fn ext h K
  of := fun _ _ e => ⟨_, He.frT_in, saysE_of e⟩
  keeps := fun _ _ _ ⟨K, hK, c⟩ k => ⟨K, PySem.W.Frag.In.keeps hK k, ⟨c.d, c.more, c.hd, c.out, k _ _ c.empty⟩⟩
end Xv

set_option Elab.async false
set_option linter.all false
set_option maxRecDepth 100000
set_option maxHeartbeats 4000000
/-! power series with whole coefficients, as functions -/
namespace Ps
/-- f 0 + .. + f (n - 1) -/
def sm (f : Nat → Int) : Nat → Int
  | 0 => 0
  | n + 1 => sm f n + f n
theorem sm_congr {f g : Nat → Int} : ∀ n : Nat, (∀ i, i < n → f i = g i) → sm f n = sm g n
  | 0, _ => rfl
  | n + 1, h => by
    show sm f n + f n = sm g n + g n
    rw [sm_congr n fun i hi => h i (by omega), h n (by omega)]
theorem sm_add (f g : Nat → Int) : ∀ n, sm (fun i => f i + g i) n = sm f n + sm g n
  | 0 => rfl
  | n + 1 => by
    show sm (fun i => f i + g i) n + (f n + g n) = sm f n + f n + (sm g n + g n)
    rw [sm_add f g n]
    omega
theorem sm_mul (c : Int) (f : Nat → Int) : ∀ n, sm (fun i => c * f i) n = c * sm f n
  | 0 => by
    show (0 : Int) = c * 0
    rw [Int.mul_zero]
  | n + 1 => by
    show sm (fun i => c * f i) n + c * f n = c * (sm f n + f n)
    rw [sm_mul c f n, Int.mul_add]
theorem sm_mul' (c : Int) (f : Nat → Int) (n : Nat) : sm (fun i => f i * c) n = sm f n * c := by
  rw [Int.mul_comm (sm f n), ← sm_mul]
  exact sm_congr n fun i _ => Int.mul_comm _ _
theorem sm_zero : ∀ n, sm (fun _ => 0) n = 0
  | 0 => rfl
  | n + 1 => by
    show sm (fun _ => 0) n + 0 = 0
    rw [sm_zero n]
    rfl
theorem sm_first (f : Nat → Int) : ∀ n, sm f (n + 1) = f 0 + sm (fun i => f (i + 1)) n
  | 0 => by
    show 0 + f 0 = f 0 + 0
    omega
  | n + 1 => by
    show sm f (n + 1) + f (n + 1) = f 0 + (sm (fun i => f (i + 1)) n + f (n + 1))
    rw [sm_first f n]
    omega
theorem sm_rev (f : Nat → Int) : ∀ n, sm (fun i => f (n - 1 - i)) n = sm f n
  | 0 => rfl
  | n + 1 => by
    rw [sm_first]
    show f (n + 1 - 1 - 0) + sm (fun i => f (n + 1 - 1 - (i + 1))) n = sm f n + f n
    have e : sm (fun i => f (n + 1 - 1 - (i + 1))) n = sm (fun i => f (n - 1 - i)) n := sm_congr n fun i hi => by
      have e2 : n + 1 - 1 - (i + 1) = n - 1 - i := by omega
      rw [e2]
    rw [e, sm_rev f n]
    have e3 : n + 1 - 1 - 0 = n := by omega
    rw [e3]
    omega
/-- the triangle summed the other way -/
theorem sm_tri (F : Nat → Nat → Int) : ∀ n, sm (fun i => sm (fun j => F i j) (i + 1)) n = sm (fun j => sm (fun k => F (k + j) j) (n - j)) n
  | 0 => rfl
  | n + 1 => by
    show sm (fun i => sm (fun j => F i j) (i + 1)) n + (sm (fun j => F n j) n + F n n) = sm (fun j => sm (fun k => F (k + j) j) (n + 1 - j)) n + sm (fun k => F (k + n) n) (n + 1 - n)
    rw [sm_tri F n]
    have e1 : sm (fun j => sm (fun k => F (k + j) j) (n + 1 - j)) n = sm (fun j => sm (fun k => F (k + j) j) (n - j) + F n j) n := sm_congr n fun j hj => by
      have e2 : n + 1 - j = (n - j) + 1 := by omega
      rw [e2]
      show sm _ (n - j) + F (n - j + j) j = _
      have e3 : n - j + j = n := by omega
      rw [e3]
    have e4 : sm (fun k => F (k + n) n) (n + 1 - n) = F n n := by
      have e5 : n + 1 - n = 1 := by omega
      rw [e5]
      show 0 + F (0 + n) n = F n n
      rw [Nat.zero_add]
      omega
    have e9 : sm (F n) n = sm (fun j => F n j) n := rfl
    rw [e1, sm_add, e4]
    omega
abbrev S : Type := Nat → Int
/-- the product -/
def cv (f g : S) : S := fun n => sm (fun i => f i * g (n - i)) (n + 1)
def one : S := fun n => if n = 0 then 1 else 0
theorem cv_comm (f g : S) : cv f g = cv g f := by
  funext n
  unfold cv
  rw [← sm_rev (fun i => f i * g (n - i)) (n + 1)]
  refine sm_congr _ fun i hi => ?_
  have e1 : n + 1 - 1 - i = n - i := by omega
  have e2 : n - (n - i) = i := by omega
  show f (n + 1 - 1 - i) * g (n - (n + 1 - 1 - i)) = _
  rw [e1, e2, Int.mul_comm]
theorem cv_assoc (f g h : S) : cv (cv f g) h = cv f (cv g h) := by
  funext n
  unfold cv
  have e1 : sm (fun i => sm (fun j => f j * g (i - j)) (i + 1) * h (n - i)) (n + 1) = sm (fun i => sm (fun j => f j * g (i - j) * h (n - i)) (i + 1)) (n + 1) := sm_congr _ fun i hi => (sm_mul' _ _ _).symm
  rw [e1, sm_tri (fun i j => f j * g (i - j) * h (n - i))]
  refine sm_congr _ fun j hj => ?_
  have e2 : n + 1 - j = (n - j) + 1 := by omega
  rw [e2, ← sm_mul]
  refine sm_congr _ fun k hk => ?_
  have e3 : k + j - j = k := by omega
  have e4 : n - (k + j) = n - j - k := by omega
  rw [e3, e4, Int.mul_assoc]
theorem cv_one (f : S) : cv f one = f := by
  rw [cv_comm]
  funext n
  unfold cv
  rw [sm_first]
  have e : sm (fun i => one (i + 1) * f (n - (i + 1))) n = 0 := by
    rw [← sm_zero n]
    refine sm_congr _ fun i _ => ?_
    show (if i + 1 = 0 then (1 : Int) else 0) * _ = 0
    rw [if_neg (by omega), Int.zero_mul]
  rw [e]
  show (1 : Int) * f (n - 0) + 0 = f n
  rw [Int.one_mul, Int.add_zero, Nat.sub_zero]
theorem one_cv (f : S) : cv one f = f := by
  rw [cv_comm, cv_one]
def sc (c : Int) (f : S) : S := fun n => c * f n
def ad (f g : S) : S := fun n => f n + g n
theorem cv_sc (c : Int) (f g : S) : cv f (sc c g) = sc c (cv f g) := by
  funext n
  unfold cv sc
  rw [← sm_mul]
  refine sm_congr _ fun i _ => ?_
  rw [← Int.mul_assoc, Int.mul_comm (f i) c, Int.mul_assoc]
theorem sc_cv (c : Int) (f g : S) : cv (sc c f) g = sc c (cv f g) := by
  rw [cv_comm, cv_sc, cv_comm]
theorem cv_ad (f g h : S) : cv f (ad g h) = ad (cv f g) (cv f h) := by
  funext n
  unfold cv ad
  rw [← sm_add]
  refine sm_congr _ fun i _ => Int.mul_add _ _ _
/-- n * f n -/
def dv (f : S) : S := fun n => (n : Int) * f n
theorem dv_cv (f g : S) : dv (cv f g) = ad (cv (dv f) g) (cv f (dv g)) := by
  funext n
  unfold dv cv ad
  rw [← sm_mul, ← sm_add]
  refine sm_congr _ fun i hi => ?_
  have e : (n : Int) = (i : Int) + ((n - i : Nat) : Int) := by omega
  have e1 : ((i : Int) + ((n - i : Nat) : Int)) * (f i * g (n - i)) = (i : Int) * f i * g (n - i) + f i * (((n - i : Nat) : Int) * g (n - i)) := by
    rw [Int.add_mul, Int.mul_assoc, ← Int.mul_assoc (f i), Int.mul_comm (f i) ((n - i : Nat) : Int), Int.mul_assoc]
  rw [← e1, ← e]
theorem dv_one : dv one = fun _ => 0 := by
  funext n
  show (n : Int) * (if n = 0 then 1 else 0) = 0
  by_cases h : n = 0
  · rw [h]
    rfl
  · rw [if_neg h, Int.mul_zero]
/-- powers -/
def pw (f : S) : Nat → S
  | 0 => one
  | k + 1 => cv (pw f k) f
theorem cv_zero (f : S) : cv f (fun _ => 0) = fun _ => 0 := by
  funext n
  unfold cv
  refine Eq.trans (sm_congr _ fun i _ => Int.mul_zero _) (sm_zero _)
theorem sc_zero (c : Int) : sc c (fun _ => 0) = fun _ => 0 := by
  funext n
  exact Int.mul_zero _
/-- f times the derivative of its power -/
theorem dv_pw (f : S) : ∀ k : Nat, cv f (dv (pw f k)) = sc (k : Int) (cv (dv f) (pw f k))
  | 0 => by
    show cv f (dv one) = _
    rw [dv_one, cv_zero]
    funext n
    exact (Int.zero_mul _).symm
  | k + 1 => by
    show cv f (dv (cv (pw f k) f)) = sc ((k + 1 : Nat) : Int) (cv (dv f) (cv (pw f k) f))
    rw [dv_cv, cv_ad]
    have e1 : cv f (cv (dv (pw f k)) f) = sc (k : Int) (cv (dv f) (cv (pw f k) f)) := by
      rw [← cv_assoc, dv_pw f k, sc_cv, cv_assoc]
    have e2 : cv f (cv (pw f k) (dv f)) = cv (dv f) (cv (pw f k) f) := by
      rw [cv_comm f, cv_comm (pw f k), cv_assoc]
    rw [e1, e2]
    funext n
    show (k : Int) * _ + _ = ((k + 1 : Nat) : Int) * _
    have e3 : ((k + 1 : Nat) : Int) = (k : Int) + 1 := rfl
    rw [e3, Int.add_mul, Int.one_mul]
/-- the same of the powers of an inverse -/
theorem dv_inv (f g : S) (h : cv f g = one) : ∀ k : Nat, cv f (dv (pw g k)) = sc (-(k : Int)) (cv (dv f) (pw g k))
  | 0 => by
    show cv f (dv one) = _
    rw [dv_one, cv_zero]
    funext n
    show (0 : Int) = -0 * _
    rw [Int.neg_zero, Int.zero_mul]
  | k + 1 => by
    have hd : cv f (dv g) = sc (-1) (cv (dv f) g) := by
      have e := dv_cv f g
      rw [h, dv_one] at e
      funext n
      have e1 := congrFun e n
      have e2 : (0 : Int) = cv (dv f) g n + cv f (dv g) n := e1
      show cv f (dv g) n = -1 * cv (dv f) g n
      omega
    show cv f (dv (cv (pw g k) g)) = sc (-((k + 1 : Nat) : Int)) (cv (dv f) (cv (pw g k) g))
    rw [dv_cv, cv_ad]
    have e1 : cv f (cv (dv (pw g k)) g) = sc (-(k : Int)) (cv (dv f) (cv (pw g k) g)) := by
      rw [← cv_assoc, dv_inv f g h k, sc_cv, cv_assoc]
    have e2 : cv f (cv (pw g k) (dv g)) = sc (-1) (cv (dv f) (cv (pw g k) g)) := by
      rw [cv_comm (pw g k), ← cv_assoc, hd, sc_cv, cv_assoc, cv_comm g]
    rw [e1, e2]
    funext n
    show -(k : Int) * _ + -1 * _ = -((k + 1 : Nat) : Int) * _
    have e3 : -((k + 1 : Nat) : Int) = -(k : Int) + -1 := by
      have : ((k + 1 : Nat) : Int) = (k : Int) + 1 := rfl
      omega
    rw [e3, Int.add_mul]
/-- the recurrence of a power with the exponent e -/
theorem recur {f b : S} {e : Int} (h : cv f (dv b) = sc e (cv (dv f) b)) (n : Nat) : (n : Int) * f 0 * b n = sm (fun i => ((e + 1) * ((i + 1 : Nat) : Int) - (n : Int)) * f (i + 1) * b (n - (i + 1))) n := by
  have h1 : sm (fun i => f i * (((n - i : Nat) : Int) * b (n - i))) (n + 1) = e * sm (fun i => ((i : Nat) : Int) * f i * b (n - i)) (n + 1) := congrFun h n
  rw [sm_first, sm_first] at h1
  have z : ((0 : Nat) : Int) * f 0 * b (n - 0) = 0 := by
    show (0 : Int) * f 0 * _ = 0
    rw [Int.zero_mul, Int.zero_mul]
  rw [z, Int.zero_add, ← sm_mul] at h1
  have e1 : sm (fun i => ((e + 1) * ((i + 1 : Nat) : Int) - (n : Int)) * f (i + 1) * b (n - (i + 1))) n = sm (fun i => e * (((i + 1 : Nat) : Int) * f (i + 1) * b (n - (i + 1)))) n - sm (fun i => f (i + 1) * (((n - (i + 1) : Nat) : Int) * b (n - (i + 1)))) n := by
    have e2 : sm (fun i => ((e + 1) * ((i + 1 : Nat) : Int) - (n : Int)) * f (i + 1) * b (n - (i + 1))) n + sm (fun i => f (i + 1) * (((n - (i + 1) : Nat) : Int) * b (n - (i + 1)))) n = sm (fun i => e * (((i + 1 : Nat) : Int) * f (i + 1) * b (n - (i + 1)))) n := by
      rw [← sm_add]
      refine sm_congr _ fun i hi => ?_
      have e3 : ((n - (i + 1) : Nat) : Int) = (n : Int) - ((i + 1 : Nat) : Int) := by omega
      rw [e3]
      generalize ((i + 1 : Nat) : Int) = I
      generalize (n : Int) = N
      generalize f (i + 1) = F
      generalize b (n - (i + 1)) = B
      have e4 : F * ((N - I) * B) = (N - I) * F * B := by
        rw [← Int.mul_assoc, Int.mul_comm F]
      have e5 : e * (I * F * B) = e * I * F * B := by
        rw [← Int.mul_assoc, ← Int.mul_assoc]
      rw [e4, e5, ← Int.add_mul, ← Int.add_mul]
      congr 2
      rw [Int.add_mul, Int.one_mul]
      omega
    omega
  rw [e1, ← h1]
  have e6 : f 0 * (((n - 0 : Nat) : Int) * b (n - 0)) = (n : Int) * f 0 * b n := by
    rw [Nat.sub_zero, ← Int.mul_assoc, Int.mul_comm (f 0)]
  rw [e6]
  omega
/-! ### an inverse -/
def inA (f : S) (u : Int) : Nat → S
  | 0 => fun m => if m = 0 then u else 0
  | n + 1 => fun m => if m = n + 1 then -u * sm (fun i => f (i + 1) * inA f u n (n - i)) (n + 1) else inA f u n m
def inv (f : S) (u : Int) : S := fun m => inA f u m m
theorem inA_le (f : S) (u : Int) : ∀ n m, m ≤ n → inA f u n m = inv f u m
  | 0, m, h => by
    have e : m = 0 := by omega
    subst e
    rfl
  | n + 1, m, h => by
    by_cases e : m = n + 1
    · subst e
      rfl
    · show (if m = n + 1 then _ else inA f u n m) = _
      rw [if_neg e]
      exact inA_le f u n m (by omega)
theorem inv_zero (f : S) (u : Int) : inv f u 0 = u := rfl
theorem inv_succ (f : S) (u : Int) (n : Nat) : inv f u (n + 1) = -u * sm (fun i => f (i + 1) * inv f u (n - i)) (n + 1) := by
  show (if n + 1 = n + 1 then -u * sm (fun i => f (i + 1) * inA f u n (n - i)) (n + 1) else _) = _
  rw [if_pos rfl]
  congr 1
  refine sm_congr _ fun i _ => ?_
  rw [inA_le f u n (n - i) (by omega)]
theorem cv_inv (f : S) {u : Int} (h0 : f 0 = u) (hu : u * u = 1) : cv f (inv f u) = one := by
  funext n
  unfold cv
  cases n with
  | zero =>
    show 0 + f 0 * inv f u 0 = 1
    rw [h0, inv_zero, hu]
    rfl
  | succ n =>
    rw [sm_first, h0]
    show u * inv f u (n + 1) + sm (fun i => f (i + 1) * inv f u (n + 1 - (i + 1))) (n + 1) = 0
    have e : sm (fun i => f (i + 1) * inv f u (n + 1 - (i + 1))) (n + 1) = sm (fun i => f (i + 1) * inv f u (n - i)) (n + 1) := sm_congr _ fun i _ => by
      have e2 : n + 1 - (i + 1) = n - i := by omega
      rw [e2]
    rw [e, inv_succ, ← Int.mul_assoc, Int.mul_neg, hu]
    omega
theorem pw_zero (f : S) : ∀ k, pw f k 0 = f 0 ^ k
  | 0 => (Int.pow_zero _).symm
  | k + 1 => by
    show cv (pw f k) f 0 = _
    show 0 + pw f k 0 * f 0 = _
    rw [pw_zero f k, Int.zero_add, Int.pow_succ]
/-! ### only the coefficients up to some last one matter -/
theorem cv_congr {f f' g g' : S} {N : Nat} (hf : ∀ i, i < N → f i = f' i) (hg : ∀ i, i < N → g i = g' i) : ∀ n, n < N → cv f g n = cv f' g' n := fun n hn => sm_congr _ fun i hi => by
  rw [hf i (by omega), hg (n - i) (by omega)]
theorem pw_congr {f f' : S} {N : Nat} (hf : ∀ i, i < N → f i = f' i) : ∀ k n, n < N → pw f k n = pw f' k n
  | 0, _, _ => rfl
  | k + 1, n, hn => cv_congr (pw_congr hf k) hf n hn
theorem inv_congr {f f' : S} {u : Int} {N : Nat} (hf : ∀ i, i < N → f i = f' i) : ∀ n, n < N → inv f u n = inv f' u n := by
  intro n
  induction n using Nat.strongRecOn with
  | ind n ih =>
    intro hn
    cases n with
    | zero => rfl
    | succ n =>
      rw [inv_succ, inv_succ]
      congr 1
      refine sm_congr _ fun i hi => ?_
      rw [hf (i + 1) (by omega), ih (n - i) (by omega) (by omega)]
/-! ### shifts -/
/-- q ^ z times it -/
def sh (z : Nat) (f : S) : S := fun n => if n < z then 0 else f (n - z)
theorem sm_split (f : S) (z : Nat) : ∀ n, sm f (z + n) = sm f z + sm (fun i => f (z + i)) n
  | 0 => by
    show sm f z = sm f z + 0
    omega
  | n + 1 => by
    show sm f (z + n) + f (z + n) = _
    rw [sm_split f z n]
    show _ = sm f z + (sm (fun i => f (z + i)) n + f (z + n))
    omega
theorem sh_cv (z : Nat) (f g : S) : cv (sh z f) g = sh z (cv f g) := by
  funext n
  unfold cv
  by_cases h : n < z
  · show _ = if n < z then 0 else _
    rw [if_pos h]
    refine Eq.trans (sm_congr _ fun i hi => ?_) (sm_zero _)
    show (if i < z then 0 else f (i - z)) * _ = 0
    rw [if_pos (by omega), Int.zero_mul]
  · show _ = if n < z then 0 else sm (fun i => f i * g (n - z - i)) (n - z + 1)
    rw [if_neg h]
    have e : n + 1 = z + (n - z + 1) := by omega
    rw [e, sm_split]
    have e0 : sm (fun i => sh z f i * g (n - i)) z = 0 := by
      refine Eq.trans (sm_congr _ fun i hi => ?_) (sm_zero _)
      show (if i < z then 0 else f (i - z)) * _ = 0
      rw [if_pos hi, Int.zero_mul]
    rw [e0, Int.zero_add]
    refine sm_congr _ fun i hi => ?_
    show (if z + i < z then 0 else f (z + i - z)) * g (n - (z + i)) = _
    rw [if_neg (by omega)]
    have e1 : z + i - z = i := by omega
    have e2 : n - (z + i) = n - z - i := by omega
    rw [e1, e2]
theorem sh_sh (a b : Nat) (f : S) : sh a (sh b f) = sh (a + b) f := by
  funext n
  unfold sh
  by_cases h : n < a
  · rw [if_pos h, if_pos (by omega)]
  · rw [if_neg h]
    by_cases h2 : n - a < b
    · rw [if_pos h2, if_pos (by omega)]
    · rw [if_neg h2, if_neg (by omega)]
      congr 1
      omega
theorem sh_zero (f : S) : sh 0 f = f := by
  funext n
  show (if n < 0 then 0 else f (n - 0)) = f n
  rw [if_neg (by omega), Nat.sub_zero]
theorem pw_sh (z : Nat) (f : S) : ∀ k, pw (sh z f) k = sh (z * k) (pw f k)
  | 0 => by
    rw [Nat.mul_zero, sh_zero]
    rfl
  | k + 1 => by
    show cv (pw (sh z f) k) (sh z f) = sh (z * (k + 1)) (cv (pw f k) f)
    rw [pw_sh z f k, sh_cv, cv_comm, sh_cv, cv_comm f, sh_sh]
    rfl
/-! ### bounds -/
theorem sm_bound {f : S} {M : Nat} : ∀ n, (∀ i, i < n → (f i).natAbs ≤ M) → (sm f n).natAbs ≤ n * M
  | 0, _ => by
    show 0 ≤ _
    omega
  | n + 1, h => by
    have h1 := sm_bound n fun i hi => h i (by omega)
    have h2 := h n (by omega)
    show (sm f n + f n).natAbs ≤ (n + 1) * M
    rw [Nat.succ_mul]
    omega
theorem cv_bound {f g : S} {N A B : Nat} (hf : ∀ i, i < N → (f i).natAbs ≤ A) (hg : ∀ i, i < N → (g i).natAbs ≤ B) : ∀ n, n < N → (cv f g n).natAbs ≤ N * (A * B) := fun n hn => by
  refine Nat.le_trans (sm_bound (M := A * B) (n + 1) fun i hi => ?_) (Nat.mul_le_mul_right _ (by omega))
  rw [Int.natAbs_mul]
  exact Nat.mul_le_mul (hf i (by omega)) (hg (n - i) (by omega))
theorem pw_bound {f : S} {N A : Nat} (hf : ∀ i, i < N → (f i).natAbs ≤ A) (hN : 0 < N) : ∀ k n, n < N → (pw f k n).natAbs ≤ (N * A) ^ k
  | 0, n, _ => by
    show (if n = 0 then (1 : Int) else 0).natAbs ≤ 1
    by_cases h : n = 0
    · rw [if_pos h]
      decide
    · rw [if_neg h]
      decide
  | k + 1, n, hn => by
    refine Nat.le_trans (cv_bound (pw_bound hf hN k) hf n hn) ?_
    rw [Nat.pow_succ, ← Nat.mul_assoc, Nat.mul_comm N, Nat.mul_assoc]
    exact Nat.le_refl _
theorem inv_bound {f : S} {u : Int} {N A : Nat} (hu : u.natAbs = 1) (hf : ∀ i, i < N → (f i).natAbs ≤ A) : ∀ n, n < N → (inv f u n).natAbs ≤ (N * (A + 1)) ^ n := by
  intro n
  induction n using Nat.strongRecOn with
  | ind n ih =>
    intro hn
    cases n with
    | zero =>
      rw [inv_zero, hu]
      exact Nat.le_refl _
    | succ n =>
      rw [inv_succ, Int.natAbs_mul, Int.natAbs_neg, hu, Nat.one_mul]
      have hp : 0 < N * (A + 1) := Nat.mul_pos (by omega) (by omega)
      refine Nat.le_trans (sm_bound (M := A * (N * (A + 1)) ^ n) (n + 1) fun i hi => ?_) ?_
      · rw [Int.natAbs_mul]
        refine Nat.mul_le_mul (hf (i + 1) (by omega)) (Nat.le_trans (ih (n - i) (by omega) (by omega)) ?_)
        exact Nat.pow_le_pow_right hp (by omega)
      · rw [Nat.pow_succ, Nat.mul_comm _ (N * (A + 1)), Nat.mul_assoc N]
        have h1 : A * (N * (A + 1)) ^ n ≤ (A + 1) * (N * (A + 1)) ^ n := Nat.mul_le_mul_right _ (by omega)
        exact Nat.mul_le_mul (by omega) h1
end Ps

set_option Elab.async false
set_option linter.all false
set_option maxRecDepth 100000
set_option maxHeartbeats 4000000
/-! products of powers of 1 - q^n, and sums over divisors -/
namespace Ps
/-- 1 - q^n -/
def U (n : Nat) : S := fun i => if i = 0 then 1 else if i = n then -1 else 0
/-- its inverse -/
def G (n : Nat) : S := fun i => if n ∣ i then 1 else 0
/-- q^n / (1 - q^n) -/
def Ev (n : Nat) : S := fun i => if i ≠ 0 ∧ n ∣ i then 1 else 0
/-- q^n -/
def Xp (n : Nat) : S := fun i => if i = n then 1 else 0
theorem sm_one_at (f : S) {m : Nat} : ∀ N, m < N → (∀ i, i < N → i ≠ m → f i = 0) → sm f N = f m
  | 0, h, _ => absurd h (Nat.not_lt_zero _)
  | N + 1, h, h2 => by
    show sm f N + f N = f m
    by_cases e : m = N
    · subst e
      rw [sm_congr (g := fun _ => 0) m (fun i hi => h2 i (by omega) (by omega)), sm_zero]
      omega
    · rw [sm_one_at f N (by omega) (fun i hi hn => h2 i (by omega) hn), h2 N (by omega) (fun z => e z.symm)]
      omega
theorem cv_U {n : Nat} (hn : 0 < n) (f : S) : cv (U n) f = fun k => f k - (if n ≤ k then f (k - n) else 0) := by
  funext k
  unfold cv
  rw [sm_first]
  have e0 : U n 0 * f (k - 0) = f k := by
    show (1 : Int) * f (k - 0) = f k
    rw [Int.one_mul, Nat.sub_zero]
  rw [e0]
  by_cases h : n ≤ k
  · rw [if_pos h, sm_one_at (m := n - 1) (fun i => U n (i + 1) * f (k - (i + 1))) k (by omega) (fun i hi hne => ?_)]
    · show f k + U n (n - 1 + 1) * f (k - (n - 1 + 1)) = _
      have e1 : n - 1 + 1 = n := by omega
      rw [e1]
      have e2 : U n n = -1 := by
        unfold U
        rw [if_neg (by omega), if_pos rfl]
      rw [e2]
      omega
    · show U n (i + 1) * _ = 0
      have e2 : U n (i + 1) = 0 := by
        unfold U
        rw [if_neg (by omega), if_neg (by omega)]
      rw [e2, Int.zero_mul]
  · rw [if_neg h, sm_congr (g := fun _ => 0) k (fun i hi => ?_), sm_zero]
    · omega
    · show U n (i + 1) * _ = 0
      have e2 : U n (i + 1) = 0 := by
        unfold U
        rw [if_neg (by omega), if_neg (by omega)]
      rw [e2, Int.zero_mul]
theorem dvd_lt {n k : Nat} (h : k < n) : n ∣ k ↔ k = 0 := ⟨fun z => by
  rcases Nat.eq_zero_or_pos k with q | q
  · exact q
  · exact absurd (Nat.le_of_dvd q z) (by omega), fun z => by rw [z]; exact Nat.dvd_zero _⟩
theorem dvd_back {n k : Nat} (h : n ≤ k) : n ∣ k ↔ n ∣ k - n := ⟨fun z => Nat.dvd_sub z (Nat.dvd_refl n), fun z => by
  have z2 := Nat.dvd_add z (Nat.dvd_refl n)
  rwa [Nat.sub_add_cancel h] at z2⟩
theorem UG {n : Nat} (hn : 0 < n) : cv (U n) (G n) = one := by
  rw [cv_U hn]
  funext k
  show (if n ∣ k then (1 : Int) else 0) - (if n ≤ k then (if n ∣ k - n then 1 else 0) else 0) = if k = 0 then 1 else 0
  by_cases h : n ≤ k
  · rw [if_pos h, if_neg (by omega : ¬ k = 0)]
    by_cases d : n ∣ k
    · rw [if_pos d, if_pos ((dvd_back h).mp d)]
      rfl
    · rw [if_neg d, if_neg (fun z => d ((dvd_back h).mpr z))]
      rfl
  · rw [if_neg h]
    by_cases d : k = 0
    · rw [if_pos ((dvd_lt (by omega)).mpr d), if_pos d]
      rfl
    · rw [if_neg (fun z => d ((dvd_lt (by omega)).mp z)), if_neg d]
      rfl
theorem UE {n : Nat} (hn : 0 < n) : cv (U n) (Ev n) = Xp n := by
  rw [cv_U hn]
  funext k
  show (if k ≠ 0 ∧ n ∣ k then (1 : Int) else 0) - (if n ≤ k then (if k - n ≠ 0 ∧ n ∣ k - n then 1 else 0) else 0) = if k = n then 1 else 0
  by_cases h : n ≤ k
  · rw [if_pos h]
    by_cases d : n ∣ k
    · rw [if_pos ⟨by omega, d⟩]
      by_cases e : k = n
      · rw [if_pos e, if_neg (by omega)]
        rfl
      · rw [if_neg e, if_pos ⟨by omega, (dvd_back h).mp d⟩]
        rfl
    · rw [if_neg (fun z => d z.2), if_neg (fun z => d ((dvd_back h).mpr z.2)), if_neg (fun z => d (by rw [z]; exact Nat.dvd_refl _))]
      rfl
  · rw [if_neg h, if_neg (fun z => h (Nat.le_of_dvd (Nat.pos_of_ne_zero z.1) z.2)), if_neg (by omega)]
    rfl
theorem dvU {n : Nat} : dv (U n) = sc (-(n : Int)) (Xp n) := by
  funext i
  show (i : Int) * (if i = 0 then 1 else if i = n then -1 else 0) = -(n : Int) * (if i = n then 1 else 0)
  by_cases h : i = n
  · subst h
    rw [if_pos rfl, if_pos rfl]
    by_cases z : i = 0
    · rw [if_pos z]
      omega
    · rw [if_neg z]
      omega
  · rw [if_neg h, if_neg h]
    by_cases z : i = 0
    · rw [if_pos z]
      omega
    · rw [if_neg z]
      omega
theorem cancelU {n : Nat} (hn : 0 < n) {f g : S} (h : cv (U n) f = cv (U n) g) : f = g := by
  have e : ∀ z : S, cv (G n) (cv (U n) z) = z := fun z => by rw [← cv_assoc, cv_comm (G n), UG hn, one_cv]
  rw [← e f, h, e]
theorem ad_zero (f : S) : ad f (fun _ => 0) = f := by
  funext k
  show f k + 0 = f k
  omega
theorem dvG {n : Nat} (hn : 0 < n) : dv (G n) = cv (sc (n : Int) (Ev n)) (G n) := by
  refine cancelU hn ?_
  have h := dv_cv (U n) (G n)
  rw [UG hn, dv_one, dvU, ← UE hn, sc_cv] at h
  have e1 : cv (cv (U n) (Ev n)) (G n) = cv (U n) (cv (Ev n) (G n)) := cv_assoc _ _ _
  rw [e1] at h
  rw [sc_cv, cv_sc]
  funext k
  have hk := congrFun h k
  show cv (U n) (dv (G n)) k = (n : Int) * cv (U n) (cv (Ev n) (G n)) k
  have hk2 : (0 : Int) = -(n : Int) * cv (U n) (cv (Ev n) (G n)) k + cv (U n) (dv (G n)) k := hk
  rw [Int.neg_mul] at hk2
  omega
/-- the logarithmic slope of a is s -/
structure Lg (s a : S) : Prop where
  z : s 0 = 0
  d : dv a = cv s a
theorem Lg.one : Lg (fun _ => 0) one := ⟨rfl, by rw [dv_one, cv_comm, cv_zero]⟩
theorem ad_cv (f g h : S) : cv (ad f g) h = ad (cv f h) (cv g h) := by rw [cv_comm, cv_ad, cv_comm h f, cv_comm h g]
theorem Lg.pos {s a : S} (L : Lg s a) {n : Nat} (hn : 0 < n) : Lg (ad s (sc (n : Int) (Ev n))) (cv (G n) a) := by
  refine ⟨?_, ?_⟩
  · show s 0 + (n : Int) * (if (0 : Nat) ≠ 0 ∧ n ∣ 0 then 1 else 0) = 0
    rw [L.z, if_neg (fun z => z.1 rfl)]
    omega
  · rw [dv_cv, dvG hn, L.d, ad_cv, cv_assoc, ← cv_assoc (G n) s a, cv_comm (G n) s, cv_assoc]
    funext k
    show _ + _ = _ + _
    omega
theorem Lg.neg {s a : S} (L : Lg s a) {n : Nat} (hn : 0 < n) : Lg (ad s (sc (-(n : Int)) (Ev n))) (cv (U n) a) := by
  refine ⟨?_, ?_⟩
  · show s 0 + -(n : Int) * (if (0 : Nat) ≠ 0 ∧ n ∣ 0 then 1 else 0) = 0
    rw [L.z, if_neg (fun z => z.1 rfl)]
    omega
  · rw [dv_cv, dvU, L.d, ad_cv, ← UE hn, sc_cv, sc_cv, cv_assoc, cv_comm (U n) (cv s a), cv_assoc, cv_comm a (U n)]
    have e : cv (U n) (cv (Ev n) a) = cv (Ev n) (cv (U n) a) := by rw [← cv_assoc, cv_comm (U n), cv_assoc]
    rw [e]
    funext k
    show _ + _ = _ + _
    omega
/-- one factor to the power -p, laps done -/
def lapF (n : Nat) (p : Int) : Nat → S → S
  | 0, a => a
  | j + 1, a => if 0 < p then cv (G n) (lapF n p j a) else cv (U n) (lapF n p j a)
def prA (p : S) : Nat → S
  | 0 => one
  | j + 1 => lapF (j + 1) (p j) (p j).natAbs (prA p j)
/-- the weighted sum over divisors, the first j alone -/
def sS (p : S) : Nat → S
  | 0 => fun _ => 0
  | j + 1 => ad (sS p j) (sc (((j + 1 : Nat) : Int) * p j) (Ev (j + 1)))
theorem lg_lap {s a : S} (L : Lg s a) {n : Nat} (hn : 0 < n) (p : Int) : ∀ j, j ≤ p.natAbs → Lg (ad s (sc ((n : Int) * (if 0 < p then (j : Int) else -(j : Int))) (Ev n))) (lapF n p j a)
  | 0, _ => by
    have e : ad s (sc ((n : Int) * (if 0 < p then ((0 : Nat) : Int) else -((0 : Nat) : Int))) (Ev n)) = s := by
      funext k
      show s k + (n : Int) * (if 0 < p then (0 : Int) else -(0 : Int)) * _ = s k
      split <;> simp
    rw [e]
    exact L
  | j + 1, hj => by
    have L1 := lg_lap L hn p j (by omega)
    unfold lapF
    by_cases h : 0 < p
    · rw [if_pos h] at L1
      rw [if_pos h, if_pos h]
      have e : ad s (sc ((n : Int) * ((j + 1 : Nat) : Int)) (Ev n)) = ad (ad s (sc ((n : Int) * (j : Int)) (Ev n))) (sc (n : Int) (Ev n)) := by
        funext k
        show s k + (n : Int) * ((j + 1 : Nat) : Int) * Ev n k = s k + (n : Int) * (j : Int) * Ev n k + (n : Int) * Ev n k
        have e1 : ((j + 1 : Nat) : Int) = (j : Int) + 1 := by omega
        rw [e1, Int.mul_add, Int.mul_one, Int.add_mul]
        omega
      rw [e]
      exact L1.pos hn
    · rw [if_neg h] at L1
      rw [if_neg h, if_neg h]
      have e : ad s (sc ((n : Int) * -((j + 1 : Nat) : Int)) (Ev n)) = ad (ad s (sc ((n : Int) * -(j : Int)) (Ev n))) (sc (-(n : Int)) (Ev n)) := by
        funext k
        show s k + (n : Int) * -((j + 1 : Nat) : Int) * Ev n k = s k + (n : Int) * -(j : Int) * Ev n k + -(n : Int) * Ev n k
        have e1 : -((j + 1 : Nat) : Int) = -(j : Int) + -1 := by omega
        rw [e1, Int.mul_add, Int.add_mul, Int.mul_neg_one]
        omega
      rw [e]
      exact L1.neg hn
theorem lg_prA (p : S) : ∀ j, Lg (sS p j) (prA p j)
  | 0 => Lg.one
  | j + 1 => by
    have L := lg_lap (lg_prA p j) (n := j + 1) (by omega) (p j) (p j).natAbs (Nat.le_refl _)
    have e : (if 0 < p j then ((p j).natAbs : Int) else -((p j).natAbs : Int)) = p j := by
      split <;> omega
    rw [e] at L
    exact L
theorem lapF_at (n : Nat) (hn : 0 < n) (p : Int) (a : S) : ∀ j k, k < n → lapF n p j a k = a k
  | 0, _, _ => rfl
  | j + 1, k, hk => by
    have ih := lapF_at n hn p a j k hk
    unfold lapF
    split
    · have e : cv (U n) (cv (G n) (lapF n p j a)) k = lapF n p j a k := by rw [← cv_assoc, UG hn, one_cv]
      rw [cv_U hn] at e
      have e2 : cv (G n) (lapF n p j a) k - (if n ≤ k then cv (G n) (lapF n p j a) (k - n) else 0) = lapF n p j a k := e
      rw [if_neg (by omega)] at e2
      omega
    · rw [cv_U hn]
      show lapF n p j a k - (if n ≤ k then _ else 0) = _
      rw [if_neg (by omega)]
      omega
/-- the coefficient at n itself moves by the power -/
theorem lapF_self (n : Nat) (hn : 0 < n) (p : Int) (a : S) (h0 : a 0 = 1) : ∀ j, lapF n p j a n = a n + (if 0 < p then (j : Int) else -(j : Int))
  | 0 => by
    show a n = a n + _
    split <;> simp
  | j + 1 => by
    have ih := lapF_self n hn p a h0 j
    have z0 := lapF_at n hn p a j 0 hn
    have z1 := lapF_at n hn p a (j + 1) 0 hn
    have ec : ((j + 1 : Nat) : Int) = (j : Int) + 1 := by omega
    unfold lapF at z1 ⊢
    by_cases h : 0 < p
    · rw [if_pos h] at ih z1 ⊢
      rw [if_pos h]
      have e : cv (U n) (cv (G n) (lapF n p j a)) n = lapF n p j a n := by rw [← cv_assoc, UG hn, one_cv]
      rw [cv_U hn] at e
      have e2 : cv (G n) (lapF n p j a) n - (if n ≤ n then cv (G n) (lapF n p j a) (n - n) else 0) = lapF n p j a n := e
      rw [if_pos (Nat.le_refl _), Nat.sub_self, z1, h0] at e2
      omega
    · rw [if_neg h] at ih z1 ⊢
      rw [if_neg h, cv_U hn]
      show lapF n p j a n - (if n ≤ n then lapF n p j a (n - n) else 0) = _
      rw [if_pos (Nat.le_refl _), Nat.sub_self, z0, h0, ih]
      omega
theorem prA_zero (p : S) : ∀ j, prA p j 0 = 1
  | 0 => rfl
  | j + 1 => by
    show lapF (j + 1) (p j) (p j).natAbs (prA p j) 0 = 1
    rw [lapF_at (j + 1) (by omega) _ _ _ 0 (by omega), prA_zero p j]
/-- behind the first k factors nothing changes up to k -/
theorem prA_far (p : S) : ∀ j k, k ≤ j → prA p j k = prA p k k
  | 0, k, h => by
    have : k = 0 := by omega
    subst this
    rfl
  | j + 1, k, h => by
    by_cases e : k = j + 1
    · rw [e]
    · show lapF (j + 1) (p j) (p j).natAbs (prA p j) k = _
      rw [lapF_at (j + 1) (by omega) _ _ _ k (by omega), prA_far p j k (by omega)]
theorem prA_congr {p q : S} : ∀ j, (∀ i, i < j → p i = q i) → prA p j = prA q j
  | 0, _ => rfl
  | j + 1, h => by
    show lapF (j + 1) (p j) (p j).natAbs (prA p j) = lapF (j + 1) (q j) (q j).natAbs (prA q j)
    rw [h j (by omega), prA_congr j fun i hi => h i (by omega)]
theorem sS_congr {p q : S} : ∀ j, (∀ i, i < j → p i = q i) → sS p j = sS q j
  | 0, _ => rfl
  | j + 1, h => by
    show ad (sS p j) _ = ad (sS q j) _
    rw [h j (by omega), sS_congr j fun i hi => h i (by omega)]
theorem prA_tail {p : S} {m : Nat} (h : ∀ i, m ≤ i → p i = 0) : ∀ k, prA p (m + k) = prA p m
  | 0 => rfl
  | k + 1 => by
    show lapF (m + k + 1) (p (m + k)) (p (m + k)).natAbs (prA p (m + k)) = _
    rw [h (m + k) (by omega)]
    exact prA_tail h k
theorem sS_tail {p : S} {m : Nat} (h : ∀ i, m ≤ i → p i = 0) : ∀ k, sS p (m + k) = sS p m
  | 0 => rfl
  | k + 1 => by
    show ad (sS p (m + k)) (sc (((m + k + 1 : Nat) : Int) * p (m + k)) (Ev (m + k + 1))) = _
    rw [h (m + k) (by omega), sS_tail h k]
    funext i
    show _ + (_ * 0) * _ = _
    rw [Int.mul_zero, Int.zero_mul, Int.add_zero]
/-- each series that begins with 1 is such a product -/
def exps (a : S) : Nat → S
  | 0 => fun _ => 0
  | j + 1 => fun i => if i = j then a (j + 1) - prA (exps a j) j (j + 1) else exps a j i
theorem exps_lt (a : S) : ∀ j k i, i < j → exps a (j + k) i = exps a j i
  | j, 0, i, _ => rfl
  | j, k + 1, i, h => by
    show (if i = j + k then _ else exps a (j + k) i) = _
    rw [if_neg (by omega), exps_lt a j k i h]
theorem exps_ok (a : S) (h0 : a 0 = 1) : ∀ j k, k ≤ j → prA (exps a j) j k = a k
  | 0, k, h => by
    have : k = 0 := by omega
    subst this
    exact h0.symm
  | j + 1, k, h => by
    have e : prA (exps a (j + 1)) j = prA (exps a j) j := prA_congr j fun i hi => exps_lt a j 1 i hi
    have ep : exps a (j + 1) j = a (j + 1) - prA (exps a j) j (j + 1) := by
      show (if j = j then _ else _) = _
      rw [if_pos rfl]
    show lapF (j + 1) (exps a (j + 1) j) (exps a (j + 1) j).natAbs (prA (exps a (j + 1)) j) k = a k
    rw [e]
    by_cases hk : k = j + 1
    · subst hk
      rw [lapF_self (j + 1) (by omega) _ _ (prA_zero _ _), ep]
      split <;> omega
    · rw [lapF_at (j + 1) (by omega) _ _ _ k (by omega)]
      exact exps_ok a h0 j k (by omega)
/-- n a(n) is the sum of s(k) a(n - k) -/
theorem Lg.at_ {s a : S} (L : Lg s a) (n : Nat) : (n : Int) * a n = sm (fun i => s (i + 1) * a (n - (i + 1))) n := by
  have h := congrFun L.d n
  have h2 : (n : Int) * a n = sm (fun i => s i * a (n - i)) (n + 1) := h
  rw [sm_first, L.z, Int.zero_mul, Int.zero_add] at h2
  exact h2
end Ps

set_option Elab.async false
set_option linter.all false
set_option maxRecDepth 100000
set_option maxHeartbeats 4000000
/-! bounds of products and of their sums -/
namespace Ps
theorem sS_bound {p : S} {c : Nat} (hp : ∀ i, (p i).natAbs ≤ c) : ∀ j k, (sS p j k).natAbs ≤ c * (j * (j + 1))
  | 0, k => by
    show (0 : Int).natAbs ≤ _
    exact Nat.zero_le _
  | j + 1, k => by
    have ih := sS_bound hp j k
    show (sS p j k + ((j + 1 : Nat) : Int) * p j * Ev (j + 1) k).natAbs ≤ _
    have h1 : (((j + 1 : Nat) : Int) * p j * Ev (j + 1) k).natAbs ≤ c * (j + 1) := by
      rw [Int.natAbs_mul, Int.natAbs_mul, Int.natAbs_natCast]
      have h2 : (Ev (j + 1) k).natAbs ≤ 1 := by
        unfold Ev
        split <;> decide
      have h3 := hp j
      have h4 : (j + 1) * (p j).natAbs ≤ (j + 1) * c := Nat.mul_le_mul (Nat.le_refl _) h3
      have h5 := Nat.mul_le_mul h4 h2
      rw [Nat.mul_one, Nat.mul_comm (j + 1) c] at h5
      exact h5
    have h6 := Int.natAbs_add_le (sS p j k) (((j + 1 : Nat) : Int) * p j * Ev (j + 1) k)
    have h7 : c * ((j + 1) * (j + 1 + 1)) = c * (j * (j + 1)) + c * (j + 1) + c * (j + 1) := by
      rw [← Nat.mul_add, ← Nat.mul_add]
      congr 1
      rw [Nat.mul_add (j + 1) (j + 1) 1, Nat.add_mul j 1 (j + 1)]
      omega
    omega
theorem lg_bound {s a : S} (L : Lg s a) (a0 : a 0 = 1) {B N : Nat} (hB : 1 ≤ B) (hs : ∀ k, k ≤ N → (s k).natAbs ≤ B) : ∀ n, n ≤ N → (a n).natAbs ≤ B ^ n := by
  intro n
  induction n using Nat.strongRecOn with
  | _ n ih =>
    intro hn
    cases n with
    | zero =>
      rw [a0]
      exact Nat.le_refl _
    | succ n =>
      have h := L.at_ (n + 1)
      have hb : (sm (fun i => s (i + 1) * a (n + 1 - (i + 1))) (n + 1)).natAbs ≤ (n + 1) * B ^ (n + 1) := sm_bound _ fun i hi => by
        rw [Int.natAbs_mul]
        have h1 := hs (i + 1) (by omega)
        have h2 := ih (n + 1 - (i + 1)) (by omega) (by omega)
        have h3 : B ^ (n + 1 - (i + 1)) ≤ B ^ n := Nat.pow_le_pow_right hB (by omega)
        have h4 := Nat.mul_le_mul h1 (Nat.le_trans h2 h3)
        rw [Nat.pow_succ, Nat.mul_comm (B ^ n) B]
        exact h4
      rw [← h, Int.natAbs_mul, Int.natAbs_natCast] at hb
      exact Nat.le_of_mul_le_mul_left hb (by omega)
theorem sums_bound {s a : S} (L : Lg s a) (a0 : a 0 = 1) {M N : Nat} (hM : 1 ≤ M) (hN : N ≤ 12) (ha : ∀ k, k ≤ N → (a k).natAbs ≤ M) : ∀ n, n ≤ N → (s n).natAbs ≤ (32 * M) ^ n := by
  intro n
  induction n using Nat.strongRecOn with
  | _ n ih =>
    intro hn
    cases n with
    | zero =>
      rw [L.z]
      exact Nat.zero_le _
    | succ n =>
      have h := L.at_ (n + 1)
      have h0 : sm (fun i => s (i + 1) * a (n + 1 - (i + 1))) (n + 1) = sm (fun i => s (i + 1) * a (n + 1 - (i + 1))) n + s (n + 1) * a (n + 1 - (n + 1)) := rfl
      rw [h0, Nat.sub_self, a0, Int.mul_one] at h
      have hb : (sm (fun i => s (i + 1) * a (n + 1 - (i + 1))) n).natAbs ≤ n * ((32 * M) ^ n * M) := sm_bound _ fun i hi => by
        rw [Int.natAbs_mul]
        have h1 := ih (i + 1) (by omega) (by omega)
        have h2 := ha (n + 1 - (i + 1)) (by omega)
        have h3 : (32 * M) ^ (i + 1) ≤ (32 * M) ^ n := Nat.pow_le_pow_right (by omega) (by omega)
        exact Nat.mul_le_mul (Nat.le_trans h1 h3) h2
      have hc : (((n + 1 : Nat) : Int) * a (n + 1)).natAbs ≤ 12 * M := by
        rw [Int.natAbs_mul, Int.natAbs_natCast]
        exact Nat.mul_le_mul (by omega) (ha _ hn)
      have h1 : 1 ≤ (32 * M) ^ n := Nat.pow_pos (by omega)
      have h2 : n * ((32 * M) ^ n * M) ≤ 12 * ((32 * M) ^ n * M) := Nat.mul_le_mul (by omega) (Nat.le_refl _)
      have h3 : 12 * M ≤ 12 * ((32 * M) ^ n * M) := by
        have := Nat.mul_le_mul h1 (Nat.le_refl M)
        omega
      have h4 : (32 * M) ^ (n + 1) = 32 * ((32 * M) ^ n * M) := by
        rw [Nat.pow_succ, Nat.mul_comm 32 M, ← Nat.mul_assoc, Nat.mul_comm]
      have h5 : s (n + 1) = ((n + 1 : Nat) : Int) * a (n + 1) - sm (fun i => s (i + 1) * a (n + 1 - (i + 1))) n := by omega
      have h6 := Int.natAbs_sub_le (((n + 1 : Nat) : Int) * a (n + 1)) (sm (fun i => s (i + 1) * a (n + 1 - (i + 1))) n)
      rw [← h5] at h6
      omega
/-- a and b with the same sums are the same -/
theorem lg_uniq {s a : S} (L : Lg s a) {b : S} {N : Nat} (h0 : a 0 = b 0) (hb : ∀ n, n < N → ((n + 1 : Nat) : Int) * b (n + 1) = sm (fun i => s (i + 1) * b (n + 1 - (i + 1))) (n + 1)) : ∀ n, n ≤ N → a n = b n := by
  intro n
  induction n using Nat.strongRecOn with
  | _ n ih =>
    intro hn
    cases n with
    | zero => exact h0
    | succ n =>
      have h := L.at_ (n + 1)
      have h2 := hb n (by omega)
      have e : sm (fun i => s (i + 1) * a (n + 1 - (i + 1))) (n + 1) = sm (fun i => s (i + 1) * b (n + 1 - (i + 1))) (n + 1) := sm_congr _ fun i hi => by
        rw [ih (n + 1 - (i + 1)) (by omega) (by omega)]
      rw [e, ← h2] at h
      exact Int.eq_of_mul_eq_mul_left (by omega) h
end Ps

set_option Elab.async false
set_option linter.all false
set_option maxRecDepth 100000
set_option maxHeartbeats 4000000
/-! sums over divisors -/
namespace Ps
def sgm (n k : Nat) : Int := sm (fun i => if (i + 1) ∣ n then ((i + 1 : Nat) : Int) ^ k else 0) n
def rt (n : Nat) : Nat := PySem.Float64.isqrt n
/-- what d and its partner give -/
def pr1 (n k d : Nat) : Int := ((d : Nat) : Int) ^ k + (if d * d = n then 0 else ((n / d : Nat) : Int) ^ k)
def pvS (n k r : Nat) : Int := sm (fun i => if (i + 1) ∣ n then pr1 n k (i + 1) else 0) r
def DV (n k : Nat) : Int := pvS n k (rt n)
theorem rt_eq {n r : Nat} (h1 : r * r ≤ n) (h2 : n < (r + 1) * (r + 1)) : r = rt n := by
  have s := PySem.Float64.isqrt_spec n
  have s1 : rt n * rt n ≤ n := s.1
  have s2 : n < (rt n + 1) * (rt n + 1) := s.2
  have a : r < rt n + 1 := by
    refine Nat.lt_of_not_le fun z => ?_
    have := Nat.mul_le_mul z z
    omega
  have b : rt n < r + 1 := by
    refine Nat.lt_of_not_le fun z => ?_
    have := Nat.mul_le_mul z z
    omega
  omega
/-- the divisors to r -/
def sml (n : Nat) : Nat → List Int
  | 0 => []
  | r + 1 => sml n r ++ (if (r + 1) ∣ n then [((r + 1 : Nat) : Int)] else [])
theorem sml_len (n : Nat) : ∀ r, (sml n r).length ≤ r
  | 0 => Nat.le_refl _
  | r + 1 => by
    show (sml n r ++ _).length ≤ r + 1
    rw [List.length_append]
    have := sml_len n r
    split
    · simp; omega
    · simp; omega
theorem sml_mem (n : Nat) : ∀ r, ∀ z ∈ sml n r, ∃ d : Nat, z = (d : Int) ∧ 1 ≤ d ∧ d ≤ r ∧ d ∣ n
  | 0, z, h => by cases h
  | r + 1, z, h => by
    rcases List.mem_append.mp h with h | h
    · obtain ⟨d, e, a, b, c⟩ := sml_mem n r z h
      exact ⟨d, e, a, by omega, c⟩
    · split at h
      · rename_i c
        rw [List.mem_singleton.mp h]
        exact ⟨r + 1, rfl, by omega, by omega, c⟩
      · cases h
def lrgOf (n : Nat) (l : List Int) : List Int := (l.filter fun d => decide (d * d ≠ (n : Int))).map fun d => ((n : Int)).fdiv d
theorem pvS_sum (n k : Nat) : ∀ r, ((sml n r).map (· ^ k)).sum + ((lrgOf n (sml n r).reverse).map (· ^ k)).sum = pvS n k r
  | 0 => rfl
  | r + 1 => by
    have ih := pvS_sum n k r
    show (((sml n r ++ _)).map (· ^ k)).sum + ((lrgOf n (sml n r ++ _).reverse).map (· ^ k)).sum = pvS n k r + (if (r + 1) ∣ n then pr1 n k (r + 1) else 0)
    by_cases c : (r + 1) ∣ n
    · rw [if_pos c, if_pos c, List.map_append, List.sum_append, List.reverse_append]
      show _ + (((r + 1 : Nat) : Int) ^ k + 0) + ((lrgOf n ([((r + 1 : Nat) : Int)] ++ (sml n r).reverse)).map (· ^ k)).sum = _
      unfold lrgOf at ih ⊢
      rw [List.filter_append, List.map_append, List.map_append, List.sum_append]
      unfold pr1
      have key : (List.map (· ^ k) (List.map (fun d => ((n : Int)).fdiv d) (List.filter (fun d => decide (d * d ≠ (n : Int))) [((r + 1 : Nat) : Int)]))).sum = if (r + 1) * (r + 1) = n then 0 else ((n / (r + 1) : Nat) : Int) ^ k := by
        by_cases e : (r + 1) * (r + 1) = n
        · rw [if_pos e, List.filter_cons_of_neg (fun z => (of_decide_eq_true z) (by exact_mod_cast e))]
          rfl
        · rw [if_neg e, List.filter_cons_of_pos (by
            simp only [decide_eq_true_eq, ne_eq]
            exact_mod_cast e)]
          show (((n : Int)).fdiv ((r + 1 : Nat) : Int)) ^ k + 0 = _
          rw [Int.add_zero]
          congr 1
          rw [Int.fdiv_eq_ediv_of_nonneg _ (by omega)]
          exact (Int.natCast_ediv n (r + 1)).symm
      rw [key]
      omega
    · rw [if_neg c, if_neg c, List.append_nil]
      omega
theorem sgm_at (n k : Nat) {j : Nat} (h : n ≤ j) (hn : 1 ≤ n) : sm (fun i => ((i + 1 : Nat) : Int) ^ k * Ev (i + 1) n) j = sgm n k := by
  obtain ⟨t, rfl⟩ : ∃ t, j = n + t := ⟨j - n, by omega⟩
  have e : ∀ t, sm (fun i => ((i + 1 : Nat) : Int) ^ k * Ev (i + 1) n) (n + t) = sm (fun i => ((i + 1 : Nat) : Int) ^ k * Ev (i + 1) n) n := by
    intro t
    induction t with
    | zero => rfl
    | succ t ih =>
      show sm _ (n + t) + ((n + t + 1 : Nat) : Int) ^ k * Ev (n + t + 1) n = _
      have z : Ev (n + t + 1) n = 0 := by
        unfold Ev
        rw [if_neg]
        rintro ⟨_, d⟩
        have := Nat.le_of_dvd hn d
        omega
      rw [z, Int.mul_zero, Int.add_zero, ih]
  rw [e]
  unfold sgm
  refine sm_congr _ fun i hi => ?_
  unfold Ev
  by_cases c : (i + 1) ∣ n
  · rw [if_pos ⟨by omega, c⟩, if_pos c, Int.mul_one]
  · rw [if_neg (fun z => c z.2), if_neg c, Int.mul_zero]
def eS (c : Int) (e j : Nat) : S := fun n => one n + sm (fun i => c * ((i + 1 : Nat) : Int) ^ e * Ev (i + 1) n) j
def er (c : Int) (e : Nat) : S := fun n => if n = 0 then 1 else c * sgm n e
theorem eS_er (c : Int) (e m n : Nat) (h : n ≤ m) : eS c e m n = er c e n := by
  unfold eS er one
  have e1 : sm (fun i => c * ((i + 1 : Nat) : Int) ^ e * Ev (i + 1) n) m = c * sm (fun i => ((i + 1 : Nat) : Int) ^ e * Ev (i + 1) n) m := by
    rw [← sm_mul]
    exact sm_congr _ fun i _ => Int.mul_assoc _ _ _
  rw [e1]
  by_cases z : n = 0
  · subst z
    rw [if_pos rfl, if_pos rfl, sm_congr (g := fun _ => 0) m (fun i _ => by
      have : Ev (i + 1) 0 = 0 := by
        unfold Ev
        rw [if_neg (fun z => z.1 rfl)]
      rw [this, Int.mul_zero]), sm_zero, Int.mul_zero, Int.add_zero]
  · rw [if_neg z, if_neg z, sgm_at n e h (by omega), Int.zero_add]
end Ps

set_option Elab.async false
set_option linter.all false
set_option maxRecDepth 100000
set_option maxHeartbeats 4000000
/-! sparse factors and sums -/
namespace Ps
/-- one more at a place -/
def putS (b : S) (p : Nat) (c : Int) : S := fun n => if n = p then b n + c else b n
def pfS (b : S) (n : Nat) (sg : Int) : S := if sg = 1 then putS (putS b n 1) (2 * n) (-1) else putS b n sg
/-- times 1 + c q^e -/
def mulF (b : S) (e : Nat) (c : Int) : S := fun n => b n + (if e ≤ n then c * b (n - e) else 0)
/-- the exponent and the sign at k -/
def ex3 (m s : Nat) (k : Int) : Int := (m : Int) * k * (k - 1) / 2 + (s : Int) * k
def sg3 (sg : Int) (k : Int) : Int := if k % 2 = 1 then sg else 1
def tsm (m s : Nat) (sg lo : Int) (c : Nat) : S := fun n => sm (fun i => if ex3 m s (lo + i) = (n : Int) then sg3 sg (lo + i) else 0) c
/-- of the quintuple product -/
def md5 (m : Nat) (k : Int) : Int := (m : Int) * k * (3 * k + 1) / 2
def ea5 (m s : Nat) (k : Int) : Int := md5 m k - 3 * k * (s : Int)
def eb5 (m s : Nat) (k : Int) : Int := md5 m k + (3 * k + 1) * (s : Int)
def qsm (m s : Nat) (lo : Int) (c : Nat) : S := fun n => sm (fun i => (if ea5 m s (lo + i) = (n : Int) then 1 else 0) + (if eb5 m s (lo + i) = (n : Int) then -1 else 0)) c
theorem sq_nn (k : Int) : 0 ≤ k * k := by
  rcases Int.le_total 0 k with h | h
  · exact Int.mul_nonneg h h
  · exact Int.mul_nonneg_of_nonpos_of_nonpos h h
/-- (k + a) (k + a + 1) is even and not below 0 -/
theorem two_on (k : Int) : ∃ t, k * (k + 1) = 2 * t ∧ 0 ≤ t := by
  have nn : 0 ≤ k * (k + 1) := by
    rcases Int.lt_or_le k 0 with h | h
    · exact Int.mul_nonneg_of_nonpos_of_nonpos (by omega) (by omega)
    · exact Int.mul_nonneg h (by omega)
  rcases (show k % 2 = 0 ∨ k % 2 = 1 by omega) with h | h
  · refine ⟨k / 2 * (k + 1), ?_, ?_⟩
    · have e : k = 2 * (k / 2) := by omega
      rw [← Int.mul_assoc, ← e]
    · have e : k * (k + 1) = 2 * (k / 2 * (k + 1)) := by
        have e : k = 2 * (k / 2) := by omega
        rw [← Int.mul_assoc, ← e]
      omega
  · have e2 : k + 1 = 2 * ((k + 1) / 2) := by omega
    have e : k * (k + 1) = 2 * (k * ((k + 1) / 2)) := by
      rw [Int.mul_left_comm, ← e2]
    exact ⟨k * ((k + 1) / 2), e, by omega⟩
theorem ex3_eq (m s : Nat) (k t : Int) (h : (k - 1) * (k - 1 + 1) = 2 * t) : ex3 m s k = (m : Int) * t + (s : Int) * k := by
  unfold ex3
  have e : (m : Int) * k * (k - 1) = 2 * ((m : Int) * t) := by
    have e1 : k - 1 + 1 = k := by omega
    rw [e1] at h
    rw [Int.mul_assoc, Int.mul_comm k (k - 1), h, Int.mul_left_comm]
  rw [e, Int.mul_ediv_cancel_left _ (by decide)]
theorem ex3_sq {m s : Nat} (h1 : 1 ≤ s) (h2 : s < m) (k : Int) : k * k ≤ ex3 m s k := by
  obtain ⟨t, e, t0⟩ := two_on (k - 1)
  obtain ⟨u, e2, u0⟩ := two_on k
  rw [ex3_eq m s k t e]
  have e1 : k - 1 + 1 = k := by omega
  rw [e1] at e
  have ek : k * k = 2 * t + k := by
    have : (k - 1) * k = k * k - k := by rw [Int.sub_mul, Int.one_mul]
    omega
  have eu : u = t + k := by
    have : k * (k + 1) = k * k + k := by rw [Int.mul_add, Int.mul_one]
    omega
  obtain ⟨r, rfl⟩ : ∃ r, m = s + r := ⟨m - s, by omega⟩
  have a1 : ((s + r : Nat) : Int) * t + (s : Int) * k = (s : Int) * u + (r : Int) * t := by
    rw [eu]
    push_cast
    rw [Int.add_mul, Int.mul_add]
    omega
  rw [a1]
  have b1 : 1 * u ≤ (s : Int) * u := Int.mul_le_mul_of_nonneg_right (by omega) u0
  have b2 : 1 * t ≤ (r : Int) * t := Int.mul_le_mul_of_nonneg_right (by omega) t0
  omega
theorem md5_eq (m : Nat) (k u : Int) (h : k * (3 * k + 1) = 2 * u) : md5 m k = (m : Int) * u := by
  unfold md5
  have e : (m : Int) * k * (3 * k + 1) = 2 * ((m : Int) * u) := by rw [Int.mul_assoc, h, Int.mul_left_comm]
  rw [e, Int.mul_ediv_cancel_left _ (by decide)]
/-- k (3 k + 1) is twice u -/
theorem pent (k : Int) : ∃ u, k * (3 * k + 1) = 2 * u ∧ 0 ≤ u ∧ 2 * u = 3 * (k * k) + k := by
  obtain ⟨t, e, t0⟩ := two_on k
  have q := sq_nn k
  have e1 : k * (k + 1) = k * k + k := by rw [Int.mul_add, Int.mul_one]
  have e2 : k * (3 * k + 1) = 3 * (k * k) + k := by rw [Int.mul_add, Int.mul_one, Int.mul_left_comm]
  refine ⟨t + k * k, ?_, by omega, by omega⟩
  rw [e2]
  omega
theorem ea5_sq {m s : Nat} (h1 : 1 ≤ s) (h2 : 2 * s < m) (k : Int) : k * k ≤ ea5 m s k := by
  obtain ⟨u, e, u0, eu⟩ := pent k
  unfold ea5
  rw [md5_eq m k u e]
  obtain ⟨r, rfl⟩ : ∃ r, m = 2 * s + 1 + r := ⟨m - 2 * s - 1, by omega⟩
  have q := sq_nn k
  -- 3 k k - 2 k is not below 0
  have n1 : k ≤ k * k := by
    rcases Int.lt_or_le k 1 with h | h
    · omega
    · have := Int.mul_le_mul_of_nonneg_right h (show (0 : Int) ≤ k by omega)
      omega
  have a1 : ((2 * s + 1 + r : Nat) : Int) * u - 3 * k * (s : Int) = (s : Int) * (2 * u - 3 * k) + u + (r : Int) * u := by
    push_cast
    rw [Int.add_mul, Int.add_mul, Int.mul_sub, Int.one_mul, Int.mul_comm (3 * k) (s : Int), Int.mul_comm 2 (s : Int), Int.mul_assoc]
    omega
  rw [a1]
  have b1 : 1 * (2 * u - 3 * k) ≤ (s : Int) * (2 * u - 3 * k) := Int.mul_le_mul_of_nonneg_right (by omega) (by omega)
  have b2 : 0 ≤ (r : Int) * u := Int.mul_nonneg (by omega) u0
  omega
theorem eb5_sq {m s : Nat} (h1 : 1 ≤ s) (h2 : 2 * s < m) (k : Int) : k * k ≤ eb5 m s k := by
  obtain ⟨u, e, u0, eu⟩ := pent k
  unfold eb5
  rw [md5_eq m k u e]
  obtain ⟨r, rfl⟩ : ∃ r, m = 2 * s + 1 + r := ⟨m - 2 * s - 1, by omega⟩
  have q := sq_nn k
  have n1 : -k ≤ k * k := by
    rcases Int.lt_or_le (-k) 1 with h | h
    · omega
    · have := Int.mul_le_mul_of_nonneg_right h (show (0 : Int) ≤ -k by omega)
      have e : -k * -k = k * k := Int.neg_mul_neg k k
      omega
  -- (3 k + 1) (k + 1) is not below 0
  have n2 : 0 ≤ 3 * (k * k) + 4 * k + 1 := by
    rcases Int.lt_or_le k 0 with h | h
    · rcases Int.lt_or_le k (-1) with h3 | h3
      · have := Int.mul_le_mul_of_nonneg_right (show (2 : Int) ≤ -k by omega) (show (0 : Int) ≤ -k by omega)
        have e : -k * -k = k * k := Int.neg_mul_neg k k
        omega
      · have : k = -1 := by omega
        subst this
        decide
    · omega
  have a1 : ((2 * s + 1 + r : Nat) : Int) * u + (3 * k + 1) * (s : Int) = (s : Int) * (2 * u + (3 * k + 1)) + u + (r : Int) * u := by
    push_cast
    rw [Int.add_mul, Int.add_mul, Int.mul_add, Int.one_mul, Int.mul_comm (3 * k + 1) (s : Int), Int.mul_comm 2 (s : Int), Int.mul_assoc]
    omega
  rw [a1]
  have b1 : 1 * (2 * u + (3 * k + 1)) ≤ (s : Int) * (2 * u + (3 * k + 1)) := Int.mul_le_mul_of_nonneg_right (by omega) (by omega)
  have b2 : 0 ≤ (r : Int) * u := Int.mul_nonneg (by omega) u0
  rcases Int.lt_or_le k 0 with h | h
  · rcases Int.lt_or_le k (-1) with h3 | h3
    · have := Int.mul_le_mul_of_nonneg_right (show (2 : Int) ≤ -k by omega) (show (0 : Int) ≤ -k by omega)
      have e : -k * -k = k * k := Int.neg_mul_neg k k
      omega
    · have : k = -1 := by omega
      subst this
      omega
  · omega
/-- sums from -R to R: those beyond are 0 -/
theorem sm_wide (f : Int → Int) (R : Nat) : ∀ d, (∀ k : Int, (R : Int) < k ∨ k < -(R : Int) → f k = 0) → sm (fun i => f (-((R + d : Nat) : Int) + i)) (2 * (R + d) + 1) = sm (fun i => f (-(R : Int) + i)) (2 * R + 1)
  | 0, _ => rfl
  | d + 1, h => by
    rw [← sm_wide f R d h]
    have e1 : 2 * (R + (d + 1)) + 1 = (2 * (R + d) + 1 + 1) + 1 := by omega
    rw [e1, sm_first]
    show f _ + (sm _ (2 * (R + d) + 1) + f _) = _
    rw [h _ (.inr (by omega)), h _ (.inl (by omega)), Int.zero_add, Int.add_zero]
    refine sm_congr _ fun i _ => congrArg f ?_
    omega
end Ps

set_option Elab.async false
set_option linter.all false
set_option maxRecDepth 100000
set_option maxHeartbeats 4000000
/-! products of factors 1 - q^e, 1 + q^e, by their exponents -/
namespace Ps
theorem GU {n : Nat} (hn : 0 < n) (f : S) : cv (G n) (cv (U n) f) = f := by rw [← cv_assoc, cv_comm (G n), UG hn, one_cv]
theorem mulF_neg {e : Nat} (h : 0 < e) (f : S) : mulF f e (-1) = cv (U e) f := by
  rw [cv_U h]
  funext k
  show f k + (if e ≤ k then -1 * f (k - e) else 0) = f k - (if e ≤ k then f (k - e) else 0)
  split <;> omega
theorem mulF_pos {e : Nat} (h : 0 < e) (f : S) : mulF f e 1 = cv (U (2 * e)) (cv (G e) f) := by
  refine cancelU h ?_
  have e1 : cv (U e) (cv (U (2 * e)) (cv (G e) f)) = cv (U (2 * e)) f := by
    rw [← cv_assoc, cv_comm (U e) (U (2 * e)), cv_assoc, ← cv_assoc (U e) (G e), UG h, one_cv]
  rw [e1, cv_U h, cv_U (by omega)]
  funext k
  show f k + (if e ≤ k then 1 * f (k - e) else 0) - (if e ≤ k then f (k - e) + (if e ≤ k - e then 1 * f (k - e - e) else 0) else 0) = f k - (if 2 * e ≤ k then f (k - 2 * e) else 0)
  by_cases c : e ≤ k
  · rw [if_pos c, if_pos c]
    by_cases d : 2 * e ≤ k
    · have ek : k - e - e = k - 2 * e := by omega
      rw [if_pos d, if_pos (by omega), ek]
      omega
    · rw [if_neg d, if_neg (by omega)]
      omega
  · rw [if_neg c, if_neg c, if_neg (by omega)]
    omega
def shf (b : S) : S := fun i => b (i + 1)
theorem sS_congr' {p p' : S} : ∀ j, (∀ i, i < j → p i = p' i) → sS p j = sS p' j
  | 0, _ => rfl
  | j + 1, h => by
    show ad (sS p j) (sc (((j + 1 : Nat) : Int) * p j) (Ev (j + 1))) = ad (sS p' j) (sc (((j + 1 : Nat) : Int) * p' j) (Ev (j + 1)))
    rw [sS_congr' j (fun i hi => h i (by omega)), h j (by omega)]
theorem put_far {b : S} {e M : Nat} {c : Int} (h : M < e) : sS (shf (putS b e c)) M = sS (shf b) M := sS_congr' M fun i hi => by
  show (if i + 1 = e then _ else b (i + 1)) = b (i + 1)
  rw [if_neg (by omega)]
theorem put_near {b : S} {e : Nat} {c : Int} (h0 : 0 < e) : ∀ M, e ≤ M → sS (shf (putS b e c)) M = ad (sS (shf b) M) (sc ((e : Int) * c) (Ev e))
  | 0, h => absurd h (by omega)
  | j + 1, h => by
    show ad (sS (shf (putS b e c)) j) (sc (((j + 1 : Nat) : Int) * (if j + 1 = e then b (j + 1) + c else b (j + 1))) (Ev (j + 1))) = ad (ad (sS (shf b) j) (sc (((j + 1 : Nat) : Int) * b (j + 1)) (Ev (j + 1)))) (sc ((e : Int) * c) (Ev e))
    by_cases q : j + 1 = e
    · subst q
      rw [put_far (by omega), if_pos rfl]
      funext k
      show _ + _ * _ = _ + _ * _ + _ * _
      rw [Int.mul_add, Int.add_mul]
      omega
    · rw [put_near h0 j (by omega), if_neg q]
      funext k
      show _ + _ + _ = _ + _ + _
      omega
/-- the powers b (up to M) make up the product A (up to M) -/
def PI (M : Nat) (b A : S) : Prop := ∃ A', Lg (sS (shf b) M) A' ∧ A' 0 = 1 ∧ ∀ n, n ≤ M → A' n = A n
theorem mulF_far {A : S} {e n : Nat} {c : Int} (h : n < e) : mulF A e c n = A n := by
  show A n + (if e ≤ n then _ else 0) = A n
  rw [if_neg (by omega), Int.add_zero]
theorem mulF_congr {A A' : S} {e M : Nat} {c : Int} (h : ∀ n, n ≤ M → A' n = A n) : ∀ n, n ≤ M → mulF A' e c n = mulF A e c n := fun n hn => by
  show A' n + (if e ≤ n then c * A' (n - e) else 0) = A n + (if e ≤ n then c * A (n - e) else 0)
  rw [h n hn, h (n - e) (by omega)]
theorem mulF_zero {A : S} {e : Nat} {c : Int} (h : 0 < e) : mulF A e c 0 = A 0 := mulF_far h
theorem PI.start (M : Nat) : PI M (fun _ => 0) one := by
  refine ⟨one, ?_, rfl, fun _ _ => rfl⟩
  have e : ∀ j, sS (shf fun _ => (0 : Int)) j = fun _ => 0 := fun j => by
    induction j with
    | zero => rfl
    | succ j ih =>
      show ad (sS (shf fun _ => (0 : Int)) j) (sc (((j + 1 : Nat) : Int) * 0) (Ev (j + 1))) = _
      rw [ih]
      funext k
      show 0 + ((j + 1 : Nat) : Int) * 0 * _ = 0
      rw [Int.mul_zero, Int.zero_mul]
      rfl
  rw [e]
  exact Lg.one
theorem PI.neg {M e : Nat} {b A : S} (p : PI M b A) (h : 0 < e) : PI M (pfS b e (-1)) (mulF A e (-1)) := by
  obtain ⟨A', L, z, a⟩ := p
  have ep : pfS b e (-1) = putS b e (-1) := by
    unfold pfS
    rw [if_neg (by decide)]
  rw [ep]
  by_cases c : e ≤ M
  · refine ⟨mulF A' e (-1), ?_, by rw [mulF_zero h, z], mulF_congr a⟩
    rw [mulF_neg h, put_near h M c]
    have e1 : (e : Int) * -1 = -(e : Int) := by omega
    rw [e1]
    exact L.neg h
  · exact ⟨A', by rw [put_far (by omega)]; exact L, z, fun n hn => by rw [mulF_far (by omega), a n hn]⟩
theorem PI.pos {M e : Nat} {b A : S} (p : PI M b A) (h : 0 < e) : PI M (pfS b e 1) (mulF A e 1) := by
  obtain ⟨A', L, z, a⟩ := p
  have ep : pfS b e 1 = putS (putS b e 1) (2 * e) (-1) := by
    unfold pfS
    rw [if_pos rfl]
  rw [ep]
  by_cases c : e ≤ M
  · have L1 : Lg (sS (shf (putS b e 1)) M) (cv (G e) A') := by
      rw [put_near h M c, Int.mul_one]
      exact L.pos h
    by_cases d : 2 * e ≤ M
    · refine ⟨mulF A' e 1, ?_, by rw [mulF_zero h, z], mulF_congr a⟩
      rw [mulF_pos h, put_near (by omega) M d]
      have e1 : ((2 * e : Nat) : Int) * -1 = -((2 * e : Nat) : Int) := by omega
      rw [e1]
      exact L1.neg (by omega)
    · have e2 : ∀ n, n ≤ M → cv (G e) A' n = mulF A' e 1 n := fun n hn => by
        rw [mulF_pos h, cv_U (by omega)]
        show _ = cv (G e) A' n - (if 2 * e ≤ n then _ else 0)
        rw [if_neg (by omega), Int.sub_zero]
      refine ⟨cv (G e) A', by rw [put_far (by omega)]; exact L1, ?_, fun n hn => ?_⟩
      · rw [e2 0 (Nat.zero_le _), mulF_zero h, z]
      · rw [e2 n hn, mulF_congr a n hn]
  · refine ⟨A', ?_, z, fun n hn => by rw [mulF_far (by omega), a n hn]⟩
    rw [put_far (by omega), put_far (by omega)]
    exact L
theorem PI.sg {M e : Nat} {b A : S} {sg : Int} (p : PI M b A) (h : 0 < e) (hs : sg = 1 ∨ sg = -1) : PI M (pfS b e sg) (mulF A e sg) := by
  rcases hs with rfl | rfl
  · exact p.pos h
  · exact p.neg h
theorem PI.row {M : Nat} {b A : S} (p : PI M b A) {q : S} (hq : ∀ i, i < M → q i = b (i + 1)) : ∀ n, n ≤ M → prA q M n = A n := by
  obtain ⟨A', L, z, a⟩ := p
  have e : sS (shf b) M = sS q M := sS_congr' M fun i hi => (hq i hi).symm
  rw [e] at L
  intro n hn
  rw [← a n hn]
  refine lg_uniq (lg_prA q M) (b := A') (N := M) (by rw [prA_zero, z]) (fun n _ => ?_) n hn
  exact L.at_ (n + 1)
/-- sizes -/
theorem put_le {b : S} {e c : Nat} {s : Int} (h : ∀ n, (b n).natAbs ≤ c) (hs : s.natAbs ≤ 1) (n : Nat) : (putS b e s n).natAbs ≤ c + 1 := by
  have := h n
  show (if n = e then b n + s else b n).natAbs ≤ _
  split <;> omega
theorem pf_le {b : S} {e c : Nat} {s : Int} (h : ∀ n, (b n).natAbs ≤ c) (hs : s = 1 ∨ s = -1) (n : Nat) : (pfS b e s n).natAbs ≤ c + 2 := by
  unfold pfS
  split
  · exact put_le (put_le h (by decide)) (by decide) n
  · have := put_le (e := e) (s := s) h (by omega) n
    omega
/-- the first factors of a family -/
def famF (b : S) (e st : Nat) (sg : Int) : Nat → S
  | 0 => b
  | j + 1 => mulF (famF b e st sg j) (e + j * st) sg
/-- by families (exponent, step, sign), each with c e st factors -/
def prF (c : Nat → Nat → Nat) (fs : List (Nat × Nat × Int)) : Nat → S
  | 0 => one
  | i + 1 => famF (prF c fs i) (fs.getD i (1, 1, 1)).1 (fs.getD i (1, 1, 1)).2.1 (fs.getD i (1, 1, 1)).2.2 (c (fs.getD i (1, 1, 1)).1 (fs.getD i (1, 1, 1)).2.1)
end Ps

set_option Elab.async false
set_option linter.all false
set_option maxRecDepth 100000
set_option maxHeartbeats 4000000
set_option pp.deepTerms false
set_option pp.maxSteps 3000
namespace Dr
open PySem PySem.Spec PyProof.Rows L2
abbrev FnP (K : PySem.W.Frag) (x : Str) (st : Stmt) (f : Addr) (fd : FuncData) : Prop := FunD K x x (defArgs st) (defBody st) (defScope st) [] [] f fd
/-! ### the draw: a dict of four entries, two lists -/
def kLarge : Key := Sum.inr "large"
def kCells : Key := Sum.inr "cells"
def kRest : Key := Sum.inr "rest"
def kTurn : Key := Sum.inr "turn"
def drK (l c : Addr) (r t : Int) : List (Key × V) := [(kLarge, .ref l), (kCells, .ref c), (kRest, .int r), (kTurn, .int t)]
theorem k12 : ¬ kLarge = kCells := by decide +kernel
theorem k13 : ¬ kLarge = kRest := by decide +kernel
theorem k14 : ¬ kLarge = kTurn := by decide +kernel
theorem k23 : ¬ kCells = kRest := by decide +kernel
theorem k24 : ¬ kCells = kTurn := by decide +kernel
theorem k34 : ¬ kRest = kTurn := by decide +kernel
section
variable {l c : Addr} {r t z : Int}
theorem get_large : valV (drK l c r t) kLarge = some (.ref l) := valV_pos rfl
theorem get_cells : valV (drK l c r t) kCells = some (.ref c) := (valV_neg k12).trans (valV_pos rfl)
theorem get_rest : valV (drK l c r t) kRest = some (.int r) := (valV_neg k13).trans ((valV_neg k23).trans (valV_pos rfl))
theorem get_turn : valV (drK l c r t) kTurn = some (.int t) := (valV_neg k14).trans ((valV_neg k24).trans ((valV_neg k34).trans (valV_pos rfl)))
theorem put_rest : putK (drK l c r t) kRest (.int z) = drK l c z t := by
  have h1 := k13
  have h2 := k23
  have h3 : ¬ kTurn = kRest := fun e => k34 e.symm
  simp [putK, drK, h1, h2, h3]
theorem put_turn : putK (drK l c r t) kTurn (.int z) = drK l c r z := by
  have h1 := k14
  have h2 := k24
  have h3 := k34
  simp [putK, drK, h1, h2, h3]
end
/-- the draw at d, its lists at l and c -/
structure DrawAt (H : Hp) (d l c : Addr) (ls cs : List Int) (r t : Int) : Prop where
  dd : H d = some (.dK (drK l c r t))
  dl : H l = some (.lst (ls.map V.int))
  dc : H c = some (.lst (cs.map V.int))
  lc : l ≠ c
/-- all but d and l stays -/
def SameX (d l : Addr) (H H' : Hp) : Prop := ∀ b o, H b = some o → b ≠ d → b ≠ l → H' b = some o
/-- a draw at d (its list at l): what the callers keep -/
def Draw (H : Hp) (d l c : Addr) : Prop := ∃ ls cs r t, DrawAt H d l c ls cs r t
theorem SameX.refl (d l : Addr) (H : Hp) : SameX d l H H := fun _ _ e _ _ => e
theorem SameX.trans {d l : Addr} {H H1 H2 : Hp} (a : SameX d l H H1) (b : SameX d l H1 H2) : SameX d l H H2 := fun c o e n1 n2 => b c o (a c o e n1 n2) n1 n2
theorem SameX.of {d l : Addr} {H H' : Hp} (a : Same H H') : SameX d l H H' := fun c o e _ _ => a c o e
theorem DrawAt.nl {H : Hp} {d l c : Addr} {ls cs : List Int} {r t : Int} (D : DrawAt H d l c ls cs r t) : d ≠ l := ne_of D.dd D.dl (fun z => by cases z)
theorem DrawAt.nc {H : Hp} {d l c : Addr} {ls cs : List Int} {r t : Int} (D : DrawAt H d l c ls cs r t) : d ≠ c := ne_of D.dd D.dc (fun z => by cases z)
theorem DrawAt.same {H H' : Hp} {d l c : Addr} {ls cs : List Int} {r t : Int} (D : DrawAt H d l c ls cs r t) (s : Same H H') : DrawAt H' d l c ls cs r t := ⟨s _ _ D.dd, s _ _ D.dl, s _ _ D.dc, D.lc⟩
theorem Draw.same {H H' : Hp} {d l c : Addr} (D : Draw H d l c) (s : Same H H') : Draw H' d l c := by
  obtain ⟨ls, cs, r, t, D⟩ := D
  exact ⟨ls, cs, r, t, D.same s⟩
theorem Draw.put {H : Hp} {d l c p : Addr} {o : HO} (D : Draw H d l c) (h1 : p ≠ d) (h2 : p ≠ l) (h3 : p ≠ c) : Draw (upd H p o) d l c := by
  obtain ⟨ls, cs, r, t, D⟩ := D
  exact ⟨ls, cs, r, t, by rw [upd_ne h1.symm]; exact D.dd, by rw [upd_ne h2.symm]; exact D.dl, by rw [upd_ne h3.symm]; exact D.dc, D.lc⟩
theorem Draw.ne {H : Hp} {d l c p : Addr} (D : Draw H d l c) (n : H p = none) : p ≠ d ∧ p ≠ l ∧ p ≠ c := by
  obtain ⟨ls, cs, r, t, D⟩ := D
  exact ⟨(ne_of_none D.dd n).symm, (ne_of_none D.dl n).symm, (ne_of_none D.dc n).symm⟩
theorem DrawAt.rest {H : Hp} {d l c : Addr} {ls cs : List Int} {r t : Int} (D : DrawAt H d l c ls cs r t) (z : Int) : DrawAt (upd H d (.dK (drK l c z t))) d l c ls cs z t :=
  ⟨upd_same, by rw [upd_ne D.nl.symm]; exact D.dl, by rw [upd_ne D.nc.symm]; exact D.dc, D.lc⟩
theorem DrawAt.turn {H : Hp} {d l c : Addr} {ls cs : List Int} {r t : Int} (D : DrawAt H d l c ls cs r t) (z : Int) : DrawAt (upd H d (.dK (drK l c r z))) d l c ls cs r z :=
  ⟨upd_same, by rw [upd_ne D.nl.symm]; exact D.dl, by rw [upd_ne D.nc.symm]; exact D.dc, D.lc⟩
theorem DrawAt.pop {H : Hp} {d l c : Addr} {ls ls' cs : List Int} {r t : Int} (D : DrawAt H d l c ls cs r t) : DrawAt (upd H l (.lst (ls'.map V.int))) d l c ls' cs r t :=
  ⟨by rw [upd_ne D.nl]; exact D.dd, upd_same, by rw [upd_ne D.lc.symm]; exact D.dc, D.lc⟩
theorem sameX_d {H : Hp} {d l : Addr} {o : HO} : SameX d l H (upd H d o) := fun b o e n1 n2 => by rw [upd_ne n1]; exact e
theorem sameX_l {H : Hp} {d l : Addr} {o : HO} : SameX d l H (upd H l o) := fun b o e n1 n2 => by rw [upd_ne n2]; exact e
theorem sameX_new {H : Hp} {d l p : Addr} {o : HO} (n : H p = none) : SameX d l H (upd H p o) := fun b o e n1 n2 => by rw [upd_ne (ne_of_none e n)]; exact e
theorem same_new {H : Hp} {p : Addr} {o : HO} (n : H p = none) : Same H (upd H p o) := fun b o e => by rw [upd_ne (ne_of_none e n)]; exact e
theorem int_at {ns : List Int} {i : Nat} {x : V} (h : (ns.map V.int)[i]? = some x) : ∃ z, ns[i]? = some z ∧ x = .int z := by
  rw [List.getElem?_map] at h
  cases e : ns[i]? with
  | none =>
    rw [e] at h
    cases h
  | some z =>
    rw [e] at h
    exact ⟨z, rfl, (Option.some.inj h).symm⟩
theorem merge_dr {l c : Addr} {r t : Int} : mergeK [] (drK l c r t) = drK l c r t := by
  have h1 := k12
  have h2 := k13
  have h3 := k14
  have h4 := k23
  have h5 := k24
  have h6 := k34
  simp [mergeK, putK, drK, h1, h2, h3, h4, h5, h6]
theorem yesT {s : L2.St} {H : Hp} {A B : Hp → Prop} (h : A H) : tYes s H (fun b H3 => if b = true then A H3 else B H3) := by
  show if true = true then A H else B H
  rw [if_pos rfl]
  exact h
/-! ### lists of ints as data -/
def intsD (ls : List Int) : List PyData := ls.map PyData.int
theorem ints_lay : ∀ ls : List Int, PyData.canLayAll0 (intsD ls) = true
  | [] => rfl
  | z :: r => by
    show (PyData.canLay0 (.int z) && PyData.canLayAll0 (intsD r)) = true
    rw [ints_lay r]
    rfl
theorem ints_depth : ∀ ls : List Int, PyData.depthAll (intsD ls) = 0
  | [] => rfl
  | z :: r => by
    show max (PyData.depth (.int z)) (PyData.depthAll (intsD r)) = 0
    rw [ints_depth r]
    rfl
theorem ints_shaped (ls : List Int) : SeqAt.shaped (.list (intsD ls)) = true := by
  show (PyData.canLayAll0 (intsD ls) && decide (PyData.depthAll (intsD ls) + 1 ≤ 64)) = true
  rw [ints_lay, ints_depth]
  rfl
theorem ints_dp {K : PySem.W.Frag} {H : Hp} : ∀ ls : List Int, DpAll K H (ls.map V.int) (intsD ls)
  | [] => .nil
  | z :: r => .cons (.int z) (ints_dp r)
def spBegun (K : PySem.W.Frag) : Sp := fun vs H Q _ => ∃ (a : Addr) (ns : List Int), vs = [.ref a] ∧ SqL K H a (ns.map V.int) ∧ ns.length ≤ 1000 ∧
  ∀ (d l c : Addr) (H' : Hp), H d = none → H l = none → H c = none → Same H H' → Draw H' d l c → Q (.ref d) H'
section
variable {H : Hp} {d l c : Addr} {ls cs : List Int} {r t : Int}
theorem DrawAt.gLarge (D : DrawAt H d l c ls cs r t) : DGet H d (.str "large") (some (.ref l)) := by
  have z := DGet.k (k := kLarge) D.dd
  rw [get_large] at z
  exact z
theorem DrawAt.gCells (D : DrawAt H d l c ls cs r t) : DGet H d (.str "cells") (some (.ref c)) := by
  have z := DGet.k (k := kCells) D.dd
  rw [get_cells] at z
  exact z
theorem DrawAt.gRest (D : DrawAt H d l c ls cs r t) : DGet H d (.str "rest") (some (.int r)) := by
  have z := DGet.k (k := kRest) D.dd
  rw [get_rest] at z
  exact z
theorem DrawAt.gTurn (D : DrawAt H d l c ls cs r t) : DGet H d (.str "turn") (some (.int t)) := by
  have z := DGet.k (k := kTurn) D.dd
  rw [get_turn] at z
  exact z
theorem DrawAt.pRest (D : DrawAt H d l c ls cs r t) (z : Int) : DPut H d (.str "rest") (.int z) (upd H d (.dK (drK l c z t))) := by
  have q := DPut.k (k := kRest) (v := .int z) D.dd (by show 4 < sizeLine; decide)
  rw [put_rest] at q
  exact q
theorem DrawAt.pTurn (D : DrawAt H d l c ls cs r t) (z : Int) : DPut H d (.str "turn") (.int z) (upd H d (.dK (drK l c r z))) := by
  have q := DPut.k (k := kTurn) (v := .int z) D.dd (by show 4 < sizeLine; decide)
  rw [put_turn] at q
  exact q
end
def spBlend : Sp := fun vs H Q _ => ∃ (d l c : Addr) (ls cs : List Int) (r t : Int), vs = [.ref d] ∧ DrawAt H d l c ls cs r t ∧
  ∀ (v t' : Int) (H' : Hp), DrawAt H' d l c ls cs r t' → SameX d l H H' → Q (.int v) H'
def spTake : Sp := fun vs H Q _ => ∃ (d l c : Addr) (n : Int), vs = [.ref d, .int n] ∧ Draw H d l c ∧ 0 < n ∧ n.natAbs.log2 < 9000 ∧
  ∀ (v : Int) (H' : Hp), 0 ≤ v → v < n → Draw H' d l c → SameX d l H H' → Q (.int v) H'
theorem pow_small {z q : Int} (h0 : 0 ≤ z) (h1 : z < q) (hq : q ≤ 2147483648) : CPow z 5 := ⟨by decide, by decide, by
  have e : (2 : Nat) ^ 64 = 18446744073709551616 := by decide
  omega⟩
theorem pop_ix (n : Nat) : seqIndex? 0 (n + 1) = some 0 := by
  unfold seqIndex?
  simp
def spPick (K : PySem.W.Frag) : Sp := fun vs H Q _ => ∃ (d l c a : Addr) (xs : List V), vs = [.ref d, .ref a] ∧ Draw H d l c ∧ (∀ H', SameX d l H H' → SqL K H' a xs) ∧ xs ≠ [] ∧ xs.length ≤ 1000 ∧
  ∀ (v : V) (H' : Hp), v ∈ xs → Draw H' d l c → SameX d l H H' → Q v H'
theorem log_small {n : Nat} (h : n ≤ 1000) : ((n : Int)).natAbs.log2 < 9000 := by
  have e : ((n : Int)).natAbs = n := by omega
  rw [e]
  by_cases z : n = 0
  · rw [z]
    decide
  · have k : n.log2 < 10 := (Nat.log2_lt z).mpr (by omega)
    omega
end Dr

set_option Elab.async false
set_option linter.all false
set_option maxRecDepth 100000
set_option maxHeartbeats 4000000
set_option pp.maxSteps 3000
set_option exponentiation.threshold 500000
namespace Xv
open PySem PySem.Spec PyProof.Rows L2
/-- // by any divisor but 0 below 2 ^ 9000 -/
def CDivB (_ j : Int) : Prop := j ≠ 0 ∧ j.natAbs.log2 < 9000
theorem op_fdivB {X : Cx} : OpR X (binaryOp .FloorDiv) (rI CDivB fun i j => .int (i.fdiv j)) := opI fun i j _ _ _ _ _ hc q => floordiv_int hc.1 q (.inl (PyProof.noPylong_of_log2 hc.2))
end Xv
namespace Gn
open PySem PySem.Spec PyProof.Rows L2 Dr Xv LamX Ps
def qL : Str := "law.<locals>.<lambda>"
/-- an error class of the program's own -/
structure ErrT (K : PySem.W.Frag) (C S : Addr) : Prop where
  x : PySem.W.excIn K C [.type "ValueError", .type "Exception", .type "BaseException", .type "object"] "ValueError.__new__" = true
  k : PySem.W.keepIn K (.ref C) = true
  b : PySem.W.subIn K (.ref C) (.type "BaseException") = some true
  t : PySem.W.typeIn K (.ref C) = some (.type "type")
  m : PySem.W.exmOne K (.ref C) (.ref S) = some true
  e : ExcC K C
  i : PySem.W.kitOne K (.ref C) (.ref C) = some true
def rowOf (n : Nat) (b : S) : List V := ((List.range n).map b).map V.int
inductive PV (H : Hp) : V → Prop
  | non : PV H .non
  | bl (b : Bool) : PV H (.bl b)
  | int (i : Int) : PV H (.int i)
  | str (x : Str) : PV H (.str x)
  | lst {a : Addr} {xs : List V} : H a = some (.lst xs) → PV H (.ref a)
  | tup {a : Addr} {xs : List V} : H a = some (.tup xs) → PV H (.ref a)
  | dK {a : Addr} {kvs : List (Key × V)} : H a = some (.dK kvs) → PV H (.ref a)
theorem PV.same {H H' : Hp} {x : V} (h : PV H x) (s : Same H H') : PV H' x := by
  cases h with
  | non => exact .non
  | bl b => exact .bl b
  | int i => exact .int i
  | str x => exact .str x
  | lst e => exact .lst (s _ _ e)
  | tup e => exact .tup (s _ _ e)
  | dK e => exact .dK (s _ _ e)
def isNum : V → Bool
  | .int _ => true
  | _ => false
def kInt : V → Bool
  | .int _ => true
  | .bl _ => true
  | _ => false
def kBool : V → Bool
  | .bl _ => true
  | _ => false
theorem PV.ty {K : PySem.W.Frag} {H : Hp} {x : V} (h : PV H x) : ∃ t, TyX K H x t ∧ PySem.W.kitOne K t (.type "int") = some (kInt x) ∧ PySem.W.kitOne K t (.type "bool") = some (kBool x) := by
  cases h with
  | non => exact ⟨_, .base .non, kit_ty (r := false) (by decide +kernel), kit_ty (r := false) (by decide +kernel)⟩
  | bl b => exact ⟨_, .base (.bl b), kit_ty (r := true) (by decide +kernel), kit_ty (r := true) (by decide +kernel)⟩
  | int i => exact ⟨_, .base (.int i), kit_ty (r := true) (by decide +kernel), kit_ty (r := false) (by decide +kernel)⟩
  | str x => exact ⟨_, .base (.str x), kit_ty (r := false) (by decide +kernel), kit_ty (r := false) (by decide +kernel)⟩
  | lst e => exact ⟨_, .base (.lst e), kit_ty (r := false) (by decide +kernel), kit_ty (r := false) (by decide +kernel)⟩
  | tup e => exact ⟨_, .base (.tup e), kit_ty (r := false) (by decide +kernel), kit_ty (r := false) (by decide +kernel)⟩
  | dK e => exact ⟨_, .base (.dK e), kit_ty (r := false) (by decide +kernel), kit_ty (r := false) (by decide +kernel)⟩
theorem kInt_num (x : V) : (kInt x && !kBool x) = isNum x := by
  cases x <;> rfl
def within (x : V) (lo hi : Int) : Bool := match x with
  | .int i => decide (lo ≤ i) && decide (i ≤ hi)
  | _ => false
inductive Items (H : Hp) : V → Option (List V) → Prop
  | non : Items H .non none
  | bl (b : Bool) : Items H (.bl b) none
  | int (i : Int) : Items H (.int i) none
  | str (x : Str) : Items H (.str x) none
  | lst {a : Addr} {xs : List V} : H a = some (.lst xs) → Items H (.ref a) (some xs)
  | tup {a : Addr} {xs : List V} : H a = some (.tup xs) → Items H (.ref a) (some xs)
  | dK {a : Addr} {kvs : List (Key × V)} : H a = some (.dK kvs) → Items H (.ref a) none
theorem Items.same {H H' : Hp} {x : V} {o : Option (List V)} (h : Items H x o) (s : Same H H') : Items H' x o := by
  cases h with
  | non => exact .non
  | bl b => exact .bl b
  | int i => exact .int i
  | str x => exact .str x
  | lst e => exact .lst (s _ _ e)
  | tup e => exact .tup (s _ _ e)
  | dK e => exact .dK (s _ _ e)
theorem Items.pv {H : Hp} {x : V} {o : Option (List V)} (h : Items H x o) : PV H x := by
  cases h with
  | non => exact .non
  | bl b => exact .bl b
  | int i => exact .int i
  | str x => exact .str x
  | lst e => exact .lst e
  | tup e => exact .tup e
  | dK e => exact .dK e
def AllPV (H : Hp) (o : Option (List V)) : Prop := ∀ xs, o = some xs → ∀ v ∈ xs, PV H v
theorem AllPV.same {H H' : Hp} {o : Option (List V)} (h : AllPV H o) (s : Same H H') : AllPV H' o := fun xs e v hv => (h xs e v hv).same s
theorem take_snoc {α β : Type} {f : α → β} {xs : List α} {i : Nat} {x : α} (h : xs[i]? = some x) : (xs.take i).map f ++ [f x] = (xs.take (i + 1)).map f := by
  obtain ⟨hi, e⟩ := List.getElem?_eq_some_iff.mp h
  rw [List.take_succ, h]
  simp
theorem take_len {α β : Type} {f : α → β} {xs : List α} {i : Nat} : ((xs.take i).map f).length ≤ xs.length := by
  rw [List.length_map, List.length_take]
  omega
def itemsOk (x : Option (List V)) : Bool := match x with
  | some xs => xs.all isNum
  | none => false
def short (o : Option (List V)) : Prop := ∀ xs, o = some xs → xs.length < sizeLine
theorem isi_seq {K : PySem.W.Frag} {H : Hp} {x : V} {o : Option (List V)} (h : Items H x o) : ∃ t, TyX K H x t ∧ PySem.W.kitAny K t [.type "list", .type "tuple"] = some o.isSome := by
  cases h with
  | non => exact ⟨_, .base .non, kitAny_cons (b := false) (kit_ty (by decide +kernel)) (fun _ => kitAny_cons (b := false) (kit_ty (by decide +kernel)) (fun _ => rfl) (fun z => nomatch z)) (fun z => nomatch z)⟩
  | bl b => exact ⟨_, .base (.bl b), kitAny_cons (b := false) (kit_ty (by decide +kernel)) (fun _ => kitAny_cons (b := false) (kit_ty (by decide +kernel)) (fun _ => rfl) (fun z => nomatch z)) (fun z => nomatch z)⟩
  | int i => exact ⟨_, .base (.int i), kitAny_cons (b := false) (kit_ty (by decide +kernel)) (fun _ => kitAny_cons (b := false) (kit_ty (by decide +kernel)) (fun _ => rfl) (fun z => nomatch z)) (fun z => nomatch z)⟩
  | str x => exact ⟨_, .base (.str x), kitAny_cons (b := false) (kit_ty (by decide +kernel)) (fun _ => kitAny_cons (b := false) (kit_ty (by decide +kernel)) (fun _ => rfl) (fun z => nomatch z)) (fun z => nomatch z)⟩
  | lst e => exact ⟨_, .base (.lst e), kitAny_cons (b := true) (kit_ty (by decide +kernel)) (fun z => nomatch z) (fun _ => rfl)⟩
  | tup e => exact ⟨_, .base (.tup e), kitAny_cons (b := false) (kit_ty (by decide +kernel)) (fun _ => kitAny_cons (b := true) (kit_ty (by decide +kernel)) (fun z => nomatch z) (fun _ => rfl)) (fun z => nomatch z)⟩
  | dK e => exact ⟨_, .base (.dK e), kitAny_cons (b := false) (kit_ty (by decide +kernel)) (fun _ => kitAny_cons (b := false) (kit_ty (by decide +kernel)) (fun _ => rfl) (fun z => nomatch z)) (fun z => nomatch z)⟩
def isRow (o : Option (List V)) : Bool := match o with
  | some xs => xs.all isNum && (decide (1 ≤ (xs.length : Int)) && decide ((xs.length : Int) ≤ 3001))
  | none => false
def fnL (ns : List Int) : S := fun i => ns.getD i 0
def tms (f : S) (N : Nat) : List Nat := (List.range N).filter fun i => decide (0 < i) && decide (f i ≠ 0)
theorem tms_succ (f : S) (N : Nat) : tms f (N + 1) = tms f N ++ (if 0 < N ∧ f N ≠ 0 then [N] else []) := by
  unfold tms
  rw [List.range_succ, List.filter_append]
  congr 1
  by_cases h : 0 < N ∧ f N ≠ 0
  · rw [if_pos h, List.filter_cons_of_pos (by simp [h.1, h.2])]
    rfl
  · rw [if_neg h, List.filter_cons_of_neg (by
      simp only [Bool.and_eq_true, decide_eq_true_eq]
      exact h)]
    rfl
theorem tms_lt {f : S} {N i : Nat} (h : i ∈ tms f N) : i < N ∧ 0 < i := by
  unfold tms at h
  rw [List.mem_filter, List.mem_range] at h
  simp only [Bool.and_eq_true, decide_eq_true_eq] at h
  exact ⟨h.1, h.2.1⟩
theorem tms_split (f : S) (n : Nat) : ∀ k, ∃ r, tms f (n + 1 + k) = tms f (n + 1) ++ r ∧ ∀ i ∈ r, n < i
  | 0 => ⟨[], (List.append_nil _).symm, fun i h => by cases h⟩
  | k + 1 => by
    obtain ⟨r, e, h⟩ := tms_split f n k
    refine ⟨r ++ (if 0 < n + 1 + k ∧ f (n + 1 + k) ≠ 0 then [n + 1 + k] else []), ?_, fun i hi => ?_⟩
    · show tms f (n + 1 + k + 1) = _
      rw [tms_succ, e, List.append_assoc]
    · rcases List.mem_append.mp hi with z | z
      · exact h i z
      · split at z
        · rw [List.mem_singleton.mp z]
          omega
        · cases z
theorem tms_sum (f g : S) (hg : ∀ i, f i = 0 → g i = 0) : ∀ n, ((tms f (n + 1)).map g).sum = sm (fun i => g (i + 1)) n
  | 0 => by
    rw [tms_succ]
    show (List.map g ([] ++ _)).sum = 0
    rw [if_neg (by omega)]
    rfl
  | n + 1 => by
    rw [tms_succ, List.map_append, List.sum_append, tms_sum f g hg n]
    show _ = sm (fun i => g (i + 1)) n + g (n + 1)
    congr 1
    by_cases h : f (n + 1) ≠ 0
    · rw [if_pos ⟨by omega, h⟩]
      show g (n + 1) + 0 = _
      omega
    · rw [if_neg (fun z => h z.2), hg (n + 1) (by simpa using h)]
      rfl
theorem take_sum {g : S} {l : List Nat} {j x : Nat} (h : l[j]? = some x) : ((l.take (j + 1)).map g).sum = ((l.take j).map g).sum + g x := by
  rw [List.take_succ, h]
  show ((l.take j ++ [x]).map g).sum = _
  rw [List.map_append, List.sum_append]
  show _ + (g x + 0) = _
  omega
theorem cut_at {A r : List Nat} {N m i : Nat} (hA : ∀ x ∈ A, x ≤ N) (hr : ∀ x ∈ r, N < x) (h : (A ++ r)[m]? = some i) (hi : N < i) (hle : ∀ x ∈ (A ++ r).take m, x ≤ N) : (A ++ r).take m = A := by
  have hm := (List.getElem?_eq_some_iff.mp h).1
  rw [List.length_append] at hm
  have l1 : A.length ≤ m := by
    refine Nat.le_of_not_lt fun hlt => ?_
    rw [List.getElem?_append_left hlt] at h
    have := hA i (List.mem_of_getElem? h)
    omega
  have l2 : m ≤ A.length := by
    refine Nat.le_of_not_lt fun hlt => ?_
    have h0 : 0 < r.length := by omega
    have e : ((A ++ r).take m)[A.length]? = some r[0] := by
      rw [List.getElem?_take, if_pos hlt, List.getElem?_append_right (Nat.le_refl _), Nat.sub_self]
      simp [h0]
    have h1 := hle _ (List.mem_of_getElem? e)
    have h2 := hr r[0] (List.getElem_mem h0)
    omega
  have e : m = A.length := by omega
  rw [e, List.take_left]
theorem cut_end {A r : List Nat} {N : Nat} (hr : ∀ x ∈ r, N < x) (hle : ∀ x ∈ (A ++ r).take (A ++ r).length, x ≤ N) : A ++ r = A := by
  rw [List.take_length] at hle
  cases r with
  | nil => exact List.append_nil _
  | cons x s =>
    have h1 := hle x (by simp)
    have h2 := hr x (by simp)
    omega
theorem iteF' {b : Bool} {A B : Prop} (h : b = false) (q : B) : if b = true then A else B := by
  rw [h]
  exact iteF q
theorem iteT' {b : Bool} {A B : Prop} (h : b = true) (q : A) : if b = true then A else B := by
  rw [h]
  exact iteT q
theorem inV_pm (z : Int) : inV (.int z) [.int 1, .int (-1)] = decide (z = 1 ∨ z = -1) := by
  have e : inV (.int z) [.int 1, .int (-1)] = ((1 == z) || ((-1 == z) || false)) := by
    first
      | rfl
      | (simp [inV, eqV])
  rw [e]
  by_cases h1 : z = 1
  · subst h1
    rfl
  · by_cases h2 : z = -1
    · subst h2
      rfl
    · have e1 : (1 == z) = false := by simpa using fun h => h1 h.symm
      have e2 : (-1 == z) = false := by simpa using fun h => h2 h.symm
      rw [e1, e2, decide_eq_false (fun h => h.elim h1 h2)]
      rfl
theorem items_ref {H : Hp} {x : V} {xs : List V} (h : Items H x (some xs)) : ∃ a, x = .ref a ∧ (H a = some (.lst xs) ∨ H a = some (.tup xs)) := by
  cases h with
  | lst e => exact ⟨_, rfl, .inl e⟩
  | tup e => exact ⟨_, rfl, .inr e⟩
theorem hat {ns : List Int} {i : Nat} (hi : i < ns.length) : (ns.map V.int)[i]? = some (.int (fnL ns i)) := by
  rw [List.getElem?_map]
  unfold fnL
  rw [List.getD_eq_getElem?_getD]
  simp [hi]
theorem nums_of : ∀ {xs : List V}, xs.all isNum = true → ∃ ns : List Int, xs = ns.map V.int
  | [], _ => ⟨[], rfl⟩
  | x :: r, h => by
    rw [List.all_cons, Bool.and_eq_true] at h
    obtain ⟨ns, rfl⟩ := nums_of h.2
    cases x with
    | int z => exact ⟨z :: ns, rfl⟩
    | _ => cases h.1
theorem isRow_ints {o : Option (List V)} (h : isRow o = true) : ∃ ns : List Int, o = some (ns.map V.int) ∧ 1 ≤ ns.length ∧ ns.length ≤ 3001 := by
  cases o with
  | none => cases h
  | some xs =>
    have e1 : (xs.all isNum && (decide (1 ≤ (xs.length : Int)) && decide ((xs.length : Int) ≤ 3001))) = true := h
    simp only [Bool.and_eq_true, decide_eq_true_eq] at e1
    obtain ⟨ns, rfl⟩ := nums_of e1.1
    rw [List.length_map] at e1
    exact ⟨ns, rfl, by omega, by omega⟩
theorem within_int {m : V} {lo hi : Int} (h : within m lo hi = true) : ∃ i, m = .int i ∧ lo ≤ i ∧ i ≤ hi := by
  cases m with
  | int i =>
    have e : (decide (lo ≤ i) && decide (i ≤ hi)) = true := h
    simp only [Bool.and_eq_true, decide_eq_true_eq] at e
    exact ⟨i, rfl, e.1, e.2⟩
  | _ => cases h
theorem fnL_out {ns : List Int} {i : Nat} (h : ns.length ≤ i) : fnL ns i = 0 := by
  unfold fnL
  rw [List.getD_eq_getElem?_getD, List.getElem?_eq_none h]
  rfl
theorem tn {σ : L2.St} {H : Hp} {Q : List V → Hp → Prop} (h : Q [] H) : tNil σ H Q := h
theorem tn0 {v : V} {σ : L2.St} {H : Hp} {Q : List V → Hp → Prop} (h : Q [v] H) : tCons (tC v) tNil σ H Q := h
def zer (n : Nat) : List V := List.replicate n (.int 0)
theorem rep1 {x : V} : ∀ n : Nat, (List.replicate n [x]).flatten = List.replicate n x
  | 0 => rfl
  | n + 1 => by
    rw [List.replicate_succ, List.flatten_cons, rep1 n, List.replicate_succ]
    rfl
theorem row_ext {n : Nat} {b b' : S} (h : ∀ i, i < n → b i = b' i) : rowOf n b = rowOf n b' := by
  unfold rowOf
  congr 1
  exact List.map_congr_left fun i hi => h i (List.mem_range.mp hi)
theorem row_zero {n : Nat} {b : S} (h : ∀ i, i < n → b i = 0) : rowOf n b = zer n := by
  unfold rowOf zer
  refine List.eq_replicate_iff.mpr ⟨by simp, fun v hv => ?_⟩
  obtain ⟨z, hz, rfl⟩ := List.mem_map.mp hv
  obtain ⟨i, hi, rfl⟩ := List.mem_map.mp hz
  rw [h i (List.mem_range.mp hi)]
theorem row_one {n : Nat} (h : 1 ≤ n) : rowOf n one = .int 1 :: zer (n - 1) := by
  obtain ⟨m, rfl⟩ : ∃ m, n = m + 1 := ⟨n - 1, by omega⟩
  unfold rowOf
  rw [List.range_succ_eq_map, List.map_cons, List.map_cons]
  congr 1
  show List.map V.int (List.map one (List.map Nat.succ (List.range m))) = zer (m + 1 - 1)
  refine List.eq_replicate_iff.mpr ⟨by simp, fun v hv => ?_⟩
  obtain ⟨z, hz, rfl⟩ := List.mem_map.mp hv
  obtain ⟨i, hi, rfl⟩ := List.mem_map.mp hz
  obtain ⟨j, _, rfl⟩ := List.mem_map.mp hi
  rfl
theorem row_split {z n : Nat} {b c : S} (h0 : ∀ i, i < z → b i = 0) (h1 : ∀ i, i < n → b (z + i) = c i) : rowOf (z + n) b = zer z ++ rowOf n c := by
  unfold rowOf
  rw [List.range_add, List.map_append, List.map_append]
  congr 1
  · exact row_zero h0
  · refine congrArg (List.map V.int) ?_
    rw [List.map_map]
    exact List.map_congr_left fun i hi => h1 i (List.mem_range.mp hi)
theorem fnL_drop (ns : List Int) (z i : Nat) : fnL (ns.drop z) i = fnL ns (z + i) := by
  unfold fnL
  rw [List.getD_eq_getElem?_getD, List.getD_eq_getElem?_getD, List.getElem?_drop]
theorem fnL_take {ns : List Int} {m i : Nat} (h : i < m) : fnL (ns.take m) i = fnL ns i := by
  unfold fnL
  rw [List.getD_eq_getElem?_getD, List.getD_eq_getElem?_getD, List.getElem?_take, if_pos h]
theorem fnL_sh {ns : List Int} {z : Nat} (h : ∀ i, i < z → fnL ns i = 0) : fnL ns = sh z (fnL (ns.drop z)) := by
  funext i
  unfold sh
  by_cases c : i < z
  · rw [if_pos c, h i c]
  · rw [if_neg c, fnL_drop]
    congr 1
    omega
theorem cut_mid {ns : List Int} {i j : Nat} (h1 : i ≤ ns.length) (h2 : j ≤ ns.length) : cutV (ns.map V.int) (some (i : Int)) (some (j : Int)) = ((ns.drop i).take (j - i)).map V.int := by
  have hi : HT.sIx (ns.map V.int).length 0 (some (i : Int)) = i := by
    rw [List.length_map, HT.sIx_nat]
    omega
  have hj : HT.sIx (ns.map V.int).length (ns.map V.int).length (some (j : Int)) = j := by
    rw [List.length_map, HT.sIx_nat]
    omega
  unfold cutV
  rw [hi, hj, List.map_take, List.map_drop]
theorem blkOk_loc {N : List Str} {sc scope : Scope} {own : List (Str × Nat)} (h : blkC N scope scope own = true) (hf : (scope.names.all fun y => !decide (y.2 = NameKind.free)) = true) : BlkOk N sc scope own := by
  have b := blkOk_by h
  refine ⟨b.kind, b.uniq, b.ix, fun y hy e => ?_, b.own⟩
  have z := List.all_eq_true.mp hf y hy
  rw [decide_eq_true e] at z
  cases z
theorem row_get {n i : Nat} {b : S} (h : i < n) : (rowOf n b)[i]? = some (.int (b i)) := by
  unfold rowOf
  rw [List.getElem?_map, List.getElem?_map, List.getElem?_range h]
  rfl
theorem row_len {n : Nat} {b : S} : (rowOf n b).length = n := by
  unfold rowOf
  rw [List.length_map, List.length_map, List.length_range]
theorem row_succ {n : Nat} {b : S} : rowOf (n + 1) b = rowOf n b ++ [.int (b n)] := by
  unfold rowOf
  rw [List.range_succ, List.map_append, List.map_append]
  rfl
theorem row_self (ns : List Int) : rowOf ns.length (fnL ns) = ns.map V.int := by
  unfold rowOf
  congr 1
  refine List.ext_getElem (by simp) fun i h1 h2 => ?_
  simp at h1
  simp [fnL, h1]
theorem sum_sm (h : S) : ∀ n, ((List.range n).map h).sum = sm h n
  | 0 => rfl
  | n + 1 => by
    rw [List.range_succ, List.map_append, List.sum_append, sum_sm h n]
    show sm h n + (h n + 0) = sm h n + h n
    omega
theorem back_get {ms : List Int} {m i j : Nat} (hm : m ≤ ms.length) (hi : i < m) (hj : j ≤ i) : ((((ms.take m).reverse).drop (m - 1 - i)).map V.int)[j]? = some (.int (fnL ms (i - j))) := by
  have hl : (ms.take m).length = m := by
    rw [List.length_take]
    omega
  rw [List.getElem?_map, List.getElem?_drop, List.getElem?_reverse (by rw [hl]; omega), hl, List.getElem?_take, if_pos (by omega)]
  have e : m - 1 - (m - 1 - i + j) = i - j := by omega
  rw [e]
  unfold fnL
  rw [List.getD_eq_getElem?_getD]
  have h2 : i - j < ms.length := by omega
  simp [h2]
theorem back_len {ms : List Int} {m i : Nat} (hm : m ≤ ms.length) (hi : i < m) : ((((ms.take m).reverse).drop (m - 1 - i)).map V.int).length = i + 1 := by
  rw [List.length_map, List.length_drop, List.length_reverse, List.length_take]
  omega
theorem cut_head {ns : List Int} {m : Nat} (h : m ≤ ns.length) : cutV (ns.map V.int) none (some (m : Int)) = (ns.take m).map V.int := by
  unfold cutV
  rw [HT.sIx_none, HT.sIx_nat, List.length_map, Nat.sub_zero, List.drop_zero, Nat.min_eq_left h, List.map_take]
theorem cut_tail {ns : List Int} {i : Nat} : cutV (ns.map V.int) (some (i : Int)) none = (ns.drop i).map V.int := by
  unfold cutV
  rw [HT.sIx_none, HT.sIx_nat, List.length_map, List.map_drop]
  by_cases h : i ≤ ns.length
  · rw [Nat.min_eq_left h]
    refine List.take_of_length_le ?_
    rw [List.length_drop, List.length_map]
    omega
  · rw [Nat.min_eq_right (by omega), List.drop_eq_nil_of_le (by rw [List.length_map]; exact Nat.le_refl _), List.drop_eq_nil_of_le (by rw [List.length_map]; omega)]
    exact List.take_nil
def accS (f g : S) (i : Nat) : S := fun n => sm (fun k => if k ≤ n then f k * g (n - k) else 0) i
theorem acc_step {f g : S} {i n : Nat} : accS f g (i + 1) n = accS f g i n + (if i ≤ n then f i * g (n - i) else 0) := rfl
theorem acc_end {f g : S} {N n : Nat} (h : n < N) : accS f g N n = cv f g n := by
  unfold accS cv
  have e : N = (n + 1) + (N - (n + 1)) := by omega
  rw [e, sm_split]
  have e2 : sm (fun i => if n + 1 + i ≤ n then f (n + 1 + i) * g (n - (n + 1 + i)) else 0) (N - (n + 1)) = 0 := by
    refine Eq.trans (sm_congr _ fun i _ => ?_) (sm_zero _)
    rw [if_neg (by omega)]
  rw [e2, Int.add_zero]
  exact sm_congr _ fun i hi => by rw [if_pos (by omega)]
theorem row_set {N m : Nat} {b c : S} {z : Int} (hm : m < N) (h1 : c m = z) (h2 : ∀ i, i < N → i ≠ m → c i = b i) : (rowOf N b).set m (.int z) = rowOf N c := by
  refine List.ext_getElem? fun i => ?_
  rw [List.getElem?_set]
  by_cases e : m = i
  · subst e
    rw [if_pos rfl, if_pos (by rw [row_len]; exact hm), row_get hm, h1]
  · rw [if_neg e]
    by_cases hi : i < N
    · rw [row_get hi, row_get hi, h2 i hi (fun h => e h.symm)]
    · rw [List.getElem?_eq_none (by rw [row_len]; omega), List.getElem?_eq_none (by rw [row_len]; omega)]
theorem fnL_row {n : Nat} {b : S} {i : Nat} : fnL ((List.range n).map b) i = if i < n then b i else 0 := by
  unfold fnL
  rw [List.getD_eq_getElem?_getD, List.getElem?_map]
  by_cases h : i < n
  · rw [List.getElem?_range h, if_pos h]
    rfl
  · rw [List.getElem?_eq_none (by rw [List.length_range]; omega), if_neg h]
    rfl
theorem freeX {H H1 : Hp} {d l D : Addr} (s : SameX d l H H1) (n : H1 D = none) (nd : D ≠ d) (nl : D ≠ l) : H D = none := by
  cases e : H D with
  | none => rfl
  | some o =>
    rw [s _ _ e nd nl] at n
    cases n
def gR {α : Type} (us ws : List α) : List α := match us with
  | [] => ws.reverse
  | _ => []
theorem kbR {K : PySem.W.Frag} {x qual : Str} {params : Arguments} {body : List Stmt} {scope : Scope} {kws : List (Str × V)} {f : Addr} {fd : FuncData} {ps : List Str} (F : FunD K x qual params body scope [] kws f fd) (hps : ps ≠ [])
    (h : ∀ (kV doc pm : Value) (an : Option Addr) (cdv ct : Value) (ws : List Value), ws.length = ps.length → bindArgs (PySem.W.fnOf x qual params body scope .none kV doc pm an cdv ct) ⟨[], ps.reverse.zip ws⟩ = pure (ps.zip ws.reverse)) : KBinds K fd ps ps.reverse gR gR := by
  obtain ⟨oc, od, dV, kV, doc, pm, an, cdv, ct, osl, rfl, lk, hcd, hD, hK⟩ := F.ex
  refine ⟨fun s us ws hK' hl => ?_, fun {vs us zs ws} r1 r2 => ?_⟩
  · cases us with
    | cons u r =>
      exact absurd (List.length_eq_zero_iff.mp hl.symm) hps
    | nil =>
      rcases hD with ⟨_, rfl⟩ | ⟨e, _⟩
      · refine BindsTo.of_eq (h kV doc pm an cdv ct ws ?_)
        rw [← hl]
        exact (List.length_reverse).symm
      · exact absurd rfl e
  · cases r1 with
    | nil => exact r2.reverse
    | cons _ _ => exact .nil
def noArgs : Arguments := { posonlyargs := [], args := [], vararg := none, kwonlyargs := [], kw_defaults := [], kwarg := none, defaults := [] }
structure Own (H : Hp) (d l p : Addr) (xs : List V) : Prop where
  at_ : H p = some (.lst xs)
  nd : p ≠ d
  nl : p ≠ l
structure Wd (Pt : Addr) (H : Hp) (d l c : Addr) : Prop where
  dr : Draw H d l c
  tb : Tabs [(Pt, qL)] H
variable {H H' : Hp} {d l c p Pt : Addr} {xs : List V} {o : HO}
theorem Own.same (h : Own H d l p xs) (s : Same H H') : Own H' d l p xs := ⟨s _ _ h.at_, h.nd, h.nl⟩
theorem Own.sx (h : Own H d l p xs) (s : SameX d l H H') : Own H' d l p xs := ⟨s _ _ h.at_ h.nd h.nl, h.nd, h.nl⟩
theorem Own.ext (h : Own H d l p xs) (s : ExtN H H') : Own H' d l p xs := ⟨s _ _ h.at_ (fun ps z => by cases z), h.nd, h.nl⟩
theorem Own.new (D : Draw H d l c) (n : H p = none) : Own (upd H p (.lst xs)) d l p xs := ⟨upd_same, (D.ne n).1, (D.ne n).2.1⟩
theorem Wd.same (W : Wd Pt H d l c) (s : Same H H') : Wd Pt H' d l c := ⟨W.dr.same s, W.tb.ext s⟩
theorem Wd.sx (W : Wd Pt H d l c) (s : SameX d l H H') (D : Draw H' d l c) : Wd Pt H' d l c := by
  refine ⟨D, fun p hp => ?_⟩
  obtain ⟨ls, cs, r, t, D0⟩ := W.dr
  obtain ⟨ps, h1, h2, h3⟩ := W.tb p hp
  refine ⟨ps, s _ _ h1 (ne_of h1 D0.dd (fun z => by cases z)) (ne_of h1 D0.dl (fun z => by cases z)), h2, fun pos cv hc => ?_⟩
  obtain ⟨k, e1, e2⟩ := h3 pos cv hc
  refine ⟨k, e1, s _ _ e2 (ne_of e2 D0.dd (fun z => ?_)) (ne_of e2 D0.dl (fun z => ?_))⟩
  · unfold CodeO at z
    cases z
  · unfold CodeO at z
    cases z
theorem Draw.ext (D : Draw H d l c) (s : ExtN H H') : Draw H' d l c := by
  obtain ⟨ls, cs, r, t, D0⟩ := D
  exact ⟨ls, cs, r, t, s _ _ D0.dd (fun ps z => by cases z), s _ _ D0.dl (fun ps z => by cases z), s _ _ D0.dc (fun ps z => by cases z), D0.lc⟩
theorem Wd.upd {Pt d l c D' : Addr} {xs ys : List V} (W : Wd Pt H d l c) (h : H D' = some (.lst xs)) (n1 : D' ≠ d) (n2 : D' ≠ l) (n3 : D' ≠ c) : Wd Pt (upd H D' (.lst ys)) d l c := by
  refine ⟨W.dr.put n1 n2 n3, fun p hp => ?_⟩
  obtain ⟨ps, h1, h2, h3⟩ := W.tb p hp
  refine ⟨ps, by rw [upd_ne (ne_of h1 h (fun z => by cases z))]; exact h1, h2, fun pos cv hc => ?_⟩
  obtain ⟨k, e1, e2⟩ := h3 pos cv hc
  have nk : k ≠ D' := ne_of e2 h (fun z => by
    unfold CodeO at z
    cases z)
  exact ⟨k, e1, by rw [upd_ne nk]; exact e2⟩
theorem Own.upd {d l p D' : Addr} {xs : List V} {o : HO} (O : Own H d l p xs) (h : p ≠ D') : Own (upd H D' o) d l p xs := ⟨by rw [upd_ne h]; exact O.at_, O.nd, O.nl⟩
theorem eq_no (ls : List Int) : (!PyData.eqv (.list (intsD ls)) (.list (intsD ls))) = false := by
  have e := SeqAt.eqv_refl (.list (intsD ls)) (show PyData.canLay0 (.list (intsD ls)) = true from ints_lay ls)
  rw [e]
  rfl
structure OwnO (H : Hp) (d l p : Addr) (o : HO) : Prop where
  at_ : H p = some o
  nd : p ≠ d
  nl : p ≠ l
  nt : ∀ ps, o ≠ .tbl ps
theorem OwnO.same (h : OwnO H d l p o) (s : Same H H') : OwnO H' d l p o := ⟨s _ _ h.at_, h.nd, h.nl, h.nt⟩
theorem OwnO.sx (h : OwnO H d l p o) (s : SameX d l H H') : OwnO H' d l p o := ⟨s _ _ h.at_ h.nd h.nl, h.nd, h.nl, h.nt⟩
theorem OwnO.ext (h : OwnO H d l p o) (s : ExtN H H') : OwnO H' d l p o := ⟨s _ _ h.at_ h.nt, h.nd, h.nl, h.nt⟩
theorem OwnO.new (D : Draw H d l c) (n : H p = none) (nt : ∀ ps, o ≠ .tbl ps) : OwnO (upd H p o) d l p o := ⟨upd_same, (D.ne n).1, (D.ne n).2.1, nt⟩
theorem OwnO.upd {D' : Addr} {o' : HO} (O : OwnO H d l p o) (h : p ≠ D') : OwnO (upd H D' o') d l p o := ⟨by rw [upd_ne h]; exact O.at_, O.nd, O.nl, O.nt⟩
theorem all_num (ns : List Int) : (ns.map V.int).all isNum = true := by
  rw [List.all_map]
  exact List.all_eq_true.mpr fun _ _ => rfl
theorem row_ints {ns : List Int} (h1 : 1 ≤ ns.length) (h2 : ns.length ≤ 3001) : isRow (some (ns.map V.int)) = true := by
  show ((ns.map V.int).all isNum && (decide (1 ≤ ((ns.map V.int).length : Int)) && decide (((ns.map V.int).length : Int) ≤ 3001))) = true
  rw [all_num, List.length_map, decide_eq_true (by omega : 1 ≤ (ns.length : Int)), decide_eq_true (by omega : (ns.length : Int) ≤ 3001)]
  rfl
theorem pv_ints {H : Hp} (ns : List Int) : AllPV H (some (ns.map V.int)) := by
  intro xs e v hv
  cases e
  obtain ⟨z, _, rfl⟩ := List.mem_map.mp hv
  exact .int z
theorem short_ints {ns : List Int} (h2 : ns.length ≤ 3001) : short (some (ns.map V.int)) := by
  intro xs e
  cases e
  rw [List.length_map, sizeLine_eq]
  omega
def Bd (ns : List Int) : Prop := ∀ i, (fnL ns i).natAbs < 2 ^ 90
theorem Bd.to {ns : List Int} (h : Bd ns) {k : Nat} (hk : 90 ≤ k) : ∀ i, (fnL ns i).natAbs < 2 ^ k := fun i => Nat.lt_of_lt_of_le (h i) (Nat.pow_le_pow_right (by decide) hk)
theorem Bd.mem {ns : List Int} (h : Bd ns) {z : Int} (hz : z ∈ ns) : z.natAbs < 2 ^ 90 := by
  obtain ⟨i, hi⟩ := List.mem_iff_getElem?.mp hz
  have e := h i
  unfold fnL at e
  rw [List.getD_eq_getElem?_getD, hi] at e
  exact e
theorem bd_of {ns : List Int} (h : ∀ z ∈ ns, z.natAbs < 2 ^ 90) : Bd ns := fun i => by
  by_cases hi : i < ns.length
  · unfold fnL
    rw [List.getD_eq_getElem?_getD, List.getElem?_eq_getElem hi]
    exact h _ (List.getElem_mem hi)
  · rw [fnL_out (by omega)]
    exact Nat.pow_pos (by decide)
theorem ints_inj {a b : List Int} (h : some (a.map V.int) = some (b.map V.int)) : a = b := by
  have h2 := congrArg (fun o => (o.getD []).filterMap (fun v => match v with | V.int z => some z | _ => none)) h
  simp only [Option.getD_some, List.filterMap_map] at h2
  have e : ∀ l : List Int, l.filterMap ((fun v => match v with | V.int z => some z | _ => none) ∘ V.int) = l := fun l => by
    induction l with
    | nil => rfl
    | cons z r ih => rw [List.filterMap_cons]; exact congrArg (z :: ·) ih
  rw [e, e] at h2
  exact h2
theorem within_yes {i lo hi : Int} (h1 : lo ≤ i) (h2 : i ≤ hi) : within (.int i) lo hi = true := by
  show (decide (lo ≤ i) && decide (i ≤ hi)) = true
  rw [decide_eq_true h1, decide_eq_true h2]
  rfl
end Gn

set_option Elab.async false
set_option linter.all false
set_option maxRecDepth 100000
set_option maxHeartbeats 4000000
set_option pp.maxSteps 3000
set_option exponentiation.threshold 500000
/-! ranges by a step, lists as rows -/
namespace Gn
open PySem PySem.Spec PyProof.Rows L2 Dr Xv LamX Ps
def upN (a b d : Nat) : Nat := if a < b then (b - a - 1) / d + 1 else 0
theorem lt_upN {a b d t : Nat} (hd : 0 < d) : t < upN a b d ↔ a + t * d < b := by
  unfold upN
  by_cases h : a < b
  · rw [if_pos h, Nat.lt_succ_iff, Nat.le_div_iff_mul_le hd]
    omega
  · rw [if_neg h]
    constructor
    · intro z; omega
    · intro z; omega
theorem upN_le {a b d : Nat} (hd : 0 < d) : upN a b d ≤ b - a := by
  unfold upN
  split
  · have := Nat.div_le_self (b - a - 1) d
    omega
  · omega
theorem rg_up {a b d : Nat} (hd : 0 < d) (h1 : a < 2 ^ 29) (h2 : b < 2 ^ 29) (h3 : d < 2 ^ 29) : RgC (a : Int) (b : Int) (d : Int) (upN a b d) := by
  have e29 : (2 : Nat) ^ 29 = 536870912 := by decide
  have hn : Builtin.Range.rangeSize (a : Int) (b : Int) (d : Int) = (upN a b d : Nat) := by
    unfold Builtin.Range.rangeSize upN
    rw [if_pos (by omega : (d : Int) > 0)]
    by_cases h : a < b
    · rw [if_pos h, if_pos (by omega : (a : Int) < (b : Int))]
      have e : (b : Int) - (a : Int) - 1 = ((b - a - 1 : Nat) : Int) := by omega
      rw [e]
      simp
    · rw [if_neg h, if_neg (by omega)]
      rfl
  refine ⟨by omega, by omega, ?_, hn⟩
  unfold Builtin.Range.small
  have hu : upN a b d ≤ b - a := upN_le hd
  have hle : a + upN a b d * d < b + d + 1 ∨ upN a b d = 0 := by
    cases hz : upN a b d with
    | zero => exact .inr rfl
    | succ t =>
      have z := (lt_upN hd).mp (by omega : t < upN a b d)
      rw [Nat.add_mul, Nat.one_mul]
      exact .inl (by omega)
  rw [hn]
  simp only [Builtin.Range.rangeFitsLong, Bool.and_eq_true, Bool.or_eq_true, decide_eq_true_eq, beq_iff_eq, show ((d : Int) > 0) by omega, if_true]
  refine ⟨⟨⟨⟨?_, ?_⟩, ?_⟩, ?_⟩, ?_⟩ <;> try omega
theorem log_small2 {n : Nat} (h : n ≤ 4000) : ((n : Int)).natAbs.log2 < 9000 := by
  have e : ((n : Int)).natAbs = n := by omega
  rw [e]
  by_cases z : n = 0
  · rw [z]
    decide
  · have k : n.log2 < 12 := (Nat.log2_lt z).mpr (by omega)
    omega
/-- all but p stays -/
def SameO (p : Addr) (H H' : Hp) : Prop := ∀ b o, H b = some o → b ≠ p → H' b = some o
section
variable {p q : Addr} {H H0 H1 H' : Hp} {o : HO}
theorem SameO.refl : SameO p H H := fun _ _ e _ => e
theorem SameO.trans (a : SameO p H H1) (b : SameO p H1 H') : SameO p H H' := fun c o e n => b c o (a c o e n) n
theorem SameO.of (a : Same H H') : SameO p H H' := fun c o e _ => a c o e
theorem SameO.put : SameO p H (upd H p o) := fun c o e n => by rw [upd_ne n]; exact e
theorem SameO.new (h : H q = none) : SameO p H (upd H q o) := .of (same_new h)
theorem SameO.back (a : SameO p H H') (s : Same H0 H) (h : H0 p = none) : Same H0 H' := fun c o e => a c o (s c o e) (ne_of_none e h)
theorem SameO.row {K : PySem.W.Frag} {a : Addr} {xs : List V} (s : SameO p H H') (h : H a = some (.lst xs)) (n : a ≠ p) : SqL K H' a xs := SqL.of (s _ _ h n)
end
theorem sqx {K : PySem.W.Frag} {H : Hp} {b : Addr} {xs : List V} {tup : Bool} (h : H b = some (if tup then .tup xs else .lst xs)) : if tup then SqT K H b xs else SqL K H b xs := by
  cases tup with
  | true => exact SqT.of h
  | false => exact SqL.of h
theorem row_val {N i : Nat} {b : S} (h : i < N) : atI (rowOf N b) (i : Int) = some (.int (b i)) := atI_nat (row_get h)
theorem row_at {N i : Nat} {b : S} (h : i < N) : ixN (rowOf N b).length (i : Int) = some i := by
  unfold ixN
  rw [if_pos (by omega), row_len, if_pos (by omega)]
  simp
theorem take_at {ns : List Int} {m i : Nat} (hi : i < (ns.take m).length) : ((ns.take m).map V.int)[i]? = some (.int (fnL ns i)) := by
  rw [List.length_take] at hi
  rw [List.getElem?_map, List.getElem?_take, if_pos (by omega)]
  unfold fnL
  rw [List.getD_eq_getElem?_getD]
  have h2 : i < ns.length := by omega
  simp [h2]
/-- a list or a tuple of these numbers -/
def SeqI (H : Hp) (a : Addr) (ns : List Int) : Prop := H a = some (.lst (ns.map V.int)) ∨ H a = some (.tup (ns.map V.int))
theorem SeqI.same {H H' : Hp} {a : Addr} {ns : List Int} (h : SeqI H a ns) (s : Same H H') : SeqI H' a ns := h.imp (s _ _) (s _ _)
theorem SeqI.ne {H : Hp} {a p : Addr} {ns : List Int} (h : SeqI H a ns) (n : H p = none) : a ≠ p := by
  rcases h with e | e
  · exact ne_of_none e n
  · exact ne_of_none e n
theorem SeqI.len {K : PySem.W.Frag} {H : Hp} {a : Addr} {ns : List Int} (h : SeqI H a ns) : LenV K (.ref a) H (ns.map V.int).length := by
  rcases h with e | e
  · exact .inl ⟨_, SqL.of e, rfl⟩
  · exact .inr ⟨_, SqT.of e, rfl⟩
/-- xs[:n] of a list or a tuple -/
def rHead : V → Option Int → Option Int → Hp → VK → Prop := fun x l u H Q => ∃ (a : Addr) (ns : List Int) (n : Nat), x = .ref a ∧ l = none ∧ u = some (n : Int) ∧ SeqI H a ns ∧
  ∀ (tup : Bool) (b : Addr) (H2 : Hp), (b = a ∨ H b = none) → Same H H2 → H2 b = some (if tup then .tup ((ns.take n).map V.int) else .lst ((ns.take n).map V.int)) → Q (.ref b) H2
theorem sl_head {X : Cx} : SlR X rHead := by
  have main : ∀ {x : V} {lo hi : Option Int} {H : Hp} {Q : VK}, rHead x lo hi H Q → rSlL X.K x lo hi H Q ∨ rSlA X.K x lo hi H Q := by
    rintro x lo hi H Q ⟨a, ns, n, rfl, rfl, rfl, ha, k⟩
    have ecut : cutV (ns.map V.int) none (some (n : Int)) = (ns.take n).map V.int := by
      unfold cutV
      rw [HT.sIx_none, HT.sIx_nat, List.length_map, Nat.sub_zero, List.drop_zero, ← List.map_take]
      congr 1
      by_cases h : n ≤ ns.length
      · rw [Nat.min_eq_left h]
      · rw [Nat.min_eq_right (by omega), List.take_of_length_le (Nat.le_refl _), List.take_of_length_le (by omega)]
    rcases ha with e | e
    · refine .inl ⟨a, _, rfl, SqL.of e, fun p hp => ?_⟩
      rw [ecut]
      exact k false p _ (.inr hp) (same_new hp) upd_same
    · refine .inr ⟨a, _, rfl, SqT.of e, fun hw => ?_, fun _ p hp => ?_⟩
      · have e2 : (ns.take n).map V.int = ns.map V.int := by
          have z := hw.2
          rw [HT.sIx_nat, List.length_map] at z
          rw [List.take_of_length_le (by omega)]
        exact k true a H (.inl rfl) (fun _ _ q => q) (by rw [e2]; exact e)
      · rw [ecut]
        exact k true p _ (.inr hp) (same_new hp) upd_same
  intro pins s σ H x v vl vu lo hi sl Q I rx hs pl pu q
  exact SlR.or (X := X) sl_list sl_tupA pins s σ H x v vl vu lo hi sl Q I rx hs pl pu (main q)
end Gn

set_option Elab.async false
set_option linter.all false
set_option maxRecDepth 100000
set_option maxHeartbeats 4000000
set_option pp.maxSteps 3000
set_option exponentiation.threshold 500000
/-! what a law holds: the draw, the tables, its objects -/
namespace Gn
open PySem PySem.Spec PyProof.Rows L2 Dr Xv LamX Ps
structure Sta (Pt : Addr) (H : Hp) (d l c : Addr) (os : List (Addr × HO)) : Prop where
  W : Wd Pt H d l c
  O : ∀ x ∈ os, H x.1 = some x.2 ∧ x.1 ≠ d ∧ x.1 ≠ l ∧ x.1 ≠ c ∧ ∀ ps, x.2 ≠ .tbl ps
  P : os.Pairwise fun x y => x.1 ≠ y.1
namespace Sta
section
variable {Pt d l c p : Addr} {H H' : Hp} {o : HO} {os os' : List (Addr × HO)}
theorem same (S : Sta Pt H d l c os) (s : Same H H') : Sta Pt H' d l c os := ⟨S.W.same s, fun x hx => ⟨s _ _ (S.O x hx).1, (S.O x hx).2⟩, S.P⟩
theorem sx (S : Sta Pt H d l c os) (s : SameX d l H H') (D : Draw H' d l c) : Sta Pt H' d l c os := ⟨S.W.sx s D, fun x hx => ⟨s _ _ (S.O x hx).1 (S.O x hx).2.1 (S.O x hx).2.2.1, (S.O x hx).2⟩, S.P⟩
theorem ext (S : Sta Pt H d l c os) (s : ExtN H H') (T : Tabs [(Pt, qL)] H') : Sta Pt H' d l c os := ⟨⟨Draw.ext S.W.dr s, T⟩, fun x hx => ⟨s _ _ (S.O x hx).1 (S.O x hx).2.2.2.2, (S.O x hx).2⟩, S.P⟩
theorem res (S : Sta Pt H d l c os) (hp : H p = none) (s : Same H H') (e : H' p = some o) (nt : ∀ ps, o ≠ .tbl ps) : Sta Pt H' d l c ((p, o) :: os) := by
  have S' := S.same s
  have n := S.W.dr.ne hp
  refine ⟨S'.W, fun x hx => ?_, List.pairwise_cons.mpr ⟨fun x hx => (ne_of_none (S.O x hx).1 hp).symm, S.P⟩⟩
  rcases List.mem_cons.mp hx with rfl | hx
  · exact ⟨e, n.1, n.2.1, n.2.2, nt⟩
  · exact S'.O x hx
theorem new (S : Sta Pt H d l c os) (hp : H p = none) (nt : ∀ ps, o ≠ .tbl ps) : Sta Pt (upd H p o) d l c ((p, o) :: os) := S.res hp (same_new hp) upd_same nt
theorem newL {xs : List V} (S : Sta Pt H d l c os) (hp : H p = none) : Sta Pt (upd H p (.lst xs)) d l c ((p, .lst xs) :: os) := S.new hp (fun _ e => nomatch e)
theorem newT {xs : List V} (S : Sta Pt H d l c os) (hp : H p = none) : Sta Pt (upd H p (.tup xs)) d l c ((p, .tup xs) :: os) := S.new hp (fun _ e => nomatch e)
theorem resL {xs : List V} (S : Sta Pt H d l c os) (hp : H p = none) (s : Same H H') (e : H' p = some (.lst xs)) : Sta Pt H' d l c ((p, .lst xs) :: os) := S.res hp s e (fun _ e => nomatch e)
/-- a result of a drawing call -/
theorem resX {xs : List V} (S : Sta Pt H d l c os) (hp : H p = none) (s : SameX d l H H') (D : Draw H' d l c) (e : H' p = some (.lst xs)) : Sta Pt H' d l c ((p, .lst xs) :: os) := by
  have S' := S.sx s D
  have n := S.W.dr.ne hp
  refine ⟨S'.W, fun x hx => ?_, List.pairwise_cons.mpr ⟨fun x hx => (ne_of_none (S.O x hx).1 hp).symm, S.P⟩⟩
  rcases List.mem_cons.mp hx with rfl | hx
  · exact ⟨e, n.1, n.2.1, n.2.2, fun _ e => nomatch e⟩
  · exact S'.O x hx
theorem g (S : Sta Pt H d l c os) (i : Nat) {x : Addr × HO} (h : os[i]? = some x) : H x.1 = some x.2 := (S.O x (List.mem_of_getElem? h)).1
theorem gx (S : Sta Pt H d l c os) (i : Nat) {x : Addr × HO} (h : os[i]? = some x) (s : SameX d l H H') : H' x.1 = some x.2 := s _ _ (S.O x (List.mem_of_getElem? h)).1 (S.O x (List.mem_of_getElem? h)).2.1 (S.O x (List.mem_of_getElem? h)).2.2.1
theorem sub (S : Sta Pt H d l c os) (h : os'.Sublist os) : Sta Pt H d l c os' := ⟨S.W, fun x hx => S.O x (h.subset hx), S.P.sublist h⟩
theorem dr (S : Sta Pt H d l c os) : Draw H d l c := S.W.dr
theorem tb (S : Sta Pt H d l c os) : Tabs [(Pt, qL)] H := S.W.tb
/-- the list ahead is written -/
theorem put {xs ys : List V} (S : Sta Pt H d l c ((p, .lst xs) :: os)) : Sta Pt (upd H p (.lst ys)) d l c ((p, .lst ys) :: os) := by
  obtain ⟨h1, h2, h3, h4, h5⟩ := S.O _ (List.mem_cons_self ..)
  obtain ⟨q1, q2⟩ := List.pairwise_cons.mp S.P
  refine ⟨S.W.upd h1 h2 h3 h4, fun x hx => ?_, List.pairwise_cons.mpr ⟨q1, q2⟩⟩
  rcases List.mem_cons.mp hx with rfl | hx
  · exact ⟨upd_same, h2, h3, h4, fun _ e => nomatch e⟩
  · have z := S.O x (List.mem_cons_of_mem _ hx)
    exact ⟨by rw [upd_ne (q1 x hx).symm]; exact z.1, z.2⟩
theorem tl {x : Addr × HO} (S : Sta Pt H d l c (x :: os)) : Sta Pt H d l c os := S.sub (List.sublist_cons_self ..)
end
end Sta
/-- data of ints, equal -/
theorem eq_ints {a b : List Int} (h : a = b) : (!PyData.eqv (.list (intsD a)) (.list (intsD b))) = false := by
  subst h
  exact eq_no a
def intsOf (n : Nat) (b : S) : List Int := (List.range n).map b
theorem row_ofI {n : Nat} {b : S} : rowOf n b = (intsOf n b).map V.int := rfl
theorem fnL_ints {n : Nat} {b : S} {i : Nat} (h : i < n) : fnL (intsOf n b) i = b i := by
  unfold intsOf
  rw [fnL_row, if_pos h]
theorem len_ints {n : Nat} {b : S} : (intsOf n b).length = n := by
  unfold intsOf
  rw [List.length_map, List.length_range]
theorem fnL_snoc_le {ns : List Int} {z : Int} {c : Nat} (h : ∀ i, (fnL ns i).natAbs ≤ c) (hz : z.natAbs ≤ c) (i : Nat) : (fnL (ns ++ [z]) i).natAbs ≤ c := by
  have hi := h i
  unfold fnL at hi ⊢
  rw [List.getD_eq_getElem?_getD] at hi ⊢
  by_cases h1 : i < ns.length
  · rw [List.getElem?_append_left h1]
    exact hi
  · rw [List.getElem?_append_right (by omega)]
    by_cases h2 : i - ns.length = 0
    · rw [h2]
      exact hz
    · rw [List.getElem?_eq_none (by simp; omega)]
      exact Nat.zero_le _
theorem cut_full (ns : List Int) (m : Nat) : cutV (ns.map V.int ++ zer m) none (some (m : Int)) = rowOf m (fnL ns) := by
  have e : cutV (ns.map V.int ++ zer m) none (some (m : Int)) = (ns.map V.int ++ zer m).take m := by
    unfold cutV
    rw [HT.sIx_none, HT.sIx_nat, Nat.sub_zero, List.drop_zero, Nat.min_eq_left (by
      rw [List.length_append]
      unfold zer
      rw [List.length_replicate]
      omega)]
  rw [e]
  refine List.ext_getElem? fun i => ?_
  rw [List.getElem?_take]
  by_cases h : i < m
  · rw [if_pos h, row_get h]
    by_cases h2 : i < ns.length
    · rw [List.getElem?_append_left (by rw [List.length_map]; exact h2), List.getElem?_map]
      unfold fnL
      rw [List.getD_eq_getElem?_getD]
      simp [h2]
    · rw [List.getElem?_append_right (by rw [List.length_map]; omega), fnL_out (by omega), List.length_map]
      unfold zer
      rw [List.getElem?_replicate, if_pos (by omega)]
  · rw [if_neg h, List.getElem?_eq_none (by rw [row_len]; omega)]
end Gn

set_option Elab.async false
set_option linter.all false
set_option maxRecDepth 100000
set_option maxHeartbeats 4000000
set_option pp.maxSteps 3000
/-! errors of classes with an __init__ of their own -/
namespace Gn
open PySem PySem.Spec PyProof.Rows L2 Dr Xv LamX Ps
structure InitT (K : PySem.W.Frag) (C S fI : Addr) (f : Str) : Prop where
  ox : OexC K C
  iC : PySem.W.findIn K (.ref C) "__init__" = some (some (.ref fI))
  tI : PySem.W.typeIn K (.ref fI) = some (.type "function")
  no : PySem.W.findIn K (.ref C) f = some none
  m : PySem.W.exmOne K (.ref C) (.ref S) = some true
  e : ExcC K C
  i : PySem.W.kitOne K (.ref C) (.ref C) = some true
  x : XfC K C
  kS : PySem.W.keepIn K (.ref S) = true
  rS : PySem.W.readsIn K S (.type "type") = true
  sS : PySem.W.specialIn K (.ref S) "__getattribute__" = some (some (.builtin "type.__getattribute__"))
  vS : PySem.W.findCls K (.ref S) (.type "type") "__init__" = some (.val (.builtin "ValueError.__init__"))
def spInit (C : Addr) (f : Str) : Sp := fun vs H Q _ => ∃ (a : Addr) (v : V), vs = [.ref a, v] ∧ H a = some (exo a C none) ∧ ∀ d, H d = none → d ≠ a → Q .non (upd (upd H d (exd d [(f, v)])) a (exo a C (some d)))
theorem mk_init {C : Addr} {f : Str} {v : V} {H : Hp} {Q : Value → Option Addr → Hp → Prop} (q : ∀ d H', H d = none → Same H H' → H' d = some (.xd [(f, v)]) → Q (.ref C) (some d) H') :
    [v].length ≤ 1000 ∧ ∀ a, H a = none → spInit C f (.ref a :: ([v] ++ [])) (upd H a (exo a C none)) (fun w H2 => w = .non ∧ ∃ (d : Addr) (fs : List (Str × V)), H2 a = some (exo a C (some d)) ∧ H2 d = some (exd d fs) ∧ H d = none ∧ Q (.ref C) (some d) (upd (del H2 a) d (.xd fs))) (fun _ _ _ => False) := by
  refine ⟨(by show 1 ≤ 1000; decide), fun a ha => ⟨a, v, rfl, upd_same, fun d hd nd => ?_⟩⟩
  have hd' : H d = none := by rw [upd_ne nd] at hd; exact hd
  refine ⟨rfl, d, _, upd_same, by rw [upd_ne nd, upd_same], hd', q d _ hd' (fun b o e => ?_) upd_same⟩
  have n1 := ne_of_none e ha
  have n2 := ne_of_none e hd'
  rw [upd_ne n2]
  unfold del
  rw [if_neg n1, upd_ne n1, upd_ne n2, upd_ne n1]
  exact e
/-- such an error, caught -/
theorem erc_init {H H' : Hp} {a C d : Addr} {fs : List (Str × V)} (hd : H d = some (.xd fs)) (ha : H a = none) : ErC (upd H a (ErX (.ref C) (some d) a)) a C (some fs) :=
  .inr ⟨d, fs, rfl, upd_same, by rw [upd_ne (ne_of_none hd ha)]; exact hd⟩
end Gn

set_option Elab.async false
set_option linter.all false
set_option maxRecDepth 100000
set_option maxHeartbeats 4000000
set_option pp.maxSteps 3000
/-! zip of two tuples as a walk; tuples and other values; lists of tuples of ints as data -/
namespace Gn
open PySem PySem.Spec PyProof.Rows L2 Dr Xv LamX Ps
theorem walk_zipT {K : PySem.W.Frag} {a b : Addr} {xs ys : List V} {n : Nat} (hn : n = min xs.length ys.length) : Walk (RZ.ItzT K a b) n (fun H => SqT K H a xs ∧ SqT K H b ys) (YPair (fun i => xs[i]?) (fun i => ys[i]?)) := by
  refine ⟨fun i H hi q => ?_, fun H q => ?_, fun i H v H' hi q y => ?_⟩
  · have h1 : i < xs.length := by omega
    have h2 : i < ys.length := by omega
    exact ⟨xs, ys, xs[i], ys[i], q.1, q.2, by simp [h1], by simp [h2]⟩
  · exact ⟨xs, ys, q.1, q.2, by omega⟩
  · obtain ⟨T, x, z, h1, h2, h3, h4, h5⟩ := y
    exact ⟨T, x, z, h1, h2, h3, h4 xs q.1, h5 ys q.2⟩
/-- len's reading, named for comprehensions -/
def rLenK (K : PySem.W.Frag) : List V → Hp → VK → Prop := fun xs H Q => ∃ x n, xs = [x] ∧ LenV K x H n ∧ Q (V.int ↑n) H
/-- a tuple with these items, or no tuple -/
inductive Tp (H : Hp) : V → Option (List V) → Prop
  | non : Tp H .non none
  | bl (b : Bool) : Tp H (.bl b) none
  | int (i : Int) : Tp H (.int i) none
  | str (x : Str) : Tp H (.str x) none
  | lst {a : Addr} {xs : List V} : H a = some (.lst xs) → Tp H (.ref a) none
  | tup {a : Addr} {xs : List V} : H a = some (.tup xs) → Tp H (.ref a) (some xs)
  | dK {a : Addr} {kvs : List (Key × V)} : H a = some (.dK kvs) → Tp H (.ref a) none
theorem Tp.same {H H' : Hp} {x : V} {o : Option (List V)} (h : Tp H x o) (s : Same H H') : Tp H' x o := by
  cases h with
  | non => exact .non
  | bl b => exact .bl b
  | int i => exact .int i
  | str x => exact .str x
  | lst e => exact .lst (s _ _ e)
  | tup e => exact .tup (s _ _ e)
  | dK e => exact .dK (s _ _ e)
theorem Tp.pv {H : Hp} {x : V} {o : Option (List V)} (h : Tp H x o) : PV H x := by
  cases h with
  | non => exact .non
  | bl b => exact .bl b
  | int i => exact .int i
  | str x => exact .str x
  | lst e => exact .lst e
  | tup e => exact .tup e
  | dK e => exact .dK e
theorem Tp.ty {K : PySem.W.Frag} {H : Hp} {x : V} {o : Option (List V)} (h : Tp H x o) : ∃ t, TyX K H x t ∧ PySem.W.kitOne K t (.type "tuple") = some o.isSome := by
  cases h with
  | non => exact ⟨_, .base .non, kit_ty (r := false) (by decide +kernel)⟩
  | bl b => exact ⟨_, .base (.bl b), kit_ty (r := false) (by decide +kernel)⟩
  | int i => exact ⟨_, .base (.int i), kit_ty (r := false) (by decide +kernel)⟩
  | str x => exact ⟨_, .base (.str x), kit_ty (r := false) (by decide +kernel)⟩
  | lst e => exact ⟨_, .base (.lst e), kit_ty (r := false) (by decide +kernel)⟩
  | tup e => exact ⟨_, .base (.tup e), kit_ty (r := true) (by decide +kernel)⟩
  | dK e => exact ⟨_, .base (.dK e), kit_ty (r := false) (by decide +kernel)⟩
theorem Tp.ref {H : Hp} {x : V} {xs : List V} (h : Tp H x (some xs)) : ∃ a, x = .ref a ∧ H a = some (.tup xs) := by
  cases h with
  | tup e => exact ⟨_, rfl, e⟩
/-- the ints among values -/
def numsV (xs : List V) : List Int := xs.filterMap fun v => match v with | V.int z => some z | _ => none
theorem numsV_map : ∀ ns : List Int, numsV (ns.map V.int) = ns
  | [] => rfl
  | z :: r => congrArg (z :: ·) (numsV_map r)
/-! data -/
def tupD (ns : List Int) : PyData := .tuple (intsD ns)
theorem tup_lay (ns : List Int) : (tupD ns).canLay0 = true := ints_lay ns
theorem tup_depth (ns : List Int) : (tupD ns).depth ≤ 1 := by
  show PyData.depthAll (intsD ns) + 1 ≤ 1
  rw [ints_depth]
  exact Nat.le_refl _
theorem tup_shaped (ns : List Int) : SeqAt.shaped (tupD ns) = true := by
  show (PyData.canLayAll0 (intsD ns) && decide (PyData.depthAll (intsD ns) + 1 ≤ 64)) = true
  rw [ints_lay, ints_depth]
  rfl
theorem tups_lay : ∀ l : List (List Int), PyData.canLayAll0 (l.map tupD) = true
  | [] => rfl
  | z :: r => by
    show (PyData.canLay0 (tupD z) && PyData.canLayAll0 (r.map tupD)) = true
    rw [tups_lay r, tup_lay]
    rfl
theorem tups_depth : ∀ l : List (List Int), PyData.depthAll (l.map tupD) ≤ 1
  | [] => Nat.zero_le _
  | z :: r => by
    show max (PyData.depth (tupD z)) (PyData.depthAll (r.map tupD)) ≤ 1
    exact Nat.max_le.mpr ⟨tup_depth z, tups_depth r⟩
theorem tups_shaped (l : List (List Int)) : SeqAt.shaped (.list (l.map tupD)) = true := by
  show (PyData.canLayAll0 (l.map tupD) && decide (PyData.depthAll (l.map tupD) + 1 ≤ 64)) = true
  rw [tups_lay, decide_eq_true (by have := tups_depth l; omega)]
  rfl
theorem tup_dp {K : PySem.W.Frag} {H : Hp} {a : Addr} {ns : List Int} (h : H a = some (.tup (ns.map V.int))) : Dp K H (.ref a) (tupD ns) := .tup (SqT.of h) (ints_dp ns)
/-- these places hold these tuples of ints -/
def TupI (H : Hp) (ts : List Addr) (pss : List (List Int)) : Prop := ts.length = pss.length ∧ ∀ (i : Nat) (t : Addr) (ns : List Int), ts[i]? = some t → pss[i]? = some ns → H t = some (.tup (ns.map V.int))
theorem TupI.same {H H' : Hp} {ts : List Addr} {pss : List (List Int)} (h : TupI H ts pss) (s : Same H H') : TupI H' ts pss := ⟨h.1, fun i t ns e1 e2 => s _ _ (h.2 i t ns e1 e2)⟩
theorem TupI.nil {H : Hp} : TupI H [] [] := ⟨rfl, fun i t ns e => by cases e⟩
theorem TupI.append {H : Hp} {ts us : List Addr} {ps qs : List (List Int)} (h : TupI H ts ps) (g : TupI H us qs) : TupI H (ts ++ us) (ps ++ qs) := by
  refine ⟨by rw [List.length_append, List.length_append, h.1, g.1], fun i t ns e1 e2 => ?_⟩
  by_cases c : i < ts.length
  · rw [List.getElem?_append_left c] at e1
    rw [List.getElem?_append_left (by rw [← h.1]; exact c)] at e2
    exact h.2 i t ns e1 e2
  · rw [List.getElem?_append_right (by omega)] at e1
    rw [List.getElem?_append_right (by rw [← h.1]; omega), ← h.1] at e2
    exact g.2 _ t ns e1 e2
theorem TupI.one {H : Hp} {t : Addr} {ns : List Int} (h : H t = some (.tup (ns.map V.int))) : TupI H [t] [ns] := by
  refine ⟨rfl, fun i t' ns' e1 e2 => ?_⟩
  cases i with
  | zero =>
    cases e1
    cases e2
    exact h
  | succ i => cases e1
theorem TupI.mem {H : Hp} {ts : List Addr} {ps : List (List Int)} (h : TupI H ts ps) {t : Addr} (ht : t ∈ ts) : ∃ ns ∈ ps, H t = some (.tup (ns.map V.int)) := by
  obtain ⟨i, hi⟩ := List.mem_iff_getElem?.mp ht
  have hl := (List.getElem?_eq_some_iff.mp hi).1
  have hl2 : i < ps.length := by rw [← h.1]; exact hl
  exact ⟨ps[i], List.getElem_mem hl2, h.2 i t _ hi (by simp [hl2])⟩
theorem TupI.get {H : Hp} {ts : List Addr} {ps : List (List Int)} (h : TupI H ts ps) {i : Nat} {t : Addr} (ht : ts[i]? = some t) : ∃ ns, ps[i]? = some ns ∧ H t = some (.tup (ns.map V.int)) := by
  have hl := (List.getElem?_eq_some_iff.mp ht).1
  have hl2 : i < ps.length := by rw [← h.1]; exact hl
  exact ⟨ps[i], by simp [hl2], h.2 i t _ ht (by simp [hl2])⟩
theorem TupI.dp {K : PySem.W.Frag} {H : Hp} : ∀ {ts : List Addr} {ps : List (List Int)}, TupI H ts ps → DpAll K H (ts.map V.ref) (ps.map tupD)
  | [], [], _ => .nil
  | [], _ :: _, h => absurd h.1 (by simp)
  | _ :: _, [], h => absurd h.1 (by simp)
  | t :: ts, p :: ps, h => .cons (tup_dp (h.2 0 t p rfl rfl)) (TupI.dp ⟨by have := h.1; simpa using this, fun i t' ns e1 e2 => h.2 (i + 1) t' ns e1 e2⟩)
theorem eq_tup (ns : List Int) : (!PyData.eqv (tupD ns) (tupD ns)) = false := by
  rw [SeqAt.eqv_refl _ (tup_lay ns)]
  rfl
theorem eq_tups (l : List (List Int)) : (!PyData.eqv (.list (l.map tupD)) (.list (l.map tupD))) = false := by
  rw [SeqAt.eqv_refl (.list (l.map tupD)) (show PyData.canLay0 (.list (l.map tupD)) = true from tups_lay l)]
  rfl
end Gn

set_option Elab.async false
set_option linter.all false
set_option maxRecDepth 100000
set_option maxHeartbeats 4000000
set_option pp.maxSteps 3000
/-! range(a, b, c) as an object, tuple() of it -/
namespace Gn
open PySem PySem.Spec PyProof.Rows L2 Dr Xv LamX Ps
/-- at r a range -/
def RgX (r : Addr) (i j c : Int) : HO := .ext fun h => ∃ t u v, IsRange h r i j c t u v
theorem rgx_ok {prog : Program} {w : World} {H : Hp} {h : Heap} {r : Addr} {i j c : Int} {t u v : Tok} (e : IsRange h r i j c t u v) : ObjOk prog w H h r (RgX r i j c) :=
  ⟨⟨t, u, v, e⟩, ⟨_, e⟩, fun h1 h2 q k => by
    obtain ⟨t, u, v, q⟩ := q
    exact ⟨t, u, v, k _ q⟩⟩
theorem cr_range3 {X : Cx} : CallR X (.type "range") (fun xs H Q => ∃ i j c, xs = [.int i, .int j, .int c] ∧ c ≠ 0 ∧ c.natAbs < 1073741824 ∧ ∀ p, H p = none → Q (.ref p) (upd H p (RgX p i j c))) := by
  intro pins s σ H xs us Q I r h
  obtain ⟨i, j, c, rfl, c0, c1, q⟩ := h
  cases r with
  | cons r1 r =>
    cases r with
    | cons r2 r =>
      cases r with
      | cons r3 r =>
        cases r
        obtain ⟨t, rfl⟩ := r1
        obtain ⟨u, rfl⟩ := r2
        obtain ⟨v, rfl⟩ := r3
        obtain ⟨hp, g, dr, tk, os⟩ := s
        refine PySem.call_range_3 c0 ?_ (.inl ?_)
        · exact ⟨.ref hp.objs.size, _, I.laid (t' := tk) (o := RgX hp.objs.size i j c) (fun b o z => Heap.get?_push_of_some _ z) (Nat.le_refl _) (rgx_ok (Heap.get?_push_size _ rfl)), rfl, q _ (I.hok.fresh (Nat.le_refl _))⟩
        · refine PyProof.noPylong_of_log2 ?_
          have k : c.natAbs.log2 < 30 := (Nat.log2_lt (by omega)).mpr (by
            have e : (2 : Nat) ^ 30 = 1073741824 := by decide
            omega)
          omega
/-- the items of a range -/
def rgL (i c : Int) (n : Nat) : List Int := (List.range n).map fun k : Nat => i + (k : Int) * c
theorem vals_of : ∀ (l : List Value) (f : Nat → V), (∀ j v, l[j]? = some v → RelV (f j) v) → Vals ((List.range l.length).map f) l
  | [], _, _ => .nil
  | v :: l, f, h => by
    rw [List.length_cons, List.range_succ_eq_map, List.map_cons, List.map_map]
    exact .cons (h 0 v rfl) (vals_of l (fun k => f (k + 1)) fun j w e => h (j + 1) w e)
theorem call_tuple_rg3 {X : Cx} (hc : X.calm = true) : CallR X (.type "tuple") (fun xs H Q => ∃ r i j c n, xs = [.ref r] ∧ H r = some (RgX r i j c) ∧ RgC i j c n ∧ n ≤ 2 ^ 24 ∧ ∀ p, H p = none → Q (.ref p) (upd H p (.tup ((rgL i c n).map V.int)))) := by
  intro pins s σ H xs us Q I r h
  obtain ⟨a, i, j, c, n, rfl, ha, hr, hn, q⟩ := h
  cases r with
  | cons r1 r =>
    cases r
    cases r1
    have ho : ObjOk X.prog X.w H s.heap a (RgX a i j c) := I.hok a _ ha
    obtain ⟨⟨t, u, v, e⟩, _⟩ := ho
    refine L2.call_tuple_range (I.ok.hd hc) e hr.2.2.1 hr.2.2.2 hn fun h' tk acc kp it => ?_
    have I1 : Inv X pins σ H { s with heap := h', toks := tk } := I.kept kp
    have hv : Vals ((rgL i c n).map V.int) acc.toList := by
      have z := vals_of acc.toList (fun k => V.int (i + (k : Int) * c)) fun j v e => by
        obtain ⟨t, rfl⟩ := it.2 j v (by simpa using e)
        exact ⟨t, rfl⟩
      have hl : acc.toList.length = n := by
        rw [Array.length_toList]
        exact it.1
      rw [hl] at z
      unfold rgL
      rw [List.map_map]
      exact z
    refine ⟨.ref h'.objs.size, _, I1.laid (t' := tk) (o := .tup ((rgL i c n).map V.int)) (fun b o z => Heap.get?_push_of_some _ z) (Nat.le_refl _) ⟨?_, acc.toList, hv, ⟨_, Heap.get?_push_size _ rfl, rfl, 0, ?_⟩⟩, rfl, q _ (I1.hok.fresh (Nat.le_refl _))⟩
    · unfold rgL
      rw [List.length_map, List.length_map, List.length_range, sizeLine_eq]
      omega
    · rfl
end Gn
namespace Gn
open PySem PySem.Spec PyProof.Rows L2
theorem hu65 {k : Nat} {A : Around} (hr : Room k A) : A.units + 65 < cLine := by
  have := hr.un
  omega
end Gn
namespace Gn
open PySem PySem.Spec PyProof.Rows L2 Dr Xv LamX Ps
/-- a test that tells b and changes nothing -/
def PureT (c : TT) (σ : L2.St) (H : Hp) (b : Bool) : Prop := ∀ Q : Bool → Hp → Prop, Q b H → c σ H Q
theorem pure_or {c d : TT} {σ : L2.St} {H : Hp} {a b : Bool} (h : PureT c σ H a) (k : PureT d σ H b) : PureT (tOr c d) σ H (a || b) := fun Q q => by
  refine h _ ?_
  cases a with
  | true => exact iteT q
  | false => exact iteF (k _ q)
theorem pure_and {c d : TT} {σ : L2.St} {H : Hp} {a b : Bool} (h : PureT c σ H a) (k : PureT d σ H b) : PureT (tAnd c d) σ H (a && b) := fun Q q => by
  refine h _ ?_
  cases a with
  | true => exact iteT (k _ q)
  | false => exact iteF q
end Gn
namespace Gn
open PySem PySem.Spec PyProof.Rows L2
theorem np {σ : L2.St} {H : Hp} {Q : Option Int → Hp → Prop} (h : Q none H) : tNoPart σ H Q := h
end Gn

set_option Elab.async false
set_option linter.all false
set_option maxRecDepth 100000
set_option maxHeartbeats 4000000
set_option pp.maxSteps 3000
/-! a range that is kept, walked -/
namespace Gn
open PySem PySem.Spec PyProof.Rows L2 Dr Xv LamX Ps
def iRgv (tl : TE) : TI := fun σ H R => tl σ H fun x H1 => ∃ a i j c n, x = .ref a ∧ H1 a = some (RgX a i j c) ∧ RgC i j c n ∧ R (Itc i c n) H1
theorem pi_rgv {X : Cx} {tg l : Expr} {tl : TE} (hl : PE X l tl) : PI X tg l (iRgv tl) := by
  refine ⟨fun pins s σ H R I h => ?_⟩
  refine thn (hl.run pins s σ H _ I h) fun v s1 ⟨x, H1, I1, r1, q1⟩ => ?_
  obtain ⟨a, i, j, c, n, rfl, ha, hr, q⟩ := q1
  cases r1
  have ho : ObjOk X.prog X.w H1 s1.heap a (RgX a i j c) := I1.hok a _ ha
  obtain ⟨⟨t, u, v, e⟩, _⟩ := ho
  refine wpAny_pyIter_range e hr.2.2.1 ?_
  refine pi_one (tk := s1.toks) I1 _ (turn_rangeC _ i c n) ?_ q
  have e1 : i + ((0 : Nat) : Int) * c = i := by simp
  have e2 : (n : Int) - ((0 : Nat) : Int) = Builtin.Range.rangeSize i j c := by rw [hr.2.2.2]; simp
  show IsRangeIter _ _ (i + ((0 : Nat) : Int) * c) ((n : Int) - ((0 : Nat) : Int)) c
  rw [e1, e2]
  exact Heap.get?_push_size _ rfl

end Gn

set_option Elab.async false
set_option linter.all false
set_option maxRecDepth 100000
set_option maxHeartbeats 4000000
set_option pp.maxSteps 3000
/-! sum of a tuple -/
namespace Gn
open PySem PySem.Spec PyProof.Rows L2 Dr Xv LamX Ps
theorem preSum_take (ns : List Int) : ∀ k, k ≤ ns.length → PySem.preSum (fun i => ns.getD i 0) k = (ns.take k).sum
  | 0, _ => by
    rw [List.take_zero]
    rfl
  | k + 1, h => by
    have ih := preSum_take ns k (by omega)
    show PySem.preSum (fun i => ns.getD i 0) k + ns.getD k 0 = _
    rw [ih, List.take_succ, List.getElem?_eq_getElem (by omega : k < ns.length), List.sum_append, List.getD_eq_getElem?_getD, List.getElem?_eq_getElem (by omega : k < ns.length)]
    show _ + ns[k] = _ + (ns[k] + 0)
    omega
theorem sum_bd : ∀ (ns : List Int) (b : Nat), (∀ x ∈ ns, x.natAbs ≤ b) → ns.sum.natAbs ≤ ns.length * b
  | [], b, _ => Nat.zero_le _
  | x :: r, b, h => by
    have h1 := sum_bd r b fun y hy => h y (List.mem_cons_of_mem _ hy)
    have h2 := h x (List.mem_cons_self ..)
    rw [List.sum_cons, List.length_cons, Nat.add_mul, Nat.one_mul]
    have := Int.natAbs_add_le x r.sum
    omega
def rSumT (K : PySem.W.Frag) : List V → Hp → VK → Prop := fun vs H Q => ∃ (a : Addr) (ns : List Int), vs = [V.ref a] ∧ SqT K H a (ns.map V.int) ∧ ns.length ≤ 1000 ∧ (∀ x ∈ ns, x.natAbs ≤ 1000000000) ∧ Q (V.int ns.sum) H
theorem cr_sumT {X : Cx} (hc : X.calm = true) : CallR X (.builtin "sum") (rSumT X.K) := by
  intro pins s σ H xs us Q I r h
  obtain ⟨a, ns, rfl, hq, hl, hb, q⟩ := h
  cases r with
  | cons r1 r =>
    cases r
    cases r1
    obtain ⟨its, rv, p, hz⟩ := I.tuple hq
    have hlen : its.length = ns.length := by
      have := rv.length
      rw [List.length_map] at this
      exact this.symm
    have hal : a < s.heap.objs.size := by
      obtain ⟨o, ho, _⟩ := id p
      exact Heap.lt_size ho
    refine PySem.call_sum_walk (wpAny_pyIter_tuple (show s.heap.IsTuple a its.toArray from p) ?_)
    refine ⟨s.heap.objs.size, [s.heap.objs.size, a], [s.heap.objs.size], its.toArray.size, _, _, fun i => ns.getD i 0, rfl, Walks.tuple (prog := X.prog) (w := X.w) (A := X.A.in1) (I.ok.hd hc) s.heap.objs.size a (Nat.ne_of_lt hal) its.toArray, ⟨⟨_, Heap.get?_push_size _ rfl, rfl, rfl⟩, ?_⟩, fun b hb => ?_, fun i v hv => ?_, fun j hj => ?_, fun h' tk t' kp => ?_⟩
    · obtain ⟨o, ho, h2⟩ := id p
      exact ⟨o, Heap.get?_push_of_some _ ho, h2⟩
    · have e : b = s.heap.objs.size ∨ b = a := by simpa using hb
      show b < (s.heap.push _).objs.size
      rw [Heap.size_push]
      rcases e with z | z
      · rw [z]
        exact Nat.lt_succ_self _
      · rw [z]
        exact Nat.lt_succ_of_lt hal
    · have hv' : its[i]? = some v := by simpa using hv
      have hi := (List.getElem?_eq_some_iff.mp hv').1
      have e : (ns.map V.int)[i]? = some (.int (ns.getD i 0)) := by
        rw [List.getElem?_map, List.getElem?_eq_getElem (by omega : i < ns.length), List.getD_eq_getElem?_getD, List.getElem?_eq_getElem (by omega : i < ns.length)]
        rfl
      obtain ⟨u, hu, ru⟩ := rv.get e
      rw [hv'] at hu
      cases hu
      exact ru
    · have hj' : j < ns.length := by
        rw [List.size_toArray] at hj
        omega
      have h1 : (ns.getD j 0).natAbs ≤ 1000000000 := hb _ (List.mem_of_getElem? (by rw [List.getD_eq_getElem?_getD, List.getElem?_eq_getElem hj']; rfl))
      have h2 := sum_bd (ns.take (j + 1)) 1000000000 fun x hx => hb x (List.mem_of_mem_take hx)
      rw [List.length_take] at h2
      have h3 : min (j + 1) ns.length * 1000000000 ≤ 1000 * 1000000000 := Nat.mul_le_mul_right _ (by omega)
      dsimp only
      rw [preSum_take ns (j + 1) (by omega)]
      unfold InLong
      refine ⟨⟨by omega, by omega⟩, by omega, by omega⟩
    · have I1 : Inv X pins σ H { s with heap := h', toks := tk } := I.kept fun b o e => kp b o (fun z => by
        have z2 : b = s.heap.objs.size := by simpa using z
        have w := Heap.lt_size e
        rw [z2] at w
        exact Nat.lt_irrefl _ w) (Heap.get?_push_of_some _ e)
      have e : PySem.preSum (fun i => ns.getD i 0) its.toArray.size = ns.sum := by
        rw [List.size_toArray, hlen, preSum_take ns _ (Nat.le_refl _), List.take_length]
      rw [e]
      exact ⟨.int ns.sum, H, I1, ⟨_, rfl⟩, q⟩
end Gn

set_option Elab.async false
set_option linter.all false
set_option maxRecDepth 100000
set_option maxHeartbeats 4000000
set_option pp.maxSteps 3000
/-! min(list of ints, default=d); repr of a list of truth values -/
namespace Xv
open PySem PySem.Spec PyProof.Rows L2
theorem min_rawD {prog : Program} {w : World} {A : Around} {E : Value → Shared → Prop} {s : Shared} {l : Addr} {its : List Value} {ns : List Int} {d : Value} {Q : Value → Shared → Prop} (hh : A.handled = none) (hl : s.heap.IsList l its.toArray) (hi : IntsAre its ns)
    (h0 : ns = [] → ∀ h' tk, (∀ b o, s.heap.get? b = some o → h'.get? b = some o) → Q d { s with heap := h', toks := tk })
    (h : ∀ h' tk M t', (∀ b o, s.heap.get? b = some o → h'.get? b = some o) → M ∈ ns → (∀ a, a ∈ ns → M ≤ a) → Q (.int M t') { s with heap := h', toks := tk }) : wpAny (model prog w) A (call (.builtin "min") [.ref l] [(Str.ofString "default", d)]) Q E s := by
  obtain ⟨xs, e⟩ := hi.allInts.items
  have hn : numsOf (intItems xs).toList = ns := by rw [← e]; exact hi.numsOf
  rw [nums_intItems] at hn
  subst hn
  rw [e] at hl
  have hsz : (intItems xs).size = xs.size := by simp [intItems]
  refine call_min_walkD (PySem.W.iter_listW (A := A.in1) hh hl fun s₂ e W st hfp hw hk => ?_)
  refine ⟨_, _, _, _, _, _, _, s.heap, (fun i j => decide (numAt xs i < numAt xs j)), rfl, W, st, hfp, hw, hk, fun hz s' m => ?_, fun hp => ⟨?_, fun v s' hP m => ?_⟩⟩
  · obtain ⟨h', tk, rfl, hk'⟩ := PySem.W.moved_old e rfl m
    refine h0 ?_ h' tk hk'
    rw [hsz] at hz
    have z : xs = #[] := Array.size_eq_zero_iff.mp hz
    subst z
    rfl
  · intro i j vi vj s3 Q3 E3 _ p1 p2 q
    exact CmpOf.ints_lt (numAt xs) (fun _ _ => intItems_at) i j vi vj s3 Q3 E3 p1 p2 q
  · obtain ⟨h', tk, rfl, hk'⟩ := PySem.W.moved_old e rfl m
    obtain ⟨t, rfl⟩ := intItems_at hP
    rw [hsz] at hp hP
    obtain ⟨h1, h2⟩ := argBest_lt (numAt xs) (xs.size - 1)
    rw [hsz]
    refine h h' tk _ t hk' ?_ fun a ha => ?_
    · rw [numAt_eq]; exact PySem.getD_mem (by rw [List.length_map, Array.length_toList]; omega)
    · obtain ⟨j, hj, rfl⟩ := mem_getD ha
      rw [List.length_map, Array.length_toList] at hj
      rw [← numAt_eq]; exact h2 j (by omega)
/-- min(xs, default=d) -/
def rMinD (K : PySem.W.Frag) : List V → List V → Hp → VK → Prop := fun vs zs H Q => ∃ (a : Addr) (ns : List Int) (d : V), vs = [V.ref a] ∧ zs = [d] ∧ SqL K H a (ns.map V.int) ∧ (ns = [] → Q d H) ∧ ∀ m, m ∈ ns → (∀ y, y ∈ ns → m ≤ y) → Q (.int m) H
theorem cr_minD {X : Cx} (hc : X.calm = true) : CallRK X (.builtin "min") [Str.ofString "default"] (rMinD X.K) := by
  intro pins s σ H vs zs us ws Q I r rz h
  obtain ⟨a, ns, d, rfl, rfl, hs, q0, q⟩ := h
  obtain ⟨its, rv, hl, _⟩ := I.list hs
  obtain rfl := Vals.ref1 r
  obtain ⟨w1, rfl, e1⟩ := vals1 rz
  exact min_rawD (I.ok.hd hc) hl.isList rv.ints (fun z h' tk hk => ⟨d, H, I.kept hk, e1, q0 z⟩) fun h' tk m t' hk h1 h2 => ⟨.int _, H, I.kept hk, ⟨_, rfl⟩, q m h1 h2⟩
end Xv
namespace L2
open PySem PySem.Spec PyProof.Rows
theorem dc_it {J : It} {n : Nat} {G : Hp → Prop} {Y : Nat → Hp → V → Hp → Prop} (w : Walk J n G Y) {g : TG} {tt : TT} {tk tv : TE} {vs : List Nat} {σ : St} {H1 : Hp} {D : Addr} {Qd : Hp → Prop} (Pv : Nat → Hp → Prop) (h0 : Pv 0 (upd H1 D (.dK []))) (hG : ∀ i H, i ≤ n → Pv i H → G H)
    (hs : ∀ i x H H', i < n → Pv i H → Y i H x H' → g x (wipe σ vs) H' fun σ2 H2 => wipe σ2 vs = wipe σ vs ∧ tt σ2 H2 fun b H3 =>
      if b = true then tk σ2 H3 fun y H4 => tv σ2 H4 fun z H5 => ∃ kvs k, y = kV k ∧ H5 D = some (.dK kvs) ∧ kvs.length < sizeLine ∧ Pv (i + 1) (upd H5 D (.dK (putK kvs k z))) else Pv (i + 1) H3) (hd : ∀ H, Pv n H → Qd H) :
    ∃ W : Nat → Nat → Hp → Prop, (∃ m, W 0 m (upd H1 D (.dK []))) ∧ ∀ i m H, W i m H →
      (J.stop i H ∧ Qd H) ∨ (J.go i H ∧ ∃ Nx : Hp → Prop, (∀ H', Nx H' → ∃ m', m' < m ∧ W (i + 1) m' H') ∧ ∀ x H', J.yld i H x H' → g x (wipe σ vs) H' fun σ2 H2 => wipe σ2 vs = wipe σ vs ∧ tt σ2 H2 fun b H3 =>
        if b = true then tk σ2 H3 fun y H4 => tv σ2 H4 fun z H5 => ∃ kvs k, y = kV k ∧ H5 D = some (.dK kvs) ∧ kvs.length < sizeLine ∧ Nx (upd H5 D (.dK (putK kvs k z))) else Nx H3) := by
  refine ⟨fun i m H => m = n - i ∧ i ≤ n ∧ Pv i H, ⟨n, by simp, Nat.zero_le _, h0⟩, ?_⟩
  rintro i m H ⟨rfl, hi, p⟩
  have q := hG i H hi p
  by_cases hlt : i < n
  · exact .inr ⟨w.goes i H hlt q, Pv (i + 1), fun H' p' => ⟨n - (i + 1), by omega, rfl, hlt, p'⟩, fun x H' y => hs i x H H' hlt p (w.yields i H x H' hlt q y)⟩
  · have e : i = n := by omega
    subst e
    exact .inl ⟨w.stops H q, hd H p⟩
end L2

set_option Elab.async false
set_option linter.all false
set_option maxRecDepth 100000
set_option maxHeartbeats 4000000
/-! partitions: all of them, what mirrors one -/
namespace Pt
/-- all partitions of n with no part above g, descending; f bounds the depth -/
def pw : Nat → Nat → Nat → List (List Int)
  | 0, _, _ => []
  | f + 1, n, g => if n = 0 then [[]] else ((List.range (min n g)).map fun i => (pw f (n - (min n g - i)) (min n g - i)).map fun r => (((min n g - i : Nat) : Int)) :: r).flatten
/-- the first j turns of the loop -/
def pwJ (f n g j : Nat) : List (List Int) := ((List.range j).map fun i => (pw f (n - (min n g - i)) (min n g - i)).map fun r => (((min n g - i : Nat) : Int)) :: r).flatten
theorem pwJ_zero (f n g : Nat) : pwJ f n g 0 = [] := rfl
theorem pwJ_succ (f n g j : Nat) : pwJ f n g (j + 1) = pwJ f n g j ++ (pw f (n - (min n g - j)) (min n g - j)).map fun r => (((min n g - j : Nat) : Int)) :: r := by
  unfold pwJ
  rw [List.range_succ, List.map_append, List.flatten_append]
  simp
theorem pw_zero (f g : Nat) : pw (f + 1) 0 g = [[]] := by
  unfold pw
  rw [if_pos rfl]
theorem pw_pos {f n g : Nat} (h : n ≠ 0) : pw (f + 1) n g = pwJ f n g (min n g) := by
  conv => lhs; unfold pw
  rw [if_neg h]
  rfl
def desc : List Int → Bool
  | [] => true
  | x :: r => (match r with | [] => true | y :: _ => decide (y ≤ x)) && desc r
def small (ns : List Int) (lo hi : Int) : Bool := ns.all fun x => decide (lo ≤ x) && decide (x ≤ hi)
/-- one of the partitions told -/
structure Good (ns : List Int) (n g : Nat) : Prop where
  ds : ns.Pairwise (fun x y => y ≤ x)
  lo : ∀ x ∈ ns, 1 ≤ x
  hi : ∀ x ∈ ns, x ≤ g
  hn : ∀ x ∈ ns, x ≤ n
  ln : ns.length ≤ n
theorem pw_good : ∀ (f n g : Nat) (ns : List Int), ns ∈ pw f n g → Good ns n g
  | 0, n, g, ns, h => by cases h
  | f + 1, n, g, ns, h => by
    by_cases z : n = 0
    · subst z
      rw [pw_zero] at h
      rw [List.mem_singleton.mp h]
      exact ⟨.nil, (fun x h => by cases h), (fun x h => by cases h), (fun x h => by cases h), Nat.zero_le _⟩
    · rw [pw_pos z] at h
      unfold pwJ at h
      obtain ⟨l, hl, hns⟩ := List.mem_flatten.mp h
      obtain ⟨i, hi, rfl⟩ := List.mem_map.mp hl
      obtain ⟨r, hr, rfl⟩ := List.mem_map.mp hns
      have hi' := List.mem_range.mp hi
      have G := pw_good f _ _ r hr
      obtain ⟨a, ea⟩ : ∃ a, a = min n g - i := ⟨_, rfl⟩
      rw [← ea] at G ⊢
      have a1 : 1 ≤ a := by omega
      have a2 : a ≤ n := by omega
      have a3 : a ≤ g := by omega
      refine ⟨List.pairwise_cons.mpr ⟨fun x hx => G.hi x hx, G.ds⟩, ?_, ?_, ?_, ?_⟩
      · intro x hx
        rcases List.mem_cons.mp hx with rfl | hx
        · omega
        · exact G.lo x hx
      · intro x hx
        rcases List.mem_cons.mp hx with rfl | hx
        · omega
        · have := G.hi x hx
          omega
      · intro x hx
        rcases List.mem_cons.mp hx with rfl | hx
        · omega
        · have := G.hi x hx
          omega
      · rw [List.length_cons]
        have := G.ln
        omega
/-! what mirrors one -/
def cnt (ns : List Int) (k : Int) : Nat := (ns.filter fun x => decide (k ≤ x)).length
def mir (ns : List Int) (top : Nat) : List Int := (List.range top).map fun k : Nat => ((cnt ns ((k : Int) + 1) : Nat) : Int)
theorem mir_len (ns : List Int) (top : Nat) : (mir ns top).length = top := by
  unfold mir
  rw [List.length_map, List.length_range]
theorem cnt_cons (x : Int) (r : List Int) (k : Int) : cnt (x :: r) k = (if k ≤ x then 1 else 0) + cnt r k := by
  unfold cnt
  by_cases h : k ≤ x
  · rw [List.filter_cons_of_pos (by simpa using h), if_pos h, List.length_cons]
    omega
  · rw [List.filter_cons_of_neg (by simpa using h), if_neg h, Nat.zero_add]
theorem cnt_zero {ns : List Int} {k : Int} (h : ∀ x ∈ ns, x < k) : cnt ns k = 0 := by
  unfold cnt
  rw [List.filter_eq_nil_iff.mpr (fun x hx => by
    have := h x hx
    simp
    omega)]
  rfl
theorem cnt_all {ns : List Int} {k : Int} (h : ∀ x ∈ ns, k ≤ x) : cnt ns k = ns.length := by
  unfold cnt
  rw [List.filter_eq_self.mpr (fun x hx => by simpa using h x hx)]
theorem cnt_le (ns : List Int) (k : Int) : cnt ns k ≤ ns.length := List.length_filter_le _ _
theorem cnt_mono (ns : List Int) {j k : Int} (h : j ≤ k) : cnt ns k ≤ cnt ns j := by
  induction ns with
  | nil => exact Nat.le_refl _
  | cons x r ih =>
    rw [cnt_cons, cnt_cons]
    split <;> split <;> omega
/-- the i-th part is k or more exactly if more than i are -/
theorem cnt_ix : ∀ (ns : List Int) (i : Nat) (k x : Int), ns.Pairwise (fun x y => y ≤ x) → ns[i]? = some x → (i < cnt ns k ↔ k ≤ x)
  | [], i, k, x, _, h => by cases h
  | y :: r, i, k, x, hp, h => by
    obtain ⟨h1, h2⟩ := List.pairwise_cons.mp hp
    rw [cnt_cons]
    cases i with
    | zero =>
      cases h
      by_cases z : k ≤ y
      · rw [if_pos z]
        exact ⟨fun _ => z, fun _ => by omega⟩
      · rw [if_neg z, cnt_zero (fun x hx => by have := h1 x hx; omega)]
        exact ⟨fun h => absurd h (by omega), fun h => absurd h z⟩
    | succ i =>
      have h' : r[i]? = some x := h
      have ih := cnt_ix r i k x h2 h'
      have hx := h1 x (List.mem_of_getElem? h')
      by_cases z : k ≤ y
      · rw [if_pos z]
        constructor
        · intro q
          exact ih.mp (by omega)
        · intro q
          have := ih.mpr q
          omega
      · rw [if_neg z, cnt_zero (fun x hx => by have := h1 x hx; omega)]
        constructor
        · intro q
          omega
        · intro q
          omega
theorem cnt_range (x : Nat) : ∀ top : Nat, ((List.range top).filter fun k => decide (k < x)).length = min top x
  | 0 => by simp
  | t + 1 => by
    rw [List.range_succ, List.filter_append, List.length_append, cnt_range x t]
    by_cases h : t < x
    · rw [List.filter_cons_of_pos (by simpa using h)]
      simp
      omega
    · rw [List.filter_cons_of_neg (by simpa using h)]
      simp
      omega
/-- a partition: its parts descend and are positive, the first one is the greatest -/
structure Par (ns : List Int) (top : Nat) : Prop where
  ds : ns.Pairwise (fun x y => y ≤ x)
  lo : ∀ x ∈ ns, 1 ≤ x
  hi : ∀ x ∈ ns, x ≤ (top : Int)
  hd : (top : Int) = ns.headD 0
theorem Par.pos {ns : List Int} {top : Nat} (h : Par ns top) (t : top ≠ 0) : ns ≠ [] := fun z => by
  have := h.hd
  rw [z] at this
  have e : (top : Int) = 0 := this
  omega
/-- mirrored twice is itself -/
theorem mir_mir {ns : List Int} {top : Nat} (h : Par ns top) : mir (mir ns top) ns.length = ns := by
  refine List.ext_getElem? fun i => ?_
  by_cases hi : i < ns.length
  · obtain ⟨x, hx⟩ : ∃ x, ns[i]? = some x := ⟨ns[i], by simp [hi]⟩
    have hm := List.mem_of_getElem? hx
    have x1 := h.lo x hm
    have x2 := h.hi x hm
    obtain ⟨m, rfl⟩ : ∃ m : Nat, x = (m : Int) := ⟨x.toNat, by omega⟩
    have e : (mir (mir ns top) ns.length)[i]? = some ((cnt (mir ns top) ((i : Int) + 1) : Nat) : Int) := by
      unfold mir
      rw [List.getElem?_map, List.getElem?_range hi]
      rfl
    rw [e, hx]
    have e2 : cnt (mir ns top) ((i : Int) + 1) = m := by
      unfold cnt mir
      rw [List.filter_map, List.length_map]
      have e3 : (List.range top).filter ((fun x : Int => decide ((i : Int) + 1 ≤ x)) ∘ fun k : Nat => ((cnt ns ((k : Int) + 1) : Nat) : Int)) = (List.range top).filter fun k => decide (k < m) := by
        refine List.filter_congr fun k _ => ?_
        have z := cnt_ix ns i ((k : Int) + 1) m h.ds hx
        show decide ((i : Int) + 1 ≤ ((cnt ns ((k : Int) + 1) : Nat) : Int)) = decide (k < m)
        by_cases q : k < m
        · rw [decide_eq_true q, decide_eq_true]
          have := z.mpr (by omega)
          omega
        · rw [decide_eq_false q, decide_eq_false]
          intro w
          have := z.mp (by omega)
          omega
      rw [e3, cnt_range]
      omega
    rw [e2]
  · rw [List.getElem?_eq_none (by rw [mir_len]; omega), List.getElem?_eq_none (by omega)]
theorem mir_mem {ns : List Int} {top : Nat} {x : Int} (h : x ∈ mir ns top) : ∃ k : Nat, k < top ∧ x = ((cnt ns ((k : Int) + 1) : Nat) : Int) := by
  unfold mir at h
  obtain ⟨k, hk, rfl⟩ := List.mem_map.mp h
  exact ⟨k, List.mem_range.mp hk, rfl⟩
/-- what mirrors a partition is one -/
theorem mir_par {ns : List Int} {top : Nat} (h : Par ns top) (t : ns ≠ []) : Par (mir ns top) ns.length := by
  have h0 : ∃ x r, ns = x :: r := by
    cases ns with
    | nil => exact absurd rfl t
    | cons x r => exact ⟨x, r, rfl⟩
  have ht : (top : Int) ∈ ns := by
    obtain ⟨x, r, rfl⟩ := h0
    have := h.hd
    rw [this]
    exact List.mem_cons_self ..
  have tp : 1 ≤ top := by
    have := h.lo _ ht
    omega
  refine ⟨?_, fun x hx => ?_, fun x hx => ?_, ?_⟩
  · unfold mir
    rw [List.pairwise_map]
    refine List.Pairwise.imp ?_ (List.pairwise_lt_range)
    intro a b hab
    have := cnt_mono ns (j := (a : Int) + 1) (k := (b : Int) + 1) (by omega)
    omega
  · obtain ⟨k, hk, rfl⟩ := mir_mem hx
    have q := List.mem_iff_getElem?.mp ht
    obtain ⟨i, hi⟩ := q
    have z := (cnt_ix ns i ((k : Int) + 1) top h.ds hi).mpr (by omega)
    omega
  · obtain ⟨k, hk, rfl⟩ := mir_mem hx
    have := cnt_le ns ((k : Int) + 1)
    omega
  · obtain ⟨m, rfl⟩ : ∃ m, top = m + 1 := ⟨top - 1, by omega⟩
    unfold mir
    rw [List.range_succ_eq_map, List.map_cons]
    show _ = ((cnt ns (((0 : Nat) : Int) + 1) : Nat) : Int)
    rw [cnt_all (fun x hx => by have := h.lo x hx; omega)]
/-- what the program asks -/
def isPt (ns : List Int) : Bool := decide (ns.length ≤ 200) && (small ns 1 1000000 && (List.zip ns (ns.drop 1)).all fun p => decide (p.2 ≤ p.1))
theorem zip_desc : ∀ {ns : List Int}, ns.Pairwise (fun x y => y ≤ x) → ((List.zip ns (ns.drop 1)).all fun p => decide (p.2 ≤ p.1)) = true
  | [], _ => rfl
  | [x], _ => rfl
  | x :: y :: r, h => by
    obtain ⟨h1, h2⟩ := List.pairwise_cons.mp h
    have ih := zip_desc h2
    show (decide (y ≤ x) && ((List.zip (y :: r) r).all fun p => decide (p.2 ≤ p.1))) = true
    rw [decide_eq_true (h1 y (List.mem_cons_self ..)), Bool.true_and]
    exact ih
theorem desc_zip : ∀ {ns : List Int}, ((List.zip ns (ns.drop 1)).all fun p => decide (p.2 ≤ p.1)) = true → ns.Pairwise (fun x y => y ≤ x)
  | [], _ => .nil
  | [x], _ => List.pairwise_singleton _ _
  | x :: y :: r, h => by
    have h' : (decide (y ≤ x) && ((List.zip (y :: r) r).all fun p => decide (p.2 ≤ p.1))) = true := h
    rw [Bool.and_eq_true, decide_eq_true_eq] at h'
    have ih : (y :: r).Pairwise (fun x y => y ≤ x) := desc_zip h'.2
    refine List.pairwise_cons.mpr ⟨fun z hz => ?_, ih⟩
    rcases List.mem_cons.mp hz with rfl | hz
    · exact h'.1
    · have := (List.pairwise_cons.mp ih).1 z hz
      omega
theorem Par.is {ns : List Int} {top : Nat} (h : Par ns top) (l : ns.length ≤ 200) (t : top ≤ 1000000) : isPt ns = true := by
  unfold isPt small
  rw [decide_eq_true l, zip_desc h.ds, Bool.true_and, Bool.and_true]
  refine List.all_eq_true.mpr fun x hx => ?_
  have h1 := h.lo x hx
  have h2 := h.hi x hx
  rw [decide_eq_true h1, decide_eq_true (by omega : x ≤ 1000000)]
  rfl
theorem isPt_par {ns : List Int} (h : isPt ns = true) : Par ns (ns.headD 0).toNat ∧ ns.length ≤ 200 ∧ ∀ x ∈ ns, x ≤ 1000000 := by
  unfold isPt small at h
  simp only [Bool.and_eq_true, decide_eq_true_eq, List.all_eq_true] at h
  obtain ⟨h1, h2, h3⟩ := h
  have ds := desc_zip (ns := ns) (List.all_eq_true.mpr fun p hp => by simpa using h3 p hp)
  refine ⟨⟨ds, fun x hx => (h2 x hx).1, fun x hx => ?_, ?_⟩, h1, fun x hx => (h2 x hx).2⟩
  · cases ns with
    | nil => cases hx
    | cons y r =>
      have := (h2 y (List.mem_cons_self ..)).1
      show x ≤ ((y.toNat : Nat) : Int)
      rcases List.mem_cons.mp hx with rfl | hx
      · omega
      · have := (List.pairwise_cons.mp ds).1 x hx
        omega
  · cases ns with
    | nil => rfl
    | cons y r =>
      have := (h2 y (List.mem_cons_self ..)).1
      show ((y.toNat : Nat) : Int) = y
      omega
/-! the numbers of partitions -/
def pnum : List Int := [1, 1, 2, 3, 5, 7, 11, 15, 22, 30, 42, 56, 77, 101, 135]
theorem pw_count : ∀ n, n < 15 → ((pw 15 n n).length : Int) = pnum.getD n 0 := by decide +kernel
end Pt

set_option Elab.async false
set_option linter.all false
set_option maxRecDepth 100000
set_option maxHeartbeats 4000000
set_option exponentiation.threshold 500000
set_option pp.maxSteps 3000
/-! families of rules -/
namespace Fm
open PySem PySem.Spec PyProof.Rows L2 Dr Xv LamX Ps Gn
/-! ### what may be a rule -/
def inR (ns : List Int) (m : Int) : Bool := ns.all fun x => decide (0 ≤ x) && decide (x < m)
def asc (ns : List Int) : Bool := (List.zip ns (ns.drop 1)).all fun p => decide (p.1 < p.2)
def resOk (o : Option (List V)) (m : Int) : Bool := match o with
  | some xs => xs.all isNum && (!xs.isEmpty && (inR (numsV xs) m && asc (numsV xs)))
  | none => false
def ruleOk (m : V) (o : Option (List V)) (l : V) : Bool := match m with
  | .int i => within (.int i) 1 24 && (within l 1 9 && resOk o i)
  | _ => false
/-- a value of any kind, and whether it is a rule -/
inductive RlV (H : Hp) (x : V) : Bool → Prop
  | no {o : Option (List V)} : Tp H x o → short o → (∀ xs, o = some xs → xs.length ≠ 3) → RlV H x false
  | tri {m r l : V} {o : Option (List V)} : Tp H x (some [m, r, l]) → PV H m → PV H l → Tp H r o → short o → AllPV H o → RlV H x (ruleOk m o l)
theorem RlV.same {H H' : Hp} {x : V} {b : Bool} (h : RlV H x b) (s : Same H H') : RlV H' x b := by
  cases h with
  | no a b c => exact .no (a.same s) b c
  | tri a b c d e f => exact .tri (a.same s) (b.same s) (c.same s) (d.same s) e (f.same s)
/-- a value of any kind, and its items as rules -/
def FmV (H : Hp) (x : V) (o : Option (List Bool)) : Prop := ∃ q : Option (List V), Items H x q ∧ short q ∧ ((q = none ∧ o = none) ∨ ∃ (xs : List V) (bs : List Bool), q = some xs ∧ o = some bs ∧ xs.length = bs.length ∧ ∀ (i : Nat) (v : V) (b : Bool), xs[i]? = some v → bs[i]? = some b → RlV H v b)
theorem FmV.same {H H' : Hp} {x : V} {o : Option (List Bool)} (h : FmV H x o) (s : Same H H') : FmV H' x o := by
  obtain ⟨q, h1, h2, h3⟩ := h
  refine ⟨q, h1.same s, h2, h3.imp id ?_⟩
  rintro ⟨xs, bs, e1, e2, e3, h⟩
  exact ⟨xs, bs, e1, e2, e3, fun i v b a c => (h i v b a c).same s⟩
def fmOk (o : Option (List Bool)) : Bool := match o with
  | some bs => decide (bs.length ≤ 6) && bs.all id
  | none => false
/-! ### families -/
abbrev Rule : Type := Int × List Int × Int
structure GoodR (r : Rule) : Prop where
  m1 : 1 ≤ r.1
  m2 : r.1 ≤ 24
  l1 : 1 ≤ r.2.2
  l2 : r.2.2 ≤ 9
  ne : r.2.1 ≠ []
  ra : inR r.2.1 r.1 = true
  as : asc r.2.1 = true
structure Good (fam : List Rule) : Prop where
  ln : fam.length ≤ 6
  r : ∀ f ∈ fam, GoodR f
def hits (fam : List Rule) (p : Int) : List Int := (fam.filter fun r => r.2.1.contains (p.fmod r.1)).map (·.2.2)
theorem in_ints (ns : List Int) (z : Int) : inV (.int z) (ns.map V.int) = ns.contains z := by
  induction ns with
  | nil => rfl
  | cons x r ih =>
    rw [List.contains_cons, ← ih]
    show (_ || _) = _
    congr 1
    show (x == z) = (z == x)
    exact Bool.beq_comm
/-- 0 : no bound -/
def bnd (fam : List Rule) (p : Int) : Int := match hits fam p with
  | [] => 0
  | x :: r => r.foldl min x
theorem foldl_min : ∀ (r : List Int) (x : Int), r.foldl min x ∈ x :: r ∧ ∀ y ∈ x :: r, r.foldl min x ≤ y
  | [], x => ⟨List.mem_cons_self, fun y hy => by
      rw [List.mem_singleton.mp hy]
      exact Int.le_refl _⟩
  | z :: r, x => by
    obtain ⟨h1, h2⟩ := foldl_min r (min x z)
    have hm : min x z ≤ x := Int.min_le_left _ _
    have hm2 : min x z ≤ z := Int.min_le_right _ _
    refine ⟨?_, fun y hy => ?_⟩
    · show r.foldl min (min x z) ∈ _
      rcases List.mem_cons.mp h1 with h | h
      · rw [h]
        by_cases c : x ≤ z
        · rw [Int.min_eq_left c]
          exact List.mem_cons_self
        · rw [Int.min_eq_right (by omega)]
          exact List.mem_cons_of_mem _ List.mem_cons_self
      · exact List.mem_cons_of_mem _ (List.mem_cons_of_mem _ h)
    · show r.foldl min (min x z) ≤ y
      have a := h2 (min x z) List.mem_cons_self
      rcases List.mem_cons.mp hy with rfl | hy
      · omega
      · rcases List.mem_cons.mp hy with rfl | hy
        · omega
        · exact h2 y (List.mem_cons_of_mem _ hy)
theorem bnd_eq {fam : List Rule} {p m : Int} (h1 : m ∈ hits fam p) (h2 : ∀ y ∈ hits fam p, m ≤ y) : bnd fam p = m := by
  unfold bnd
  cases h : hits fam p with
  | nil =>
    rw [h] at h1
    cases h1
  | cons x r =>
    rw [h] at h1 h2
    obtain ⟨a, b⟩ := foldl_min r x
    have := h2 _ a
    have := b _ h1
    show r.foldl min x = m
    omega
theorem hits_pos {fam : List Rule} (G : Good fam) {p y : Int} (h : y ∈ hits fam p) : 1 ≤ y ∧ y ≤ 9 := by
  obtain ⟨r, hr, rfl⟩ := List.mem_map.mp h
  have g := G.r r (List.mem_filter.mp hr).1
  exact ⟨g.l1, g.l2⟩
theorem bnd_zero {fam : List Rule} {p : Int} (h : hits fam p = []) : bnd fam p = 0 := by
  unfold bnd
  rw [h]
theorem bnd_mem {fam : List Rule} {p : Int} (h : hits fam p ≠ []) : bnd fam p ∈ hits fam p := by
  unfold bnd
  cases e : hits fam p with
  | nil => exact absurd e h
  | cons x r => exact (foldl_min r x).1
theorem bnd_pos {fam : List Rule} (G : Good fam) {p : Int} (h : hits fam p ≠ []) : 1 ≤ bnd fam p ∧ bnd fam p ≤ 9 := hits_pos G (bnd_mem h)
theorem bnd_le {fam : List Rule} (G : Good fam) (p : Int) : 0 ≤ bnd fam p ∧ bnd fam p ≤ 9 := by
  by_cases h : hits fam p = []
  · rw [bnd_zero h]
    decide
  · have := bnd_pos G h
    omega
theorem hits_len {fam : List Rule} (p : Int) : (hits fam p).length ≤ fam.length := by
  unfold hits
  rw [List.length_map]
  exact List.length_filter_le _ _
/-- what bound_of tells -/
def bndV (fam : List Rule) (p : Int) : V := if bnd fam p = 0 then .non else .int (bnd fam p)
/-- the rules' objects -/
structure RulesAt (H : Hp) (ts rs : List Addr) (fam : List Rule) : Prop where
  l1 : ts.length = fam.length
  l2 : rs.length = fam.length
  at_ : ∀ (i : Nat) (t r : Addr) (f : Rule), ts[i]? = some t → rs[i]? = some r → fam[i]? = some f → H t = some (.tup [.int f.1, .ref r, .int f.2.2]) ∧ H r = some (.tup (f.2.1.map V.int))
theorem RulesAt.same {H H' : Hp} {ts rs : List Addr} {fam : List Rule} (h : RulesAt H ts rs fam) (s : Same H H') : RulesAt H' ts rs fam := ⟨h.l1, h.l2, fun i t r f a b c => ⟨s _ _ (h.at_ i t r f a b c).1, s _ _ (h.at_ i t r f a b c).2⟩⟩
theorem RulesAt.get {H : Hp} {ts rs : List Addr} {fam : List Rule} (h : RulesAt H ts rs fam) {i : Nat} {v : V} (e : (ts.map V.ref)[i]? = some v) : ∃ t r f, v = .ref t ∧ ts[i]? = some t ∧ rs[i]? = some r ∧ fam[i]? = some f ∧ H t = some (.tup [.int f.1, .ref r, .int f.2.2]) ∧ H r = some (.tup (f.2.1.map V.int)) := by
  rw [List.getElem?_map] at e
  cases et : ts[i]? with
  | none =>
    rw [et] at e
    cases e
  | some t =>
    rw [et] at e
    cases e
    have hi := (List.getElem?_eq_some_iff.mp et).1
    have er := List.getElem?_eq_getElem (l := rs) (i := i) (by rw [h.l2, ← h.l1]; exact hi)
    have ef := List.getElem?_eq_getElem (l := fam) (i := i) (by rw [← h.l1]; exact hi)
    exact ⟨t, _, _, rfl, rfl, er, ef, h.at_ _ _ _ _ et er ef⟩
def FamAt (H : Hp) (a : Addr) (fam : List Rule) : Prop := ∃ ts rs, H a = some (.lst (ts.map V.ref)) ∧ RulesAt H ts rs fam
theorem FamAt.same {H H' : Hp} {a : Addr} {fam : List Rule} (h : FamAt H a fam) (s : Same H H') : FamAt H' a fam := by
  obtain ⟨ts, rs, e, r⟩ := h
  exact ⟨ts, rs, s _ _ e, r.same s⟩
theorem ruleOk_good {f : Rule} (g : GoodR f) : ruleOk (.int f.1) (some (f.2.1.map V.int)) (.int f.2.2) = true := by
  show (within (.int f.1) 1 24 && (within (.int f.2.2) 1 9 && ((f.2.1.map V.int).all isNum && (!(f.2.1.map V.int).isEmpty && (inR (numsV (f.2.1.map V.int)) f.1 && asc (numsV (f.2.1.map V.int))))))) = true
  rw [within_yes g.m1 g.m2, within_yes g.l1 g.l2, all_num, numsV_map, g.ra, g.as]
  cases e : f.2.1 with
  | nil => exact absurd e g.ne
  | cons _ _ => rfl
theorem inR_len {ns : List Int} {m : Int} (h1 : inR ns m = true) (h2 : asc ns = true) (h3 : m ≤ 24) : ns.length ≤ 24 := by
  -- ascending from 0 below m
  have key : ∀ (l : List Int) (k : Nat), (List.zip l (l.drop 1)).all (fun p => decide (p.1 < p.2)) = true → (∀ x ∈ l, (k : Int) ≤ x ∧ x < 24) → l.length + k ≤ 24 ∨ l = [] := by
    intro l
    induction l with
    | nil => exact fun _ _ _ => .inr rfl
    | cons x r ih =>
      intro k hz hb
      refine .inl ?_
      have hx := hb x List.mem_cons_self
      cases r with
      | nil =>
        show 1 + k ≤ 24
        omega
      | cons y t =>
        have hz' : (decide (x < y) && (List.zip (y :: t) ((y :: t).drop 1)).all fun p => decide (p.1 < p.2)) = true := hz
        rw [Bool.and_eq_true, decide_eq_true_eq] at hz'
        have hmono : ∀ z ∈ y :: t, y ≤ z := by
          have : ∀ (l : List Int) (a : Int), (List.zip (a :: l) ((a :: l).drop 1)).all (fun p => decide (p.1 < p.2)) = true → ∀ z ∈ a :: l, a ≤ z := by
            intro l
            induction l with
            | nil =>
              intro a _ z hz
              rw [List.mem_singleton.mp hz]
              exact Int.le_refl _
            | cons b s ih2 =>
              intro a hq z hz
              have hq' : (decide (a < b) && (List.zip (b :: s) ((b :: s).drop 1)).all fun p => decide (p.1 < p.2)) = true := hq
              rw [Bool.and_eq_true, decide_eq_true_eq] at hq'
              rcases List.mem_cons.mp hz with rfl | hz
              · exact Int.le_refl _
              · have := ih2 b hq'.2 z hz
                omega
          exact this t y hz'.2
        rcases ih (k + 1) hz'.2 (fun z hzm => ⟨by
          have := hmono z hzm
          omega, (hb z (List.mem_cons_of_mem _ hzm)).2⟩) with h | h
        · show (y :: t).length + 1 + k ≤ 24
          omega
        · cases h
  have hb : ∀ x ∈ ns, ((0 : Nat) : Int) ≤ x ∧ x < 24 := fun x hx => by
    have z := List.all_eq_true.mp h1 x hx
    rw [Bool.and_eq_true, decide_eq_true_eq, decide_eq_true_eq] at z
    omega
  rcases key ns 0 h2 hb with h | h
  · omega
  · rw [h]
    exact Nat.zero_le _
theorem FamAt.v {H : Hp} {a : Addr} {fam : List Rule} (h : FamAt H a fam) (G : Good fam) : FmV H (.ref a) (some (fam.map fun _ => true)) := by
  obtain ⟨ts, rs, e, r⟩ := h
  have hl : (ts.map V.ref).length = (fam.map fun _ => true).length := by rw [List.length_map, List.length_map, r.l1]
  refine ⟨_, .lst e, fun xs ex => ?_, .inr ⟨_, _, rfl, rfl, hl, fun i v b e1 e2 => ?_⟩⟩
  · cases ex
    rw [List.length_map, r.l1, sizeLine_eq]
    have := G.ln
    omega
  · obtain ⟨t, q, f, rfl, _, _, ef, g1, g2⟩ := r.get e1
    rw [List.getElem?_map, ef] at e2
    cases e2
    have g := G.r f (List.mem_of_getElem? ef)
    rw [← ruleOk_good g]
    have := inR_len g.ra g.as g.m2
    exact .tri (.tup g1) (.int _) (.int _) (.tup g2) (short_ints (by omega)) (pv_ints _)
theorem fmOk_good {fam : List Rule} (G : Good fam) : fmOk (some (fam.map fun _ => true)) = true := by
  show (decide ((fam.map fun _ => true).length ≤ 6) && (fam.map fun _ => true).all id) = true
  rw [List.length_map, decide_eq_true G.ln, Bool.true_and, List.all_map]
  exact List.all_eq_true.mpr fun _ _ => rfl
end Fm
namespace Fm
open PySem PySem.Spec PyProof.Rows L2 Dr Xv LamX Ps Gn
/-- the parts whose bound leads to n -/
def mTest (fam : List Rule) (n b : Int) : Bool := decide (n.fmod b = 0) && decide (bnd fam (n.fdiv b) = b)
def nines : List Int := [9, 8, 7, 6, 5, 4, 3, 2, 1]
def mates (fam : List Rule) (n : Int) : List Int := (nines.filter (mTest fam n)).map fun b => n.fdiv b
def pS (fam : List Rule) : S := fun i => 1 - ((mates fam ((i : Int) + 1)).length : Int)
theorem mates_le (fam : List Rule) (n : Int) : (mates fam n).length ≤ 9 := by
  unfold mates
  rw [List.length_map]
  exact List.length_filter_le _ _
theorem nines_at {i : Nat} (h : i < 9) : nines[i]? = some (9 + (i : Int) * (-1)) := by
  have : ∀ i : Nat, i < 9 → nines[i]? = some (9 + (i : Int) * (-1)) := by decide
  exact this i h
theorem mates_take {fam : List Rule} {n : Int} {i : Nat} {z : Int} (h : nines[i]? = some z) : ((nines.take (i + 1)).filter (mTest fam n)).map (fun b => n.fdiv b) = ((nines.take i).filter (mTest fam n)).map (fun b => n.fdiv b) ++ if mTest fam n z then [n.fdiv z] else [] := by
  rw [List.take_succ, h, List.filter_append, List.map_append]
  show _ ++ ([z].filter _).map _ = _
  cases hc : mTest fam n z with
  | true => rw [List.filter_cons_of_pos (by exact hc)]; rfl
  | false => rw [List.filter_cons_of_neg (by rw [hc]; exact Bool.false_ne_true)]; rfl
theorem eq_bndV (fam : List Rule) (p z : Int) (h : z ≠ 0) : decide (bndV fam p = .int z) = decide (bnd fam p = z) := by
  unfold bndV
  by_cases c : bnd fam p = 0
  · have e1 : decide (V.non = V.int z) = false := decide_eq_false (fun e => nomatch e)
    have e2 : decide (bnd fam p = z) = false := decide_eq_false (by omega)
    rw [if_pos c, e1, e2]
  · rw [if_neg c]
    by_cases d : bnd fam p = z
    · have e1 : decide (V.int (bnd fam p) = V.int z) = true := decide_eq_true (by rw [d])
      rw [e1, decide_eq_true d]
    · have e1 : decide (V.int (bnd fam p) = V.int z) = false := decide_eq_false (fun e => d (by injection e))
      rw [e1, decide_eq_false d]
theorem scal_bndV (fam : List Rule) (p z : Int) : scal (bndV fam p) (.int z) = true := by
  unfold bndV
  split <;> rfl
theorem pS_le (fam : List Rule) (i : Nat) : (pS fam i).natAbs ≤ 9 := by
  have := mates_le fam ((i : Int) + 1)
  show ((1 : Int) - _).natAbs ≤ 9
  omega
theorem row_pow (fam : List Rule) (m : Nat) (hm : m ≤ 100) : ∃ B, 0 < B ∧ B ≤ 400000 ∧ (∀ k, k < m + 1 → (sS (pS fam) m k).natAbs < 2 ^ B) ∧ ∀ k, k < m + 1 → (prA (pS fam) m k).natAbs < 2 ^ B := by
  have hs : ∀ k, (sS (pS fam) m k).natAbs ≤ 2 ^ 17 := fun k => by
    have h := sS_bound (p := pS fam) (c := 9) (pS_le fam) m k
    have h2 : m * (m + 1) ≤ 100 * 101 := Nat.mul_le_mul hm (by omega)
    have e : (2 : Nat) ^ 17 = 131072 := by decide
    omega
  have ha := lg_bound (lg_prA (pS fam) m) (prA_zero _ _) (B := 2 ^ 17) (N := m) (by decide) fun k _ => hs k
  refine ⟨1701, by decide, by decide, fun k _ => ?_, fun k hk => ?_⟩
  · exact Nat.lt_of_le_of_lt (hs k) (Nat.pow_lt_pow_right (by decide) (by decide))
  · have h := ha k (by omega)
    rw [← Nat.pow_mul] at h
    exact Nat.lt_of_le_of_lt h (Nat.pow_lt_pow_right (by decide) (by omega))
end Fm
namespace Fm
open PySem PySem.Spec PyProof.Rows L2 Dr Xv LamX Ps Gn
/-! ### how often each part occurs -/
def ct (p : Int) (ns : List Int) : Nat := ns.countP fun x => x == p
def kI (p : Int) : Key := .inl p
structure TimesOf (kvs : List (Key × V)) (ns : List Int) : Prop where
  ln : kvs.length ≤ ns.length
  at_ : ∀ p : Int, valV kvs (kI p) = if p ∈ ns then some (.int (ct p ns)) else none
  ks : ∀ kv ∈ kvs, ∃ p ∈ ns, kv.1 = kI p
  nd : (kvs.map (·.1)).Nodup
theorem keys_any (kvs : List (Key × V)) (k : Key) : (kvs.any fun kv => decide (kv.1 = k)) = true ↔ k ∈ kvs.map (·.1) := by
  rw [List.any_eq_true, List.mem_map]
  constructor
  · rintro ⟨x, hx, e⟩
    exact ⟨x, hx, of_decide_eq_true e⟩
  · rintro ⟨x, hx, e⟩
    exact ⟨x, hx, decide_eq_true e⟩
theorem keys_put_in {kvs : List (Key × V)} {k : Key} {v : V} (c : k ∈ kvs.map (·.1)) : (putK kvs k v).map (·.1) = kvs.map (·.1) := by
  unfold putK
  rw [if_pos ((keys_any kvs k).mpr c), List.map_map]
  refine List.map_congr_left fun kv _ => ?_
  show (if kv.1 = k then (kv.1, v) else kv).1 = kv.1
  split <;> rfl
theorem keys_put_new {kvs : List (Key × V)} {k : Key} {v : V} (c : k ∉ kvs.map (·.1)) : (putK kvs k v).map (·.1) = kvs.map (·.1) ++ [k] := by
  unfold putK
  rw [if_neg (fun z => c ((keys_any kvs k).mp z)), List.map_append]
  rfl
theorem nodup_put {kvs : List (Key × V)} {k : Key} {v : V} (h : (kvs.map (·.1)).Nodup) : ((putK kvs k v).map (·.1)).Nodup := by
  by_cases c : k ∈ kvs.map (·.1)
  · rw [keys_put_in c]
    exact h
  · rw [keys_put_new c]
    refine List.nodup_append.mpr ⟨h, List.nodup_cons.mpr ⟨List.not_mem_nil, .nil⟩, fun a ha b hb e => ?_⟩
    rw [List.mem_singleton.mp hb] at e
    exact c (e ▸ ha)
theorem TimesOf.nil : TimesOf [] [] := ⟨Nat.le_refl _, fun p => by rw [if_neg List.not_mem_nil]; rfl, (fun kv h => by cases h), .nil⟩
theorem kI_inj {p q : Int} : kI p = kI q ↔ p = q := ⟨fun e => by injection e, fun e => by rw [e]⟩
theorem ct_snoc (p x : Int) (ns : List Int) : ct p (ns ++ [x]) = ct p ns + if x = p then 1 else 0 := by
  unfold ct
  rw [List.countP_append, List.countP_cons, List.countP_nil]
  by_cases c : x = p
  · simp [c]
  · simp [c]
theorem TimesOf.mem_put {kvs : List (Key × V)} {k : Key} {v : V} {kv : Key × V} (h : kv ∈ putK kvs k v) : kv.1 = k ∨ ∃ kv' ∈ kvs, kv.1 = kv'.1 := by
  unfold putK at h
  split at h
  · obtain ⟨kv', h1, h2⟩ := List.mem_map.mp h
    subst h2
    split
    · rename_i e
      exact .inl e
    · exact .inr ⟨kv', h1, rfl⟩
  · rcases List.mem_append.mp h with h | h
    · exact .inr ⟨kv, h, rfl⟩
    · rw [List.mem_singleton.mp h]
      exact .inl rfl
theorem TimesOf.step {kvs : List (Key × V)} {ns : List Int} {x : Int} (T : TimesOf kvs ns) : TimesOf (putK kvs (kI x) (.int (ct x ns + 1))) (ns ++ [x]) := by
  refine ⟨?_, fun p => ?_, fun kv h => ?_, nodup_put T.nd⟩
  · have := length_putK kvs (kI x) (.int (ct x ns + 1))
    have := T.ln
    rw [List.length_append]
    show _ ≤ ns.length + 1
    omega
  · rw [valV_put, T.at_ p]
    by_cases c : p = x
    · subst c
      rw [if_pos rfl, if_pos (List.mem_append_right _ (List.mem_singleton.mpr rfl)), ct_snoc, if_pos rfl]
      rfl
    · have e1 : (if x = p then 1 else 0 : Nat) = 0 := if_neg (fun e => c e.symm)
      rw [if_neg (fun e => c (kI_inj.mp e)), ct_snoc, e1, Nat.add_zero]
      by_cases m : p ∈ ns
      · rw [if_pos m, if_pos (List.mem_append_left _ m)]
      · rw [if_neg m, if_neg (fun h => ?_)]
        rcases List.mem_append.mp h with h | h
        · exact m h
        · exact c (List.mem_singleton.mp h)
  · rcases TimesOf.mem_put h with e | ⟨kv', h1, e⟩
    · exact ⟨x, List.mem_append_right _ (List.mem_singleton.mpr rfl), e⟩
    · obtain ⟨p, hp, e2⟩ := T.ks kv' h1
      exact ⟨p, List.mem_append_left _ hp, e.trans e2⟩
theorem ct_zero {p : Int} {ns : List Int} (h : p ∉ ns) : ct p ns = 0 := by
  unfold ct
  rw [List.countP_eq_zero]
  intro x hx e
  have : x = p := by simpa using e
  exact h (this ▸ hx)
theorem TimesOf.getD {kvs : List (Key × V)} {ns : List Int} (T : TimesOf kvs ns) (x : Int) : (valV kvs (kI x)).getD (.int 0) = .int (ct x ns) := by
  rw [T.at_]
  by_cases m : x ∈ ns
  · rw [if_pos m]
    rfl
  · rw [if_neg m, ct_zero m]
    rfl
/-- each part keeps its bound -/
def kpT (fam : List Rule) (ns : List Int) (p : Int) : Bool := decide (bnd fam p = 0) || decide ((ct p ns : Int) < bnd fam p)
def kp (fam : List Rule) (ns : List Int) : Bool := ns.all (kpT fam ns)
theorem valV_mem {kvs : List (Key × V)} {k : Key} {v : V} (h : valV kvs k = some v) : ∃ kv ∈ kvs, kv.1 = k := by
  unfold valV at h
  cases e : kvs.find? fun kv => decide (kv.1 = k) with
  | none =>
    rw [e] at h
    cases h
  | some kv => exact ⟨kv, List.mem_of_find?_eq_some e, of_decide_eq_true (List.find?_some (p := fun kv : Key × V => decide (kv.1 = k)) e)⟩
def keyT (fam : List Rule) (ns : List Int) (k : Key) : Bool := match k with
  | .inl p => kpT fam ns p
  | .inr _ => true
theorem TimesOf.all {kvs : List (Key × V)} {ns : List Int} (T : TimesOf kvs ns) (fam : List Rule) : (kvs.map fun kv => keyT fam ns kv.1).all id = kp fam ns := by
  rw [List.all_map, Bool.eq_iff_iff]
  unfold kp
  rw [List.all_eq_true, List.all_eq_true]
  constructor
  · intro h p hp
    have e := T.at_ p
    rw [if_pos hp] at e
    obtain ⟨kv, h1, h2⟩ := valV_mem e
    have z : keyT fam ns kv.1 = true := h kv h1
    rw [h2] at z
    exact z
  · intro h kv hk
    obtain ⟨p, hp, e⟩ := T.ks kv hk
    show keyT fam ns kv.1 = true
    rw [e]
    exact h p hp
/-- the bounds of keys -/
structure BndOf (fam : List Rule) (bvs : List (Key × V)) (ks : List Key) : Prop where
  ln : bvs.length ≤ ks.length
  at_ : ∀ p : Int, kI p ∈ ks → valV bvs (kI p) = some (bndV fam p)
theorem BndOf.step {fam : List Rule} {bvs : List (Key × V)} {ks : List Key} {x : Int} (B : BndOf fam bvs ks) : BndOf fam (putK bvs (kI x) (bndV fam x)) (ks ++ [kI x]) := by
  refine ⟨?_, fun p h => ?_⟩
  · have := length_putK bvs (kI x) (bndV fam x)
    have := B.ln
    rw [List.length_append]
    show _ ≤ ks.length + 1
    omega
  · rw [valV_put]
    by_cases c : p = x
    · subst c
      rw [if_pos rfl]
    · rw [if_neg (fun e => c (kI_inj.mp e))]
      rcases List.mem_append.mp h with h | h
      · exact B.at_ p h
      · exact absurd (kI_inj.mp (List.mem_singleton.mp h)) c
theorem lock_old {H : Hp} {d b : Addr} {kvs : List (Key × V)} {o x : HO} (hd : H d = some (.dK kvs)) (hb : H b = some o) (ho : ∀ k, o ≠ .dK k) : upd H d x b = some o := by
  rw [upd_ne (fun z => ?_)]
  · exact hb
  · rw [z, hd] at hb
    cases hb
    exact ho _ rfl
theorem FamAt.lock {H : Hp} {d a : Addr} {kvs : List (Key × V)} {x : HO} {fam : List Rule} (h : FamAt H a fam) (hd : H d = some (.dK kvs)) : FamAt (upd H d x) a fam := by
  obtain ⟨ts, rs, e, r⟩ := h
  refine ⟨ts, rs, lock_old hd e (fun _ z => nomatch z), r.l1, r.l2, fun i t q f a b c => ?_⟩
  obtain ⟨g1, g2⟩ := r.at_ i t q f a b c
  exact ⟨lock_old hd g1 (fun _ z => nomatch z), lock_old hd g2 (fun _ z => nomatch z)⟩
theorem same_lock {H H' : Hp} {d : Addr} {o : Obj} {u : HO} (hd : H d = some u) (s : Same (upd H d (.frz o u)) H') : Same H (upd H' d u) := fun b ob e => by
  by_cases c : b = d
  · subst c
    rw [hd] at e
    rw [upd_same]
    exact e
  · rw [upd_ne c]
    exact s b ob (by rw [upd_ne c]; exact e)
end Fm
namespace Fm
open PySem PySem.Spec PyProof.Rows L2 Dr Xv LamX Ps Gn
theorem ints_ne (ns : List Int) : (!PyData.eqv (.list (intsD ns)) (.list (intsD []))) = decide (ns ≠ []) := by
  cases ns with
  | nil => exact eq_no []
  | cons x r => rfl
theorem tup_ne (ns : List Int) : (!PyData.eqv (tupD ns) (tupD [])) = decide (ns ≠ []) := by
  cases ns with
  | nil => exact eq_tup []
  | cons x r => rfl
theorem FamAt.sx {H H' : Hp} {a d l c : Addr} {fam : List Rule} (h : FamAt H a fam) (D : Draw H d l c) (n : a ≠ l) (s : SameX d l H H') : FamAt H' a fam := by
  obtain ⟨ls, cs, r, t, D⟩ := D
  obtain ⟨ts, rs, e, R⟩ := h
  have nd : ∀ {b : Addr} {xs : List V}, H b = some (.tup xs) → H' b = some (.tup xs) := fun {b xs} eb => s _ _ eb (ne_of eb D.dd (fun z => by cases z)) (ne_of eb D.dl (fun z => by cases z))
  exact ⟨ts, rs, s _ _ e (ne_of e D.dd (fun z => by cases z)) n, R.l1, R.l2, fun i t r f a b c => ⟨nd (R.at_ i t r f a b c).1, nd (R.at_ i t r f a b c).2⟩⟩
theorem tup_sx {H H' : Hp} {b d l c : Addr} {xs : List V} (D : Draw H d l c) (s : SameX d l H H') (eb : H b = some (.tup xs)) : H' b = some (.tup xs) := by
  obtain ⟨ls, cs, r, t, D⟩ := D
  exact s _ _ eb (ne_of eb D.dd (fun z => by cases z)) (ne_of eb D.dl (fun z => by cases z))
end Fm
namespace Fm
open PySem PySem.Spec PyProof.Rows L2 Dr Xv LamX Ps Gn
theorem asc_of : ∀ {ns : List Int}, ns.Pairwise (· < ·) → asc ns = true
  | [], _ => rfl
  | [_], _ => rfl
  | x :: y :: r, h => by
    have h1 := List.pairwise_cons.mp h
    show (decide (x < y) && asc (y :: r)) = true
    rw [decide_eq_true (h1.1 y List.mem_cons_self), asc_of h1.2]
    rfl
/-- some numbers below i, ascending -/
def Up (ks : List Int) (i : Int) : Prop := ks.Pairwise (· < ·) ∧ ∀ x ∈ ks, 0 ≤ x ∧ x < i
theorem Up.nil : Up [] 0 := ⟨.nil, fun x h => by cases h⟩
theorem Up.le {ks : List Int} {i j : Int} (h : Up ks i) (hj : i ≤ j) : Up ks j := ⟨h.1, fun x hx => by
  have := h.2 x hx
  omega⟩
theorem Up.snoc {ks : List Int} {i : Int} (h : Up ks i) (h0 : 0 ≤ i) : Up (ks ++ [i]) (i + 1) := by
  refine ⟨List.pairwise_append.mpr ⟨h.1, List.pairwise_singleton _ _, fun x hx y hy => ?_⟩, fun x hx => ?_⟩
  · rw [List.mem_singleton.mp hy]
    exact (h.2 x hx).2
  · rcases List.mem_append.mp hx with hx | hx
    · have := h.2 x hx
      omega
    · rw [List.mem_singleton.mp hx]
      omega
theorem Up.inR {ks : List Int} {i : Int} (h : Up ks i) : inR ks i = true := List.all_eq_true.mpr fun x hx => by
  have := h.2 x hx
  rw [decide_eq_true this.1, decide_eq_true this.2]
  rfl
theorem Up.good {ks : List Int} {m l : Int} (h : Up ks m) (n : ks ≠ []) (m1 : 1 ≤ m) (m2 : m ≤ 24) (l1 : 1 ≤ l) (l2 : l ≤ 9) : GoodR (m, ks, l) := ⟨m1, m2, l1, l2, n, h.inR, asc_of h.1⟩
theorem RulesAt.snoc {H H' : Hp} {ts rs : List Addr} {fam : List Rule} {t r : Addr} {f : Rule} (h : RulesAt H ts rs fam) (s : ∀ (b : Addr) (xs : List V), H b = some (.tup xs) → H' b = some (.tup xs)) (h1 : H' t = some (.tup [.int f.1, .ref r, .int f.2.2])) (h2 : H' r = some (.tup (f.2.1.map V.int))) : RulesAt H' (ts ++ [t]) (rs ++ [r]) (fam ++ [f]) := by
  refine ⟨by rw [List.length_append, List.length_append, h.l1]; rfl, by rw [List.length_append, List.length_append, h.l2]; rfl, fun i t' r' f' a b c => ?_⟩
  by_cases hi : i < fam.length
  · rw [List.getElem?_append_left (by rw [h.l1]; exact hi)] at a
    rw [List.getElem?_append_left (by rw [h.l2]; exact hi)] at b
    rw [List.getElem?_append_left hi] at c
    have g := h.at_ i t' r' f' a b c
    exact ⟨s _ _ g.1, s _ _ g.2⟩
  · rw [List.getElem?_append_right (by rw [h.l1]; omega), h.l1] at a
    rw [List.getElem?_append_right (by rw [h.l2]; omega), h.l2] at b
    rw [List.getElem?_append_right (by omega)] at c
    by_cases z : i - fam.length = 0
    · rw [z] at a b c
      cases a
      cases b
      cases c
      exact ⟨h1, h2⟩
    · rw [List.getElem?_eq_none (by show 1 ≤ _; omega)] at a
      cases a
/-- what is drawn -/
structure Drawn (fam : List Rule) : Prop where
  ln : fam.length ≤ 3
  r : ∀ f ∈ fam, GoodR f ∧ f.1 ≤ 6 ∧ f.2.2 ≤ 4
theorem Drawn.good {fam : List Rule} (h : Drawn fam) : Good fam := ⟨by have := h.ln; omega, fun f hf => (h.r f hf).1⟩
end Fm
namespace Fm
open PySem PySem.Spec PyProof.Rows L2 Dr Xv LamX Ps Gn
/-! the data of a family -/
def ruleD (f : Rule) : PyData := .tuple [.int f.1, tupD f.2.1, .int f.2.2]
def famD (fam : List Rule) : PyData := .list (fam.map ruleD)
theorem eq_rule (f : Rule) : (!PyData.eqv (ruleD f) (ruleD f)) = false := by
  have h := eq_tup f.2.1
  simp only [Bool.not_eq_false'] at h ⊢
  simp [ruleD, PyData.eqv, PyData.eqvAll, h]
theorem eq_fam (fam : List Rule) : (!PyData.eqv (famD fam) (famD fam)) = false := by
  induction fam with
  | nil => rfl
  | cons f r ih =>
    have h := eq_rule f
    simp only [Bool.not_eq_false'] at h ih ⊢
    simp only [famD, PyData.eqv, List.map_cons] at ih ⊢
    simp [PyData.eqvAll, h, ih]
theorem rule_dp {K : PySem.W.Frag} {H : Hp} {t r : Addr} {f : Rule} (h1 : H t = some (.tup [.int f.1, .ref r, .int f.2.2])) (h2 : H r = some (.tup (f.2.1.map V.int))) : Dp K H (.ref t) (ruleD f) := .tup (SqT.of h1) (.cons (.int _) (.cons (tup_dp h2) (.cons (.int _) .nil)))
theorem RulesAt.dp {K : PySem.W.Frag} {H : Hp} : ∀ {ts rs : List Addr} {fam : List Rule}, RulesAt H ts rs fam → DpAll K H (ts.map V.ref) (fam.map ruleD)
  | [], _, [], _ => .nil
  | [], _, _ :: _, h => by
    have := h.l1
    cases this
  | _ :: _, _, [], h => by
    have := h.l1
    cases this
  | _ :: _, [], _ :: _, h => by
    have := h.l2
    cases this
  | t :: ts, r :: rs, f :: fam, h => by
    have g := h.at_ 0 t r f rfl rfl rfl
    refine .cons (rule_dp g.1 g.2) (RulesAt.dp (rs := rs) ⟨Nat.succ.inj h.l1, Nat.succ.inj h.l2, fun i t' r' f' a b c => h.at_ (i + 1) t' r' f' a b c⟩)
theorem RulesAt.vt {H : Hp} {ts rs : List Addr} {fam : List Rule} {x : V} (r : RulesAt H ts rs fam) (G : Good fam) (e : Items H x (some (ts.map V.ref))) : FmV H x (some (fam.map fun _ => true)) := by
  have hl : (ts.map V.ref).length = (fam.map fun _ => true).length := by rw [List.length_map, List.length_map, r.l1]
  refine ⟨_, e, fun xs ex => ?_, .inr ⟨_, _, rfl, rfl, hl, fun i v b e1 e2 => ?_⟩⟩
  · cases ex
    rw [List.length_map, r.l1, sizeLine_eq]
    have := G.ln
    omega
  · obtain ⟨t, q, f, rfl, _, _, ef, g1, g2⟩ := r.get e1
    rw [List.getElem?_map, ef] at e2
    cases e2
    have g := G.r f (List.mem_of_getElem? ef)
    rw [← ruleOk_good g]
    have := inR_len g.ra g.as g.m2
    exact .tri (.tup g1) (.int _) (.int _) (.tup g2) (short_ints (by omega)) (pv_ints _)
end Fm
namespace Fm
open PySem PySem.Spec PyProof.Rows L2 Dr Xv LamX Ps Gn
theorem rules_lay : ∀ l : List Rule, PyData.canLayAll0 (l.map ruleD) = true
  | [] => rfl
  | z :: r => by
    show ((PyData.canLay0 (.int z.1) && (PyData.canLay0 (tupD z.2.1) && (PyData.canLay0 (.int z.2.2) && PyData.canLayAll0 []))) && PyData.canLayAll0 (r.map ruleD)) = true
    rw [rules_lay r, tup_lay]
    rfl
theorem rules_depth : ∀ l : List Rule, PyData.depthAll (l.map ruleD) ≤ 2
  | [] => Nat.zero_le _
  | z :: r => by
    show max (PyData.depth (ruleD z)) (PyData.depthAll (r.map ruleD)) ≤ 2
    refine Nat.max_le.mpr ⟨?_, rules_depth r⟩
    have h := tup_depth z.2.1
    show max 0 (max (PyData.depth (tupD z.2.1)) (max 0 0)) + 1 ≤ 2
    omega
theorem fam_shaped (fam : List Rule) : SeqAt.shaped (famD fam) = true := by
  show (PyData.canLayAll0 (fam.map ruleD) && decide (PyData.depthAll (fam.map ruleD) + 1 ≤ 64)) = true
  rw [rules_lay, decide_eq_true (by have := rules_depth fam; omega)]
  rfl
theorem fam_dp {K : PySem.W.Frag} {H : Hp} {a : Addr} {ts rs : List Addr} {fam : List Rule} (e : H a = some (.lst (ts.map V.ref))) (r : RulesAt H ts rs fam) : Dp K H (.ref a) (famD fam) := .lst (SqL.of e) r.dp
end Fm
namespace Fm
open PySem PySem.Spec PyProof.Rows L2 Dr Xv LamX Ps Gn
theorem tup_put {H : Hp} {b D : Addr} {xs ys : List V} {o : HO} (hD : H D = some (.lst ys)) (e : H b = some (.tup xs)) : upd H D o b = some (.tup xs) := by
  rw [upd_ne (fun z => by rw [z, hD] at e; cases e)]
  exact e
theorem FamAt.put {H : Hp} {a D : Addr} {ys : List V} {o : HO} {fam : List Rule} (h : FamAt H a fam) (hD : H D = some (.lst ys)) (n : a ≠ D) : FamAt (upd H D o) a fam := by
  obtain ⟨ts, rs, e, r⟩ := h
  refine ⟨ts, rs, by rw [upd_ne n]; exact e, r.l1, r.l2, fun i t q f a b c => ?_⟩
  obtain ⟨g1, g2⟩ := r.at_ i t q f a b c
  exact ⟨tup_put hD g1, tup_put hD g2⟩
theorem FamAt.ne {H : Hp} {a D : Addr} {fam : List Rule} (h : FamAt H a fam) (n : H D = none) : a ≠ D := by
  obtain ⟨ts, rs, e, r⟩ := h
  exact ne_of_none e n
end Fm

set_option Elab.async false
set_option linter.all false
set_option maxRecDepth 100000
set_option maxHeartbeats 4000000
set_option pp.maxSteps 3000
/-! partitions that keep bounds, counted -/
namespace Fm
open PySem PySem.Spec PyProof.Rows L2 Dr Xv LamX Ps Gn
theorem pw_split {f n g : Nat} (h : n ≠ 0) : Pt.pw (f + 1) n (g + 1) = (if g + 1 ≤ n then (Pt.pw f (n - (g + 1)) (g + 1)).map (fun r => (((g + 1 : Nat) : Int)) :: r) else []) ++ Pt.pw (f + 1) n g := by
  rw [Pt.pw_pos h, Pt.pw_pos h]
  by_cases c : g + 1 ≤ n
  · have e1 : min n (g + 1) = g + 1 := Nat.min_eq_right c
    have e2 : min n g = g := Nat.min_eq_right (by omega)
    rw [if_pos c]
    unfold Pt.pwJ
    rw [e1, e2, List.range_succ_eq_map, List.map_cons, List.flatten_cons, List.map_map]
    congr 2
    refine List.map_congr_left fun i hi => ?_
    show (Pt.pw f (n - (g + 1 - (i + 1))) (g + 1 - (i + 1))).map _ = _
    have e3 : g + 1 - (i + 1) = g - i := by omega
    rw [e3]
  · have e1 : min n (g + 1) = n := Nat.min_eq_left (by omega)
    have e2 : min n g = n := Nat.min_eq_left (by omega)
    rw [if_neg c, List.nil_append]
    unfold Pt.pwJ
    rw [e1, e2]
section
variable (bd : Int → Int)
/-- j of g stand ahead -/
def kb (g : Int) (j : Nat) (ps : List Int) : Bool := ps.all fun p => decide (bd p = 0) || decide (((ct p ps + if p = g then j else 0 : Nat) : Int) < bd p)
def k0 (ps : List Int) : Bool := ps.all fun p => decide (bd p = 0) || decide (((ct p ps : Nat) : Int) < bd p)
theorem kb_zero (g : Int) (ps : List Int) : kb bd g 0 ps = k0 bd ps := by
  unfold kb k0
  refine congrArg (List.all ps) (funext fun p => ?_)
  rw [ite_self, Nat.add_zero]
theorem all_congr {ps : List Int} {f h : Int → Bool} (e : ∀ p ∈ ps, f p = h p) : ps.all f = ps.all h := by
  induction ps with
  | nil => rfl
  | cons x r ih => rw [List.all_cons, List.all_cons, e x List.mem_cons_self, ih fun p hp => e p (List.mem_cons_of_mem _ hp)]
theorem kb_low {g : Int} {j : Nat} {ps : List Int} (h : ∀ x ∈ ps, x < g) : kb bd g j ps = k0 bd ps := by
  unfold kb k0
  refine all_congr fun p hp => ?_
  have := h p hp
  rw [if_neg (by omega), Nat.add_zero]
theorem ct_cons (p x : Int) (r : List Int) : ct p (x :: r) = ct p r + if x = p then 1 else 0 := by
  unfold ct
  rw [List.countP_cons]
  by_cases c : x = p
  · simp [c]
  · simp [c]
theorem kb_cons (g : Int) (j : Nat) (r : List Int) : kb bd g j (g :: r) = ((decide (bd g = 0) || decide (((j + 1 : Nat) : Int) < bd g)) && kb bd g (j + 1) r) := by
  have each : ∀ p, (ct p (g :: r) + if p = g then j else 0) = ct p r + if p = g then j + 1 else 0 := fun p => by
    rw [ct_cons]
    by_cases c : p = g
    · subst c
      rw [if_pos rfl, if_pos rfl, if_pos rfl]
      omega
    · rw [if_neg c, if_neg c, if_neg (fun e => c e.symm)]
  rw [Bool.eq_iff_iff, Bool.and_eq_true]
  unfold kb
  rw [List.all_cons, Bool.and_eq_true, each g, if_pos rfl]
  have er : (r.all fun p => decide (bd p = 0) || decide (((ct p (g :: r) + if p = g then j else 0 : Nat) : Int) < bd p)) = (r.all fun p => decide (bd p = 0) || decide (((ct p r + if p = g then j + 1 else 0 : Nat) : Int) < bd p)) := all_congr fun p _ => by rw [each p]
  rw [er]
  constructor
  · rintro ⟨h1, h2⟩
    refine ⟨?_, h2⟩
    rw [Bool.or_eq_true, decide_eq_true_eq, decide_eq_true_eq] at h1 ⊢
    rcases h1 with h | h
    · exact .inl h
    · exact .inr (by omega)
  · rintro ⟨h1, h2⟩
    refine ⟨?_, h2⟩
    by_cases m : g ∈ r
    · have z := List.all_eq_true.mp h2 g m
      rw [if_pos rfl] at z
      exact z
    · rw [Bool.or_eq_true, decide_eq_true_eq, decide_eq_true_eq] at h1 ⊢
      rw [ct_zero m]
      rcases h1 with h | h
      · exact .inl h
      · exact .inr (by omega)
/-- how many -/
def cJ (f n g j : Nat) : Nat := ((Pt.pw f n g).filter (kb bd g j)).length
def c0 (f n g : Nat) : Nat := ((Pt.pw f n g).filter (k0 bd)).length
theorem cJ_zero (f n g : Nat) : cJ bd f n g 0 = c0 bd f n g := by
  unfold cJ c0
  congr 2
  exact funext fun ps => kb_zero bd _ ps
theorem filter_map_cons (g : Int) (j : Nat) (l : List (List Int)) : ((l.map fun r => g :: r).filter (kb bd g j)).length = if (decide (bd g = 0) || decide (((j + 1 : Nat) : Int) < bd g)) = true then (l.filter (kb bd g (j + 1))).length else 0 := by
  rw [List.filter_map, List.length_map]
  have e : (kb bd g j ∘ fun r => g :: r) = fun r => (decide (bd g = 0) || decide (((j + 1 : Nat) : Int) < bd g)) && kb bd g (j + 1) r := funext fun r => kb_cons bd g j r
  rw [e]
  split
  · rename_i h
    rw [h]
    simp
  · rename_i h
    rw [Bool.not_eq_true] at h
    rw [h]
    simp
theorem cJ_step (f n g j : Nat) : cJ bd (f + 1) n (g + 1) j = (if g + 1 ≤ n ∧ (decide (bd ((g + 1 : Nat) : Int) = 0) || decide (((j + 1 : Nat) : Int) < bd ((g + 1 : Nat) : Int))) = true then cJ bd f (n - (g + 1)) (g + 1) (j + 1) else 0) + c0 bd (f + 1) n g := by
  by_cases h : n = 0
  · subst h
    rw [if_neg (fun z => by omega), Nat.zero_add]
    unfold cJ c0
    rw [Pt.pw_zero, Pt.pw_zero]
    rfl
  · unfold cJ
    rw [pw_split h, List.filter_append, List.length_append]
    congr 1
    · by_cases c : g + 1 ≤ n
      · rw [if_pos c, filter_map_cons]
        by_cases d : (decide (bd ((g + 1 : Nat) : Int) = 0) || decide (((j + 1 : Nat) : Int) < bd ((g + 1 : Nat) : Int))) = true
        · rw [if_pos d, if_pos ⟨c, d⟩]
        · rw [if_neg d, if_neg (fun z => d z.2)]
      · rw [if_neg c, if_neg (fun z => c z.1)]
        rfl
    · unfold c0
      congr 1
      refine List.filter_congr fun ps hps => ?_
      refine kb_low bd fun x hx => ?_
      have := (Pt.pw_good _ _ _ ps hps).hi x hx
      omega
end
end Fm
namespace Fm
open PySem PySem.Spec PyProof.Rows L2 Dr Xv LamX Ps Gn
section
variable (bd : Int → Int)
/-- the product of the first g factors -/
def cF : Nat → S
  | 0 => one
  | g + 1 => if bd ((g + 1 : Nat) : Int) = 0 then cv (G (g + 1)) (cF g) else cv (U ((g + 1) * (bd ((g + 1 : Nat) : Int)).toNat)) (cv (G (g + 1)) (cF g))
theorem G_step {p : Nat} (hp : 0 < p) (A : S) (n : Nat) : A n = cv (G p) A n - if p ≤ n then cv (G p) A (n - p) else 0 := by
  have e : cv (U p) (cv (G p) A) = A := by rw [← cv_assoc, UG hp, one_cv]
  have z := cv_U hp (cv (G p) A)
  rw [e] at z
  exact congrFun z n
theorem cJ_eq (hb : ∀ p, 0 ≤ bd p) (g : Nat) (A : S) (hA : ∀ f n : Nat, n < f → (c0 bd f n g : Int) = A n) : ∀ f n j : Nat, n < f → (bd ((g + 1 : Nat) : Int) = 0 ∨ (j : Int) < bd ((g + 1 : Nat) : Int)) →
    (cJ bd f n (g + 1) j : Int) = if bd ((g + 1 : Nat) : Int) = 0 then cv (G (g + 1)) A n else cv (U ((g + 1) * ((bd ((g + 1 : Nat) : Int)).toNat - j))) (cv (G (g + 1)) A) n
  | 0, n, j, h, _ => absurd h (by omega)
  | f + 1, n, j, h, hj => by
    rw [cJ_step, Int.natCast_add, hA (f + 1) n h]
    have st := G_step (p := g + 1) (Nat.succ_pos g) A n
    obtain ⟨b, hb2⟩ : ∃ b : Nat, bd ((g + 1 : Nat) : Int) = (b : Int) := ⟨(bd ((g + 1 : Nat) : Int)).toNat, by
      have := hb ((g + 1 : Nat) : Int)
      omega⟩
    have ih := fun m j => cJ_eq hb g A hA f m j
    rw [hb2] at hj ih ⊢
    by_cases z : (b : Int) = 0
    · rw [if_pos z]
      by_cases c : g + 1 ≤ n
      · rw [if_pos ⟨c, by rw [decide_eq_true z]; rfl⟩, ih _ _ (by omega) (.inl z), if_pos z]
        rw [if_pos c] at st
        omega
      · rw [if_neg (fun q => c q.1)]
        rw [if_neg c] at st
        omega
    · rw [if_neg z]
      have e1 : ((b : Int)).toNat = b := by omega
      rw [e1]
      have hj2 : j < b := by omega
      rw [cv_U (Nat.mul_pos (Nat.succ_pos g) (by omega))]
      show _ = cv (G (g + 1)) A n - (if (g + 1) * (b - j) ≤ n then cv (G (g + 1)) A (n - (g + 1) * (b - j)) else 0)
      by_cases d : j + 1 < b
      · have ee : (g + 1) * (b - j) = (g + 1) * (b - (j + 1)) + (g + 1) := by
          have : b - j = b - (j + 1) + 1 := by omega
          rw [this, Nat.mul_add, Nat.mul_one]
        rw [ee]
        by_cases c : g + 1 ≤ n
        · rw [if_pos ⟨c, by rw [decide_eq_true (by omega : ((j + 1 : Nat) : Int) < (b : Int)), Bool.or_true]⟩, ih _ _ (by omega) (.inr (by omega)), if_neg z, e1, cv_U (Nat.mul_pos (Nat.succ_pos g) (by omega))]
          rw [if_pos c] at st
          show cv (G (g + 1)) A (n - (g + 1)) - (if (g + 1) * (b - (j + 1)) ≤ n - (g + 1) then cv (G (g + 1)) A (n - (g + 1) - (g + 1) * (b - (j + 1))) else 0) + A n = _
          have e2 : n - (g + 1) - (g + 1) * (b - (j + 1)) = n - ((g + 1) * (b - (j + 1)) + (g + 1)) := by omega
          rw [e2]
          by_cases w : (g + 1) * (b - (j + 1)) ≤ n - (g + 1)
          · rw [if_pos w, if_pos (by omega)]
            omega
          · rw [if_neg w, if_neg (by omega)]
            omega
        · rw [if_neg (fun q => c q.1), if_neg (by omega)]
          rw [if_neg c] at st
          omega
      · have ee : (g + 1) * (b - j) = g + 1 := by
          have : b - j = 1 := by omega
          rw [this, Nat.mul_one]
        rw [ee, if_neg (fun q => ?_)]
        · omega
        · have q2 := q.2
          rw [Bool.or_eq_true, decide_eq_true_eq, decide_eq_true_eq] at q2
          omega
theorem c0_zero (f n : Nat) (h : n < f) : (c0 bd f n 0 : Int) = one n := by
  obtain ⟨f', rfl⟩ : ∃ f', f = f' + 1 := ⟨f - 1, by omega⟩
  unfold c0
  by_cases z : n = 0
  · subst z
    rw [Pt.pw_zero]
    rfl
  · rw [Pt.pw_pos z]
    show _ = if n = 0 then (1 : Int) else 0
    rw [if_neg z]
    unfold Pt.pwJ
    rw [Nat.min_zero]
    rfl
theorem c0_eq (hb : ∀ p, 0 ≤ bd p) : ∀ g f n, n < f → (c0 bd f n g : Int) = cF bd g n
  | 0, f, n, h => c0_zero bd f n h
  | g + 1, f, n, h => by
    have z := cJ_eq bd hb g (cF bd g) (fun f n h => c0_eq hb g f n h) f n 0 h (by
      have := hb ((g + 1 : Nat) : Int)
      omega)
    rw [cJ_zero, Nat.sub_zero] at z
    rw [z]
    show _ = (if bd ((g + 1 : Nat) : Int) = 0 then cv (G (g + 1)) (cF bd g) else _) n
    split <;> rfl
/-- the exponents -/
def bx : Nat → S
  | 0 => fun _ => 0
  | g + 1 => if bd ((g + 1 : Nat) : Int) = 0 then putS (bx g) (g + 1) 1 else putS (putS (bx g) (g + 1) 1) ((g + 1) * (bd ((g + 1 : Nat) : Int)).toNat) (-1)
theorem PI.gp {M e : Nat} {b A : S} (p : PI M b A) (h : 0 < e) : PI M (putS b e 1) (cv (G e) A) := by
  obtain ⟨A', L, z, a⟩ := p
  by_cases c : e ≤ M
  · refine ⟨cv (G e) A', ?_, ?_, fun n hn => cv_congr (N := M + 1) (fun i _ => rfl) (fun i hi => a i (by omega)) n (by omega)⟩
    · rw [put_near h M c, Int.mul_one]
      exact L.pos h
    · have z2 := G_step h A' 0
      rw [if_neg (by omega)] at z2
      omega
  · refine ⟨A', by rw [put_far (by omega)]; exact L, z, fun n hn => ?_⟩
    have z2 := G_step h A n
    rw [if_neg (by omega)] at z2
    rw [a n hn]
    omega
theorem PI.un {M e : Nat} {b A : S} (p : PI M b A) (h : 0 < e) : PI M (putS b e (-1)) (cv (U e) A) := by
  have z := p.neg h
  have ep : pfS b e (-1) = putS b e (-1) := by
    unfold pfS
    rw [if_neg (by decide)]
  rw [ep, mulF_neg h] at z
  exact z
theorem bx_PI (hb : ∀ p, 0 ≤ bd p) (M : Nat) : ∀ g, PI M (bx bd g) (cF bd g)
  | 0 => PI.start M
  | g + 1 => by
    have ih := bx_PI hb M g
    show PI M (if bd ((g + 1 : Nat) : Int) = 0 then _ else _) (if bd ((g + 1 : Nat) : Int) = 0 then _ else _)
    by_cases z : bd ((g + 1 : Nat) : Int) = 0
    · rw [if_pos z, if_pos z]
      exact PI.gp ih (Nat.succ_pos g)
    · rw [if_neg z, if_neg z]
      have := hb ((g + 1 : Nat) : Int)
      exact PI.un (PI.gp ih (Nat.succ_pos g)) (Nat.mul_pos (Nat.succ_pos g) (by omega))
theorem putS_at (b : S) (p : Nat) (c : Int) (n : Nat) : putS b p c n = b n + if n = p then c else 0 := by
  show (if n = p then b n + c else b n) = _
  split
  · rfl
  · rw [Int.add_zero]
/-- n comes from p -/
def hit (n : Nat) (p : Nat) : Int := if bd ((p + 1 : Nat) : Int) ≠ 0 ∧ n = (p + 1) * (bd ((p + 1 : Nat) : Int)).toNat then 1 else 0
theorem bx_at (n : Nat) : ∀ g, bx bd g n = sm (fun p => if n = p + 1 then 1 else 0) g - sm (hit bd n) g
  | 0 => rfl
  | g + 1 => by
    have ih := bx_at n g
    show (if bd ((g + 1 : Nat) : Int) = 0 then putS (bx bd g) (g + 1) 1 else _) n = (sm (fun p => if n = p + 1 then 1 else 0) g + (if n = g + 1 then 1 else 0)) - (sm (hit bd n) g + hit bd n g)
    by_cases z : bd ((g + 1 : Nat) : Int) = 0
    · have e1 : hit bd n g = 0 := if_neg (fun q => q.1 z)
      rw [if_pos z, putS_at, ih, e1]
      omega
    · rw [if_neg z, putS_at, putS_at, ih]
      by_cases w : n = (g + 1) * (bd ((g + 1 : Nat) : Int)).toNat
      · have e1 : hit bd n g = 1 := if_pos ⟨z, w⟩
        rw [if_pos w, e1]
        omega
      · have e1 : hit bd n g = 0 := if_neg (fun q => w q.2)
        rw [if_neg w, e1]
        omega
end
end Fm
namespace Fm
open PySem PySem.Spec PyProof.Rows L2 Dr Xv LamX Ps Gn
theorem sm_swap (F : Nat → Nat → Int) (m : Nat) : ∀ n, sm (fun i => sm (fun j => F i j) m) n = sm (fun j => sm (fun i => F i j) n) m
  | 0 => (sm_zero m).symm
  | n + 1 => by
    show sm (fun i => sm (fun j => F i j) m) n + sm (fun j => F n j) m = sm (fun j => sm (fun i => F i j) n + F n j) m
    rw [sm_swap F m n, sm_add]
/-- b leads to n -/
def lead (fam : List Rule) (n b : Nat) : Int := if b ∣ n ∧ bnd fam ((n / b : Nat) : Int) = (b : Int) then 1 else 0
theorem mTest_nat (fam : List Rule) (n b : Nat) (hb : 0 < b) : mTest fam (n : Int) (b : Int) = decide (b ∣ n ∧ bnd fam ((n / b : Nat) : Int) = (b : Int)) := by
  unfold mTest
  have e1 : ((n : Int)).fmod (b : Int) = ((n % b : Nat) : Int) := by
    rw [Int.fmod_eq_emod_of_nonneg _ (by omega)]
    exact (Int.natCast_emod n b).symm
  have e2 : ((n : Int)).fdiv (b : Int) = ((n / b : Nat) : Int) := by
    rw [Int.fdiv_eq_ediv_of_nonneg _ (by omega)]
    exact (Int.natCast_ediv n b).symm
  rw [e1, e2]
  by_cases c : b ∣ n
  · have : n % b = 0 := Nat.mod_eq_zero_of_dvd c
    rw [decide_eq_true (by omega : ((n % b : Nat) : Int) = 0), Bool.true_and]
    by_cases d : bnd fam ((n / b : Nat) : Int) = (b : Int)
    · rw [decide_eq_true d, decide_eq_true ⟨c, d⟩]
    · rw [decide_eq_false d, decide_eq_false (fun q => d q.2)]
  · have : n % b ≠ 0 := fun z => c (Nat.dvd_of_mod_eq_zero z)
    rw [decide_eq_false (by omega : ¬ ((n % b : Nat) : Int) = 0), Bool.false_and, decide_eq_false (fun q => c q.1)]
theorem mates_lead (fam : List Rule) (n : Nat) : ((mates fam (n : Int)).length : Int) = sm (fun i => lead fam n (i + 1)) 9 := by
  have key : ∀ (l : List Nat), (∀ b ∈ l, 0 < b) → (((l.map fun b : Nat => (b : Int)).filter (mTest fam (n : Int))).length : Int) = (l.map (lead fam n)).sum := by
    intro l
    induction l with
    | nil => exact fun _ => rfl
    | cons b r ih =>
      intro h
      have ih' := ih fun x hx => h x (List.mem_cons_of_mem _ hx)
      rw [List.map_cons, List.map_cons, List.sum_cons, ← ih']
      have et := mTest_nat fam n b (h b List.mem_cons_self)
      by_cases c : b ∣ n ∧ bnd fam ((n / b : Nat) : Int) = (b : Int)
      · rw [decide_eq_true c] at et
        rw [List.filter_cons_of_pos et, List.length_cons]
        unfold lead
        rw [if_pos c]
        omega
      · rw [decide_eq_false c] at et
        rw [List.filter_cons_of_neg (by rw [et]; exact Bool.false_ne_true)]
        unfold lead
        rw [if_neg c]
        omega
  unfold mates
  rw [List.length_map]
  have e := key [9, 8, 7, 6, 5, 4, 3, 2, 1] (by decide)
  have e2 : ([9, 8, 7, 6, 5, 4, 3, 2, 1] : List Nat).map (fun b : Nat => (b : Int)) = nines := rfl
  rw [e2] at e
  rw [e]
  show lead fam n 9 + (lead fam n 8 + (lead fam n 7 + (lead fam n 6 + (lead fam n 5 + (lead fam n 4 + (lead fam n 3 + (lead fam n 2 + (lead fam n 1 + 0)))))))) = 0 + lead fam n 1 + lead fam n 2 + lead fam n 3 + lead fam n 4 + lead fam n 5 + lead fam n 6 + lead fam n 7 + lead fam n 8 + lead fam n 9
  omega
theorem hit_lead (fam : List Rule) (Gd : Good fam) {n M : Nat} (h1 : 1 ≤ n) (h2 : n ≤ M) : sm (hit (bnd fam) n) M = sm (fun i => lead fam n (i + 1)) 9 := by
  have e1 : ∀ p, hit (bnd fam) n p = sm (fun i => if bnd fam ((p + 1 : Nat) : Int) = ((i + 1 : Nat) : Int) ∧ n = (p + 1) * (i + 1) then 1 else 0) 9 := fun p => by
    have hb := bnd_le Gd ((p + 1 : Nat) : Int)
    obtain ⟨b, eb⟩ : ∃ b : Nat, bnd fam ((p + 1 : Nat) : Int) = (b : Int) := ⟨(bnd fam ((p + 1 : Nat) : Int)).toNat, by omega⟩
    unfold hit
    rw [eb]
    have e0 : ((b : Int)).toNat = b := by omega
    rw [e0]
    by_cases z : b = 0
    · rw [if_neg (fun q => q.1 (by omega))]
      rw [sm_congr (g := fun _ => 0) 9 (fun i _ => if_neg (fun q => by have := q.1; omega)), sm_zero]
    · have e3 := sm_one_at (fun i => if (b : Int) = ((i + 1 : Nat) : Int) ∧ n = (p + 1) * (i + 1) then (1 : Int) else 0) (m := b - 1) 9 (by omega) fun i _ hi => if_neg (fun q => by have := q.1; omega)
      rw [e3]
      have e4 : b - 1 + 1 = b := by omega
      show _ = if (b : Int) = ((b - 1 + 1 : Nat) : Int) ∧ n = (p + 1) * (b - 1 + 1) then (1 : Int) else 0
      rw [e4]
      by_cases w : n = (p + 1) * b
      · rw [if_pos ⟨by omega, w⟩, if_pos ⟨rfl, w⟩]
      · rw [if_neg (fun q => w q.2), if_neg (fun q => w q.2)]
  rw [sm_congr M fun p _ => e1 p, sm_swap]
  refine sm_congr 9 fun i _ => ?_
  unfold lead
  by_cases c : (i + 1) ∣ n
  · obtain ⟨k, hk⟩ := c
    have k1 : 1 ≤ k := Nat.pos_of_ne_zero fun z => by
      rw [z, Nat.mul_zero] at hk
      omega
    have k2 : k ≤ n := by
      rw [hk]
      exact Nat.le_mul_of_pos_left k (Nat.succ_pos i)
    have e5 : n / (i + 1) = k := by
      rw [hk]
      exact Nat.mul_div_cancel_left k (Nat.succ_pos i)
    have e3 := sm_one_at (fun p => if bnd fam ((p + 1 : Nat) : Int) = ((i + 1 : Nat) : Int) ∧ n = (p + 1) * (i + 1) then (1 : Int) else 0) (m := k - 1) M (by omega) fun p _ hp => if_neg (fun q => by
      have q2 := q.2
      rw [hk, Nat.mul_comm] at q2
      have := Nat.eq_of_mul_eq_mul_right (Nat.succ_pos i) q2
      omega)
    rw [e3, e5]
    have e6 : k - 1 + 1 = k := by omega
    show (if bnd fam ((k - 1 + 1 : Nat) : Int) = ((i + 1 : Nat) : Int) ∧ n = (k - 1 + 1) * (i + 1) then (1 : Int) else 0) = _
    rw [e6]
    by_cases w : bnd fam (k : Int) = ((i + 1 : Nat) : Int)
    · rw [if_pos ⟨w, by rw [hk, Nat.mul_comm]⟩, if_pos ⟨⟨k, hk⟩, w⟩]
    · rw [if_neg (fun q => w q.1), if_neg (fun q => w q.2)]
  · rw [if_neg (fun q => c q.1)]
    rw [sm_congr (g := fun _ => 0) M (fun p _ => if_neg (fun q => c ⟨p + 1, by rw [q.2, Nat.mul_comm]⟩)), sm_zero]
/-- the exponents are those of the family -/
theorem pS_bx (fam : List Rule) (Gd : Good fam) {M i : Nat} (h : i < M) : pS fam i = bx (bnd fam) M (i + 1) := by
  rw [bx_at]
  have e1 : sm (fun p => if i + 1 = p + 1 then (1 : Int) else 0) M = 1 := by
    rw [sm_one_at _ (m := i) M h fun p _ hp => if_neg (fun q => hp (by omega))]
    exact if_pos rfl
  rw [e1, hit_lead fam Gd (by omega) (by omega), ← mates_lead]
  show 1 - ((mates fam ((i : Int) + 1)).length : Int) = _
  rfl
/-- HEART: the row counts the partitions that keep the bounds -/
theorem row_counts (fam : List Rule) (Gd : Good fam) {M f n : Nat} (hn : n ≤ M) (hf : n < f) : prA (pS fam) M n = (c0 (bnd fam) f n n : Int) := by
  have hb : ∀ p, 0 ≤ bnd fam p := fun p => (bnd_le Gd p).1
  have e1 := (bx_PI (bnd fam) hb M M).row (q := pS fam) (fun i hi => pS_bx fam Gd hi) n hn
  have e2 := (bx_PI (bnd fam) hb n n).row (q := pS fam) (fun i hi => pS_bx fam Gd hi) n (Nat.le_refl n)
  rw [c0_eq (bnd fam) hb n f n hf, ← e2, e1]
  rw [← e1]
  exact prA_far (pS fam) M n hn
end Fm

set_option Elab.async false
set_option linter.all false
set_option maxRecDepth 100000
set_option maxHeartbeats 4000000
set_option pp.maxSteps 3000
/-! math.lcm; periods of families -/
namespace Xv
open PySem PySem.Spec PyProof.Rows L2
def rLcm : List V → Hp → VK → Prop := fun vs H Q => ∃ a b : Nat, vs = [.int (a : Int), .int (b : Int)] ∧ a < 2 ^ 64 ∧ b < 2 ^ 64 ∧ Q (.int ((Nat.lcm a b : Nat) : Int)) H
theorem cr_lcm {X : Cx} : CallR X (.builtin "math.lcm") rLcm := by
  intro pins s σ H vs us Q I r h
  obtain ⟨a, b, rfl, ha, hb, q⟩ := h
  obtain ⟨t, u, rfl⟩ := Vals.int2 r
  have e : (((Nat.lcm 1 ((a : Int)).natAbs).lcm ((b : Int)).natAbs : Nat) : Int) = ((Nat.lcm a b : Nat) : Int) := by
    rw [Int.natAbs_natCast, Int.natAbs_natCast, Nat.lcm_one_left]
  refine PySem.W.mg_lcm_v (by rw [Int.natAbs_natCast]; exact ha) (by rw [Int.natAbs_natCast]; exact hb) e ?_ ⟨.int _, H, I.tok _, ⟨_, rfl⟩, q⟩
  rw [Int.natAbs_natCast]
  have h1 : Nat.lcm a b ≤ a * b := Nat.div_le_self _ _
  have h2 : a * b ≤ 2 ^ 64 * 2 ^ 64 := Nat.mul_le_mul (Nat.le_of_lt ha) (Nat.le_of_lt hb)
  have h3 : Nat.lcm a b < 2 ^ 129 := by
    have : (2 : Nat) ^ 64 * 2 ^ 64 < 2 ^ 129 := by decide
    omega
  have h4 : (Nat.lcm a b).log2 < 129 := by
    by_cases z : Nat.lcm a b = 0
    · rw [z]
      decide
    · exact (Nat.log2_lt z).mpr h3
  have h5 : bitsLine = 134217728 := by decide
  omega
end Xv
namespace Fm
open PySem PySem.Spec PyProof.Rows L2 Dr Xv LamX Ps Gn
def lcmL (ns : List Int) : Nat := ns.foldl (fun c n => Nat.lcm c n.natAbs) 1
theorem lcmL_snoc (ns : List Int) (x : Int) : lcmL (ns ++ [x]) = Nat.lcm (lcmL ns) x.natAbs := by
  unfold lcmL
  rw [List.foldl_append]
  rfl
theorem lcmL_pos {ns : List Int} (h : ∀ x ∈ ns, 1 ≤ x) : 0 < lcmL ns := by
  have key : ∀ (l : List Int) (c : Nat), 0 < c → (∀ x ∈ l, 1 ≤ x) → 0 < l.foldl (fun c n => Nat.lcm c n.natAbs) c := by
    intro l
    induction l with
    | nil => exact fun c hc _ => hc
    | cons y r ih =>
      intro c hc hl
      have := hl y List.mem_cons_self
      exact ih _ (Nat.lcm_pos hc (by omega)) fun x hx => hl x (List.mem_cons_of_mem _ hx)
  exact key ns 1 (by decide) h
theorem lcmL_le {ns : List Int} {b : Nat} (h : ∀ x ∈ ns, 1 ≤ x ∧ x ≤ (b : Int)) : lcmL ns ≤ b ^ ns.length := by
  have key : ∀ (l : List Int) (c : Nat), (∀ x ∈ l, 1 ≤ x ∧ x ≤ (b : Int)) → l.foldl (fun c n => Nat.lcm c n.natAbs) c ≤ c * b ^ l.length := by
    intro l
    induction l with
    | nil => exact fun c _ => by show c ≤ c * b ^ 0; rw [Nat.pow_zero, Nat.mul_one]; exact Nat.le_refl _
    | cons y r ih =>
      intro c hl
      have h1 := hl y List.mem_cons_self
      refine Nat.le_trans (ih _ fun x hx => hl x (List.mem_cons_of_mem _ hx)) ?_
      have h2 : Nat.lcm c y.natAbs ≤ c * y.natAbs := Nat.div_le_self _ _
      have h3 : c * y.natAbs ≤ c * b := Nat.mul_le_mul_left c (by omega)
      rw [List.length_cons, Nat.pow_succ, Nat.mul_comm (b ^ r.length) b, ← Nat.mul_assoc]
      exact Nat.mul_le_mul_right _ (Nat.le_trans h2 h3)
  have z := key ns 1 h
  rw [Nat.one_mul] at z
  exact z
theorem lcmL_dvd {ns : List Int} {x : Int} (h : x ∈ ns) : x.natAbs ∣ lcmL ns := by
  have keep : ∀ (l : List Int) (c d : Nat), d ∣ c → d ∣ l.foldl (fun c n => Nat.lcm c n.natAbs) c := by
    intro l
    induction l with
    | nil => exact fun _ _ h => h
    | cons y r ih => exact fun c d h => ih _ _ (Nat.dvd_trans h (Nat.dvd_lcm_left _ _))
  have key : ∀ (l : List Int) (c : Nat), x ∈ l → x.natAbs ∣ l.foldl (fun c n => Nat.lcm c n.natAbs) c := by
    intro l
    induction l with
    | nil => exact fun _ h => by cases h
    | cons y r ih =>
      intro c h
      rcases List.mem_cons.mp h with rfl | h
      · exact keep r _ _ (Nat.dvd_lcm_right _ _)
      · exact ih _ h
  exact key ns 1 h
def mods (fam : List Rule) : List Int := fam.map (·.1)
def less (fam : List Rule) : List Int := fam.map (·.2.2)
def per (fam : List Rule) : Nat := lcmL (mods fam) * lcmL (less fam)
theorem mods_b {fam : List Rule} (G : Good fam) : ∀ x ∈ mods fam, 1 ≤ x ∧ x ≤ ((24 : Nat) : Int) := fun x hx => by
  obtain ⟨f, hf, rfl⟩ := List.mem_map.mp hx
  exact ⟨(G.r f hf).m1, (G.r f hf).m2⟩
theorem less_b {fam : List Rule} (G : Good fam) : ∀ x ∈ less fam, 1 ≤ x ∧ x ≤ ((24 : Nat) : Int) := fun x hx => by
  obtain ⟨f, hf, rfl⟩ := List.mem_map.mp hx
  have := (G.r f hf).l2
  exact ⟨(G.r f hf).l1, by omega⟩
theorem lcm24 {ns : List Int} (h : ∀ x ∈ ns, 1 ≤ x ∧ x ≤ ((24 : Nat) : Int)) (hl : ns.length ≤ 6) : lcmL ns ≤ 191102976 := by
  have h1 := lcmL_le h
  have h2 : 24 ^ ns.length ≤ 24 ^ 6 := Nat.pow_le_pow_right (by decide) hl
  have h3 : (24 : Nat) ^ 6 = 191102976 := by decide
  omega
theorem per_pos {fam : List Rule} (G : Good fam) : 0 < per fam := Nat.mul_pos (lcmL_pos fun x hx => (mods_b G x hx).1) (lcmL_pos fun x hx => (less_b G x hx).1)
theorem per_lt {fam : List Rule} (G : Good fam) : per fam < 2 ^ 64 := by
  have h1 := lcm24 (mods_b G) (by rw [mods, List.length_map]; exact G.ln)
  have h2 := lcm24 (less_b G) (by rw [less, List.length_map]; exact G.ln)
  have h3 : per fam ≤ 191102976 * 191102976 := Nat.mul_le_mul h1 h2
  have h4 : 191102976 * 191102976 < 2 ^ 64 := by decide
  omega
/-! what comes again -/
theorem hits_mod {fam : List Rule} {p q : Int} (h : ∀ f ∈ fam, p.fmod f.1 = q.fmod f.1) : hits fam p = hits fam q := by
  unfold hits
  congr 1
  refine List.filter_congr fun f hf => ?_
  rw [h f hf]
theorem bnd_mod {fam : List Rule} {p q : Int} (h : ∀ f ∈ fam, p.fmod f.1 = q.fmod f.1) : bnd fam p = bnd fam q := by
  unfold bnd
  rw [hits_mod h]
theorem bnd_less {fam : List Rule} {p : Int} (h : bnd fam p ≠ 0) : bnd fam p ∈ less fam := by
  have z : hits fam p ≠ [] := fun e => h (bnd_zero e)
  have m := bnd_mem z
  unfold hits at m
  obtain ⟨f, hf, e⟩ := List.mem_map.mp m
  rw [← e]
  exact List.mem_map.mpr ⟨f, (List.mem_filter.mp hf).1, rfl⟩
theorem fmod_add {p f : Int} (hf : 1 ≤ f) (t : Nat) (h : f.natAbs ∣ t) : (p + (t : Int)).fmod f = p.fmod f := by
  obtain ⟨k, rfl⟩ := h
  rw [Int.fmod_eq_emod_of_nonneg _ (by omega), Int.fmod_eq_emod_of_nonneg _ (by omega)]
  have e : ((f.natAbs * k : Nat) : Int) = f * (k : Int) := by
    rw [Int.natCast_mul]
    congr 1
    omega
  rw [e, Int.add_mul_emod_self_left]
end Fm
namespace Fm
open PySem PySem.Spec PyProof.Rows L2 Dr Xv LamX Ps Gn
theorem lead_zero {fam : List Rule} {n b : Nat} (h0 : 0 < b) (h : ((b : Nat) : Int) ∉ less fam) : lead fam n b = 0 := by
  unfold lead
  refine if_neg fun q => h ?_
  rw [← q.2]
  exact bnd_less (by rw [q.2]; omega)
theorem lead_per {fam : List Rule} (G : Good fam) {n b T : Nat} (h0 : 0 < b) (hT : per fam ∣ T) : lead fam (n + T) b = lead fam n b := by
  by_cases c : ((b : Nat) : Int) ∈ less fam
  · have hb : b ∣ lcmL (less fam) := by
      have z := lcmL_dvd c
      rwa [Int.natAbs_natCast] at z
    obtain ⟨u, hu⟩ := hb
    obtain ⟨k, hk⟩ := hT
    have eT : T = b * (lcmL (mods fam) * u * k) := by
      rw [hk]
      unfold per
      rw [hu]
      ac_rfl
    have ed : (n + T) / b = n / b + lcmL (mods fam) * u * k := by
      rw [eT, Nat.add_mul_div_left _ _ h0]
    have e1 : b ∣ n + T ↔ b ∣ n := by
      rw [eT]
      exact (Nat.dvd_add_iff_left ⟨_, rfl⟩).symm
    have e2 : bnd fam (((n + T) / b : Nat) : Int) = bnd fam ((n / b : Nat) : Int) := by
      rw [ed, Int.natCast_add]
      refine bnd_mod fun f hf => ?_
      refine fmod_add (G.r f hf).m1 _ ?_
      have z := lcmL_dvd (ns := mods fam) (x := f.1) (List.mem_map.mpr ⟨f, hf, rfl⟩)
      rw [Nat.mul_assoc]
      exact Nat.dvd_trans z ⟨_, rfl⟩
    unfold lead
    rw [e2]
    by_cases w : b ∣ n ∧ bnd fam ((n / b : Nat) : Int) = (b : Int)
    · rw [if_pos w, if_pos ⟨e1.mpr w.1, w.2⟩]
    · rw [if_neg w, if_neg (fun q => w ⟨e1.mp q.1, q.2⟩)]
  · rw [lead_zero h0 c, lead_zero h0 c]
theorem pS_per {fam : List Rule} (G : Good fam) {i T : Nat} (hT : per fam ∣ T) : pS fam (i + T) = pS fam i := by
  have e : ∀ j : Nat, pS fam j = 1 - sm (fun k => lead fam (j + 1) (k + 1)) 9 := fun j => by
    rw [← mates_lead]
    rfl
  rw [e, e]
  have e2 : i + T + 1 = i + 1 + T := by omega
  rw [e2]
  congr 1
  exact sm_congr 9 fun k _ => lead_per G (Nat.succ_pos k) hT
theorem pS_mod {fam : List Rule} (G : Good fam) {i T : Nat} (hT : per fam ∣ T) : pS fam (i % T) = pS fam i := by
  have h := Nat.mod_add_div i T
  conv => rhs; rw [← h]
  exact (pS_per G (Nat.dvd_trans hT ⟨_, rfl⟩)).symm
/-! two rows of exponents -/
theorem prA_step (p : S) (j : Nat) : prA p (j + 1) (j + 1) = prA p j (j + 1) + p j := by
  have z := lapF_self (j + 1) (Nat.succ_pos j) (p j) (prA p j) (prA_zero p j) (p j).natAbs
  show lapF (j + 1) (p j) (p j).natAbs (prA p j) (j + 1) = _
  rw [z]
  by_cases c : 0 < p j
  · rw [if_pos c]
    omega
  · rw [if_neg c]
    omega
theorem prA_low (p : S) {j k : Nat} (h : k ≤ j) : prA p (j + 1) k = prA p j k := by
  rw [prA_far p (j + 1) k (by omega), prA_far p j k h]
end Fm
namespace Fm
open PySem PySem.Spec PyProof.Rows L2 Dr Xv LamX Ps Gn
/-- where two rows of exponents part, the first such n -/
def dueN (f g : S) (N : Nat) : Option Nat := (List.range N).find? fun i => decide (f i ≠ g i)
def dueV (f g : S) (N : Nat) : V := match dueN f g N with
  | none => .non
  | some i => .int ((i : Int) + 1)
end Fm
namespace Fm
open PySem PySem.Spec PyProof.Rows L2 Dr Xv LamX Ps Gn
theorem due_some {f g : S} {N i : Nat} (h : i < N) (h1 : ∀ j, j < i → f j = g j) (h2 : f i ≠ g i) : dueN f g N = some i := by
  unfold dueN
  rw [List.find?_range_eq_some]
  refine ⟨decide_eq_true h2, List.mem_range.mpr h, fun j hj => ?_⟩
  rw [h1 j hj]
  simp
theorem due_none {f g : S} {N : Nat} (h1 : ∀ j, j < N → f j = g j) : dueN f g N = none := by
  unfold dueN
  rw [List.find?_range_eq_none]
  intro j hj
  rw [h1 j hj]
  simp
theorem due_cases (f g : S) (N : Nat) : (∃ i, i < N ∧ (∀ j, j < i → f j = g j) ∧ f i ≠ g i) ∨ ∀ j, j < N → f j = g j := by
  induction N with
  | zero => exact .inr fun j h => absurd h (Nat.not_lt_zero j)
  | succ N ih =>
    rcases ih with ⟨i, h, h1, h2⟩ | h
    · exact .inl ⟨i, by omega, h1, h2⟩
    · by_cases c : f N = g N
      · refine .inr fun j hj => ?_
        by_cases e : j = N
        · rw [e, c]
        · exact h j (by omega)
      · exact .inl ⟨N, Nat.lt_succ_self N, h, c⟩
end Fm
namespace Fm
open PySem PySem.Spec PyProof.Rows L2 Dr Xv LamX Ps Gn
theorem fam1 {H : Hp} {r t f : Addr} {m l : Int} {rs : List Int} (hr : H r = none) (ht : upd H r (.tup (rs.map V.int)) t = none) (hf : upd (upd H r (.tup (rs.map V.int))) t (.tup [.int m, .ref r, .int l]) f = none) : FamAt (upd (upd (upd H r (.tup (rs.map V.int))) t (.tup [.int m, .ref r, .int l])) f (.lst [.ref t])) f [(m, rs, l)] := by
  have e1 := same_new (o := .lst [.ref t]) hf _ _ (same_new (o := .tup [.int m, .ref r, .int l]) ht r _ upd_same)
  have e2 := same_new (o := .lst [.ref t]) hf t _ upd_same
  refine ⟨[t], [r], upd_same, rfl, rfl, fun i t' r' f' a b c => ?_⟩
  match i, a, b, c with
  | 0, a, b, c =>
    cases a
    cases b
    cases c
    exact ⟨e2, e1⟩
theorem fam2 {H H1 : Hp} {r t r1 t1 f : Addr} {m l m1 l1 : Int} {rs rs1 : List Int} (g1 : H t = some (.tup [.int m, .ref r, .int l])) (g2 : H r = some (.tup (rs.map V.int))) (g3 : H t1 = some (.tup [.int m1, .ref r1, .int l1])) (g4 : H r1 = some (.tup (rs1.map V.int))) (hf : H f = none) : FamAt (upd H f (.lst [.ref t, .ref t1])) f [(m, rs, l), (m1, rs1, l1)] := by
  have s := same_new (o := .lst [.ref t, .ref t1]) hf
  refine ⟨[t, t1], [r, r1], upd_same, rfl, rfl, fun i t' r' f' a b c => ?_⟩
  match i, a, b, c with
  | 0, a, b, c =>
    cases a
    cases b
    cases c
    exact ⟨s _ _ g1, s _ _ g2⟩
  | 1, a, b, c =>
    cases a
    cases b
    cases c
    exact ⟨s _ _ g3, s _ _ g4⟩
/-- a list of two families -/
structure Pr (S d l : Addr) (H : Hp) (p a b : Addr) (fa fb : List Rule) : Prop where
  at_ : H p = some (.lst [.ref a, .ref b])
  pS : p ≠ S
  aS : a ≠ S
  bS : b ≠ S
  pd : p ≠ d
  pl : p ≠ l
  al : a ≠ l
  bl : b ≠ l
  Fa : FamAt H a fa
  Fb : FamAt H b fb
  Ga : Good fa
  Gb : Good fb
theorem Pr.same {S d l p a b : Addr} {H H' : Hp} {fa fb : List Rule} (h : Pr S d l H p a b fa fb) (s : Same H H') : Pr S d l H' p a b fa fb := { h with at_ := s _ _ h.at_, Fa := h.Fa.same s, Fb := h.Fb.same s }
theorem Pr.put {S d l p a b : Addr} {H : Hp} {fa fb : List Rule} {ys : List V} {o : HO} (h : Pr S d l H p a b fa fb) (hS : H S = some (.lst ys)) : Pr S d l (upd H S o) p a b fa fb := { h with at_ := by rw [upd_ne h.pS]; exact h.at_, Fa := h.Fa.put hS h.aS, Fb := h.Fb.put hS h.bS }
theorem Pr.sx {S d l c p a b : Addr} {H H' : Hp} {fa fb : List Rule} (h : Pr S d l H p a b fa fb) (D : Draw H d l c) (s : SameX d l H H') : Pr S d l H' p a b fa fb := { h with at_ := s _ _ h.at_ h.pd h.pl, Fa := h.Fa.sx D h.al s, Fb := h.Fb.sx D h.bl s }
theorem Pr.to {S S' d l p a b : Addr} {H : Hp} {fa fb : List Rule} (h : Pr S d l H p a b fa fb) (n : H S' = none) : Pr S' d l H p a b fa fb := { h with pS := ne_of_none h.at_ n, aS := h.Fa.ne n, bS := h.Fb.ne n }
theorem good0 {m l : Int} (m1 : 1 ≤ m) (m2 : m ≤ 24) (l1 : 1 ≤ l) (l2 : l ≤ 9) : GoodR (m, [0], l) := ⟨m1, m2, l1, l2, (fun z => by cases z), by
  show (decide ((0 : Int) ≤ 0) && decide (0 < m) && true) = true
  rw [decide_eq_true (by omega : (0 : Int) < m)]
  rfl, rfl⟩
theorem good_one {f : Rule} (h : GoodR f) : Good [f] := ⟨by show 1 ≤ 6; decide, fun g hg => by rw [List.mem_singleton.mp hg]; exact h⟩
theorem good_two {f g : Rule} (h : GoodR f) (k : GoodR g) : Good [f, g] := ⟨by show 2 ≤ 6; decide, fun x hx => by
  rcases List.mem_cons.mp hx with rfl | hx
  · exact h
  · rw [List.mem_singleton.mp hx]
    exact k⟩
end Fm
namespace Fm
open PySem PySem.Spec PyProof.Rows L2 Dr Xv LamX Ps Gn
theorem row_take {n m : Nat} {b : S} (h : m ≤ n) : cutV (rowOf n b) none (some (m : Int)) = rowOf m b := by
  show cutV (((List.range n).map b).map V.int) none (some (m : Int)) = _
  rw [cut_head (by rw [List.length_map, List.length_range]; exact h), ← List.map_take, List.take_range, Nat.min_eq_left h]
  rfl
theorem row_drop {m n : Nat} {b : S} : cutV (rowOf (m + n) b) (some (m : Int)) none = rowOf n fun i => b (m + i) := by
  show cutV (((List.range (m + n)).map b).map V.int) (some (m : Int)) none = _
  rw [cut_tail, ← List.map_drop]
  show _ = ((List.range n).map fun i => b (m + i)).map V.int
  congr 1
  refine List.ext_getElem (by rw [List.length_map, List.length_drop, List.length_range, List.length_map, List.length_range]; omega) fun i h1 h2 => ?_
  rw [List.getElem_map, List.getElem_drop, List.getElem_range, List.getElem_map, List.getElem_range]
theorem rep_ints (ns : List Int) : ∀ k : Nat, (List.replicate k (ns.map V.int)).flatten = ((List.replicate k ns).flatten).map V.int
  | 0 => rfl
  | k + 1 => by
    rw [List.replicate_succ, List.flatten_cons, rep_ints ns k, List.replicate_succ, List.flatten_cons, List.map_append]
theorem rep_get {ns : List Int} (h : 0 < ns.length) : ∀ (k i : Nat), i < k * ns.length → (List.replicate k ns).flatten[i]? = ns[i % ns.length]?
  | 0, i, hi => by omega
  | k + 1, i, hi => by
    rw [List.replicate_succ, List.flatten_cons]
    by_cases c : i < ns.length
    · rw [List.getElem?_append_left c, Nat.mod_eq_of_lt c]
    · have e := Nat.mod_eq_sub_mod (show ns.length ≤ i by omega)
      rw [List.getElem?_append_right (by omega), rep_get h k _ (by rw [Nat.add_mul] at hi; omega), e]
theorem rep_len (ns : List Int) : ∀ k : Nat, (List.replicate k ns).flatten.length = k * ns.length
  | 0 => by
    rw [Nat.zero_mul]
    rfl
  | k + 1 => by
    rw [List.replicate_succ, List.flatten_cons, List.length_append, rep_len ns k, Nat.add_mul]
    omega
theorem rep_take {P N k : Nat} {b : S} (hP : 0 < P) (h : N ≤ k * P) (hb : ∀ i, b (i % P) = b i) : ((List.replicate k ((List.range P).map b)).flatten).take N = (List.range N).map b := by
  have hl : ((List.range P).map b).length = P := by rw [List.length_map, List.length_range]
  refine List.ext_getElem? fun i => ?_
  by_cases c : i < N
  · rw [List.getElem?_take_of_lt c, rep_get (by rw [hl]; exact hP) k i (by rw [hl]; omega), hl, List.getElem?_map, List.getElem?_map, List.getElem?_range (Nat.mod_lt _ hP), List.getElem?_range c]
    show some (b (i % P)) = some (b i)
    rw [hb]
  · rw [List.getElem?_eq_none (by rw [List.length_take]; omega), List.getElem?_eq_none (by rw [List.length_map, List.length_range]; omega)]
/-- where two rows part, counted from 1 -/
def unl (f g : S) (N : Nat) : List Int := ((List.range N).filter fun i => decide (f i ≠ g i)).map fun i : Nat => (i : Int) + 1
theorem unl_succ (f g : S) (N : Nat) : unl f g (N + 1) = unl f g N ++ if f N = g N then [] else [(N : Int) + 1] := by
  unfold unl
  rw [List.range_succ, List.filter_append, List.map_append]
  by_cases c : f N = g N
  · rw [List.filter_cons_of_neg (by simp [c]), if_pos c]
    rfl
  · rw [List.filter_cons_of_pos (by simp [c]), if_neg c]
    rfl
theorem unl_len (f g : S) (N : Nat) : (unl f g N).length ≤ N := by
  unfold unl
  rw [List.length_map]
  have := List.length_filter_le (fun i => decide (f i ≠ g i)) (List.range N)
  rw [List.length_range] at this
  exact this
theorem unl_due (f g : S) (N : Nat) : (dueN f g N = none ∧ unl f g N = []) ∨ ∃ i r, dueN f g N = some i ∧ unl f g N = ((i : Int) + 1) :: r := by
  have h := List.head?_filter (p := fun i => decide (f i ≠ g i)) (l := List.range N)
  have e : dueN f g N = (List.range N).find? fun i => decide (f i ≠ g i) := rfl
  unfold unl
  rw [e, ← h]
  cases (List.range N).filter fun i => decide (f i ≠ g i) with
  | nil => exact .inl ⟨rfl, rfl⟩
  | cons i r => exact .inr ⟨i, _, rfl, rfl⟩
theorem due_spec {f g : S} {N i : Nat} (h : dueN f g N = some i) : i < N ∧ (∀ j, j < i → f j = g j) ∧ f i ≠ g i := by
  unfold dueN at h
  rw [List.find?_range_eq_some] at h
  obtain ⟨h1, h2, h3⟩ := h
  refine ⟨List.mem_range.mp h2, fun j hj => ?_, of_decide_eq_true h1⟩
  have z := h3 j hj
  rw [Bool.not_eq_true', decide_eq_false_iff_not] at z
  exact Classical.not_not.mp z
theorem RulesAt.append {H : Hp} {ts rs ts' rs' : List Addr} {fam fam' : List Rule} (h : RulesAt H ts rs fam) (g : RulesAt H ts' rs' fam') : RulesAt H (ts ++ ts') (rs ++ rs') (fam ++ fam') := by
  refine ⟨by rw [List.length_append, List.length_append, h.l1, g.l1], by rw [List.length_append, List.length_append, h.l2, g.l2], fun i t r f a b c => ?_⟩
  by_cases hi : i < fam.length
  · rw [List.getElem?_append_left (by rw [h.l1]; exact hi)] at a
    rw [List.getElem?_append_left (by rw [h.l2]; exact hi)] at b
    rw [List.getElem?_append_left hi] at c
    exact h.at_ i t r f a b c
  · rw [List.getElem?_append_right (by rw [h.l1]; omega), h.l1] at a
    rw [List.getElem?_append_right (by rw [h.l2]; omega), h.l2] at b
    rw [List.getElem?_append_right (by omega)] at c
    exact g.at_ _ t r f a b c
theorem RulesAt.rev {H : Hp} {ts rs : List Addr} {fam : List Rule} (h : RulesAt H ts rs fam) : RulesAt H ts.reverse rs.reverse fam.reverse := by
  refine ⟨by rw [List.length_reverse, List.length_reverse, h.l1], by rw [List.length_reverse, List.length_reverse, h.l2], fun i t r f a b c => ?_⟩
  have hi : i < fam.length := by
    have := (List.getElem?_eq_some_iff.mp c).1
    rwa [List.length_reverse] at this
  rw [List.getElem?_reverse (by rw [h.l1]; exact hi), h.l1] at a
  rw [List.getElem?_reverse (by rw [h.l2]; exact hi), h.l2] at b
  rw [List.getElem?_reverse hi] at c
  exact h.at_ _ t r f a b c
theorem RulesAt.take {H : Hp} {ts rs : List Addr} {fam : List Rule} (h : RulesAt H ts rs fam) (k : Nat) : RulesAt H (ts.take k) (rs.take k) (fam.take k) := by
  refine ⟨by rw [List.length_take, List.length_take, h.l1], by rw [List.length_take, List.length_take, h.l2], fun i t r f a b c => ?_⟩
  rw [List.getElem?_take] at a b c
  by_cases hi : i < k
  · rw [if_pos hi] at a b c
    exact h.at_ i t r f a b c
  · rw [if_neg hi] at a
    cases a
theorem good_other {fam : List Rule} (G : Good fam) (h : fam.length ≤ 5) : Good (fam.reverse ++ fam.take 1) := by
  refine ⟨by rw [List.length_append, List.length_reverse, List.length_take]; omega, fun f hf => ?_⟩
  rcases List.mem_append.mp hf with hf | hf
  · exact G.r f (List.mem_reverse.mp hf)
  · exact G.r f (List.mem_of_mem_take hf)
end Fm
namespace Fm
open PySem PySem.Spec PyProof.Rows L2 Dr Xv LamX Ps Gn
/-- the coefficients: alike below the first unlike exponent, unlike there -/
theorem prA_due {f g : S} {i : Nat} (h1 : ∀ j, j < i → f j = g j) (h2 : f i ≠ g i) : (∀ k, k < i + 1 → prA f (i + 1) k = prA g (i + 1) k) ∧ prA f (i + 1) (i + 1) ≠ prA g (i + 1) (i + 1) := by
  have e : prA f i = prA g i := prA_congr i h1
  refine ⟨fun k hk => ?_, fun z => ?_⟩
  · rw [prA_low f (by omega), prA_low g (by omega), e]
  · rw [prA_step, prA_step, e] at z
    exact h2 (by omega)
end Fm

set_option Elab.async false
set_option linter.all false
set_option maxRecDepth 100000
set_option maxHeartbeats 4000000
set_option pp.maxSteps 3000
/-! changing parts until none is full: however they are taken, the end is the same -/
namespace Pg
/-- how often each part stands -/
abbrev X : Type := Int → Nat
/-- bound (0: none), mate, what the mate gets -/
structure Gm where
  b : Int → Nat
  m : Int → Int
  g : Int → Nat
def Gm.ok (G : Gm) (x : X) (p : Int) : Prop := 0 < G.b p ∧ G.b p ≤ x p
def Gm.fire (G : Gm) (x : X) (p : Int) : X := fun r => x r - (if r = p then G.b p else 0) + (if r = G.m p then G.g p else 0)
def Gm.stable (G : Gm) (x : X) : Prop := ∀ p, 0 < G.b p → x p < G.b p
inductive Gm.Run (G : Gm) : Nat → X → X → Prop
  | nil (x : X) : G.Run 0 x x
  | cons {n : Nat} {x y : X} (p : Int) : G.ok x p → G.Run n (G.fire x p) y → G.Run (n + 1) x y
theorem ok_other {G : Gm} {x : X} {p q : Int} (n : p ≠ q) (h : G.ok x p) : G.ok (G.fire x q) p := by
  refine ⟨h.1, Nat.le_trans h.2 ?_⟩
  show x p ≤ x p - (if p = q then G.b q else 0) + _
  rw [if_neg n]
  omega
theorem fire_comm {G : Gm} {x : X} {p q : Int} (n : p ≠ q) (hp : G.ok x p) (hq : G.ok x q) : G.fire (G.fire x p) q = G.fire (G.fire x q) p := by
  funext r
  show x r - (if r = p then G.b p else 0) + (if r = G.m p then G.g p else 0) - (if r = q then G.b q else 0) + (if r = G.m q then G.g q else 0) = x r - (if r = q then G.b q else 0) + (if r = G.m q then G.g q else 0) - (if r = p then G.b p else 0) + (if r = G.m p then G.g p else 0)
  have h1 := hp.2
  have h2 := hq.2
  by_cases a : r = p
  · subst a
    rw [if_pos rfl, if_neg n]
    omega
  · rw [if_neg a]
    by_cases b : r = q
    · subst b
      rw [if_pos rfl]
      omega
    · rw [if_neg b]
      omega
/-- a part that is full is changed sooner or later -/
theorem Run.push {G : Gm} : ∀ {n : Nat} {x z : X} {p : Int}, G.Run n x z → G.stable z → G.ok x p → ∃ k, n = k + 1 ∧ G.Run k (G.fire x p) z
  | _, _, _, p, .nil x, hs, h => by
    have := hs p h.1
    have := h.2
    omega
  | _, x, z, p, .cons (n := n) q hq r, hs, h => by
    by_cases e : q = p
    · subst e
      exact ⟨n, rfl, r⟩
    · obtain ⟨k, rfl, r2⟩ := Run.push r hs (ok_other (fun z => e z.symm) h)
      refine ⟨k + 1, rfl, .cons q (ok_other e hq) ?_⟩
      rw [fire_comm (fun z => e z.symm) h hq]
      exact r2
theorem Run.diamond {G : Gm} : ∀ {a b : Nat} {x y z : X}, G.Run a x y → G.Run b x z → G.stable z → ∃ k, b = a + k ∧ G.Run k y z
  | _, b, _, _, z, .nil x, r, _ => ⟨b, (Nat.zero_add b).symm, r⟩
  | _, b, x, y, z, .cons (n := n) p hp r1, r, hs => by
    obtain ⟨k, rfl, r2⟩ := Run.push r hs hp
    obtain ⟨j, rfl, r3⟩ := Run.diamond r1 r2 hs
    exact ⟨j, by omega, r3⟩
theorem Run.same {G : Gm} {a b : Nat} {x y z : X} (h1 : G.Run a x y) (h2 : G.Run b x z) (s1 : G.stable y) (s2 : G.stable z) : y = z := by
  obtain ⟨k, _, r⟩ := Run.diamond h1 h2 s2
  cases r with
  | nil => rfl
  | cons p hp _ =>
    have := s1 p hp.1
    have := hp.2
    omega
theorem Run.trans {G : Gm} : ∀ {a b : Nat} {x y z : X}, G.Run a x y → G.Run b y z → G.Run (a + b) x z
  | _, b, _, _, _, .nil _, r => by
    rw [Nat.zero_add]
    exact r
  | _, b, _, _, _, .cons (n := n) p hp r1, r => by
    rw [Nat.add_right_comm]
    exact .cons p hp (Run.trans r1 r)
/-- the way back -/
structure Back (G G' : Gm) : Prop where
  b : ∀ p, 0 < G.b p → 0 < G.g p ∧ G'.b (G.m p) = G.g p ∧ G'.m (G.m p) = p ∧ G'.g (G.m p) = G.b p
theorem back_one {G G' : Gm} (B : Back G G') {x : X} {p : Int} (h : G.ok x p) : G'.ok (G.fire x p) (G.m p) ∧ G'.fire (G.fire x p) (G.m p) = x := by
  obtain ⟨h1, h2, h3, h4⟩ := B.b p h.1
  refine ⟨⟨by omega, ?_⟩, ?_⟩
  · rw [h2]
    show G.g p ≤ _ + (if G.m p = G.m p then G.g p else 0)
    rw [if_pos rfl]
    omega
  · funext r
    show x r - (if r = p then G.b p else 0) + (if r = G.m p then G.g p else 0) - (if r = G.m p then G'.b (G.m p) else 0) + (if r = G'.m (G.m p) then G'.g (G.m p) else 0) = x r
    rw [h2, h3, h4]
    have := h.2
    by_cases a : r = G.m p
    · rw [if_pos a]
      by_cases c : r = p
      · rw [if_pos c, c]
        omega
      · rw [if_neg c]
        omega
    · rw [if_neg a]
      by_cases c : r = p
      · rw [if_pos c, c]
        omega
      · rw [if_neg c]
        omega
theorem Run.back {G G' : Gm} (B : Back G G') : ∀ {n : Nat} {x y : X}, G.Run n x y → G'.Run n y x
  | _, _, _, .nil x => .nil x
  | _, x, y, .cons (n := n) p hp r => by
    obtain ⟨h1, h2⟩ := back_one B hp
    have r1 := Run.back B r
    have r2 : G'.Run 1 (G.fire x p) x := by
      refine .cons _ h1 ?_
      rw [h2]
      exact .nil x
    exact Run.trans r1 r2
/-- there is an end where something falls -/
theorem Run.ends {G : Gm} (I : X → Prop) (μ : X → Nat) (hI : ∀ x p, I x → G.ok x p → I (G.fire x p) ∧ μ (G.fire x p) < μ x) : ∀ (n : Nat) (x : X), I x → μ x ≤ n → ∃ k z, G.Run k x z ∧ G.stable z ∧ I z := by
  intro n
  induction n with
  | zero =>
    intro x hx hm
    by_cases s : G.stable x
    · exact ⟨0, x, .nil x, s, hx⟩
    · obtain ⟨p, hp⟩ := Classical.not_forall.mp s
      obtain ⟨h1, h2⟩ := Classical.not_imp.mp hp
      have := (hI x p hx ⟨h1, by omega⟩).2
      omega
  | succ n ih =>
    intro x hx hm
    by_cases s : G.stable x
    · exact ⟨0, x, .nil x, s, hx⟩
    · obtain ⟨p, hp⟩ := Classical.not_forall.mp s
      obtain ⟨h1, h2⟩ := Classical.not_imp.mp hp
      have ok : G.ok x p := ⟨h1, by omega⟩
      obtain ⟨h3, h4⟩ := hI x p hx ok
      obtain ⟨k, z, r, hz, hiz⟩ := ih _ h3 (by omega)
      exact ⟨k + 1, z, .cons p ok r, hz, hiz⟩
end Pg

set_option Elab.async false
set_option linter.all false
set_option maxRecDepth 100000
set_option maxHeartbeats 4000000
set_option pp.maxSteps 3000
/-! the game of two families -/
namespace Pg
open Fm
/-- how often one of 1 .. N, weighed -/
def tot (f : Nat → Nat) (x : X) : Nat → Nat
  | 0 => 0
  | n + 1 => tot f x n + f (n + 1) * x ((n + 1 : Nat) : Int)
theorem tot_congr {f : Nat → Nat} {x y : X} : ∀ n : Nat, (∀ i : Nat, i < n → x ((i + 1 : Nat) : Int) = y ((i + 1 : Nat) : Int)) → tot f x n = tot f y n
  | 0, _ => rfl
  | n + 1, h => by
    show tot f x n + _ = tot f y n + _
    rw [tot_congr n (fun i hi => h i (by omega)), h n (by omega)]
theorem tot_one {f : Nat → Nat} {x : X} {p : Nat} : ∀ n : Nat, 1 ≤ p → p ≤ n → f p * x (p : Int) ≤ tot f x n
  | 0, h, h2 => by omega
  | n + 1, h, h2 => by
    show _ ≤ tot f x n + f (n + 1) * x ((n + 1 : Nat) : Int)
    by_cases e : p = n + 1
    · subst e
      omega
    · have := tot_one (f := f) (x := x) n h (by omega)
      omega
/-- one place changed -/
theorem tot_set {f : Nat → Nat} {x y : X} {p : Nat} : ∀ n : Nat, 1 ≤ p → p ≤ n → (∀ r : Int, r ≠ (p : Int) → y r = x r) → tot f y n + f p * x (p : Int) = tot f x n + f p * y (p : Int)
  | 0, h, h2, _ => by omega
  | n + 1, h, h2, hy => by
    show tot f y n + f (n + 1) * y ((n + 1 : Nat) : Int) + _ = tot f x n + f (n + 1) * x ((n + 1 : Nat) : Int) + _
    by_cases e : p = n + 1
    · subst e
      have z : tot f y n = tot f x n := tot_congr n fun i hi => hy _ (by omega)
      rw [z]
      omega
    · have z := tot_set (f := f) n h (by omega) hy
      rw [hy ((n + 1 : Nat) : Int) (by omega)]
      omega
theorem tot_fire {G : Gm} {f : Nat → Nat} {x : X} {p q n : Nat} (p1 : 1 ≤ p) (p2 : p ≤ n) (q1 : 1 ≤ q) (q2 : q ≤ n) (h : G.ok x (p : Int)) (hm : G.m (p : Int) = (q : Int)) : tot f (G.fire x (p : Int)) n + f p * G.b (p : Int) = tot f x n + f q * G.g (p : Int) := by
  -- first the part itself, then its mate
  obtain ⟨y, hy⟩ : ∃ y : X, y = fun r => x r - (if r = (p : Int) then G.b (p : Int) else 0) := ⟨_, rfl⟩
  have e1 := tot_set (f := f) (x := x) (y := y) n p1 p2 (fun r hr => by
    rw [hy]
    show x r - (if r = (p : Int) then _ else 0) = x r
    rw [if_neg hr]
    rfl)
  have e2 := tot_set (f := f) (x := y) (y := G.fire x (p : Int)) n q1 q2 (fun r hr => by
    rw [hy]
    show x r - _ + (if r = G.m (p : Int) then _ else 0) = x r - _
    rw [hm, if_neg hr]
    rfl)
  have v1 : y (p : Int) = x (p : Int) - G.b (p : Int) := by
    rw [hy]
    show x (p : Int) - (if (p : Int) = (p : Int) then _ else 0) = _
    rw [if_pos rfl]
  have v2 : G.fire x (p : Int) (q : Int) = y (q : Int) + G.g (p : Int) := by
    rw [hy]
    show x (q : Int) - _ + (if (q : Int) = G.m (p : Int) then _ else 0) = x (q : Int) - _ + _
    rw [hm, if_pos rfl]
  have hb := h.2
  have m1 : f p * x (p : Int) = f p * (x (p : Int) - G.b (p : Int)) + f p * G.b (p : Int) := by
    rw [← Nat.mul_add]
    congr 1
    omega
  have m2 : f q * (y (q : Int) + G.g (p : Int)) = f q * y (q : Int) + f q * G.g (p : Int) := Nat.mul_add ..
  rw [v1] at e1
  rw [v2, m2] at e2
  omega
/-- what changes and what comes for it weigh the same -/
structure Fair (G : Gm) : Prop where
  f : ∀ p, 0 < G.b p → 1 ≤ p ∧ 1 ≤ G.m p ∧ 0 < G.g p ∧ p * (G.b p : Int) = G.m p * (G.g p : Int)
  inj : ∀ p q, 0 < G.b p → 0 < G.b q → G.m p = G.m q → p = q
/-- all of it within N, and what is its own mate is not full -/
structure Inv (G : Gm) (N : Nat) (x : X) : Prop where
  rg : ∀ r, x r ≠ 0 → 1 ≤ r ∧ r ≤ (N : Int)
  wt : tot (fun i => i) x N ≤ N
  own : ∀ p, 0 < G.b p → G.m p = p → x p < G.b p
theorem Inv.at_ {G : Gm} (F : Fair G) {N : Nat} {x : X} (I : Inv G N x) {p : Int} (h : G.ok x p) : ∃ i j : Nat, p = (i : Int) ∧ G.m p = (j : Int) ∧ 1 ≤ i ∧ i ≤ N ∧ 1 ≤ j ∧ j ≤ N ∧ i * G.b p = j * G.g p ∧ i ≠ j := by
  obtain ⟨f1, f2, f3, f4⟩ := F.f p h.1
  have hx : x p ≠ 0 := by
    have h1 := h.1
    have h2 := h.2
    omega
  obtain ⟨r1, r2⟩ := I.rg p hx
  obtain ⟨i, rfl⟩ : ∃ i : Nat, p = (i : Int) := ⟨p.toNat, by omega⟩
  obtain ⟨j, hj⟩ : ∃ j : Nat, G.m (i : Int) = (j : Int) := ⟨(G.m (i : Int)).toNat, by omega⟩
  rw [hj] at f2 f4
  have f5 : i * G.b (i : Int) = j * G.g (i : Int) := by
    have : ((i * G.b (i : Int) : Nat) : Int) = ((j * G.g (i : Int) : Nat) : Int) := by
      rw [Int.natCast_mul, Int.natCast_mul]
      exact f4
    omega
  have w1 := tot_one (f := fun i => i) (x := x) N (p := i) (by omega) (by omega)
  have w2 : i * G.b (i : Int) ≤ i * x (i : Int) := Nat.mul_le_mul_left _ h.2
  have w3 : j * 1 ≤ j * G.g (i : Int) := Nat.mul_le_mul_left _ f3
  have w4 := I.wt
  have w1' : i * x (i : Int) ≤ tot (fun i => i) x N := w1
  refine ⟨i, j, rfl, hj, by omega, by omega, by omega, by omega, f5, fun e => ?_⟩
  have o := I.own (i : Int) h.1 (by rw [hj, e])
  have := h.2
  omega
theorem Inv.fire {G : Gm} (F : Fair G) {N : Nat} {x : X} (I : Inv G N x) {p : Int} (h : G.ok x p) : Inv G N (G.fire x p) := by
  obtain ⟨i, j, rfl, hj, i1, i2, j1, j2, hw, hne⟩ := I.at_ F h
  refine ⟨fun r hr => ?_, ?_, fun q hq hm => ?_⟩
  · by_cases e : r = (j : Int)
    · subst e
      omega
    · refine I.rg r fun z => hr ?_
      show x r - _ + (if r = G.m (i : Int) then _ else 0) = 0
      rw [hj, if_neg e, z]
      omega
  · have z := tot_fire (f := fun i => i) i1 i2 j1 j2 h hj
    have w := I.wt
    have z' : tot (fun i => i) (G.fire x (i : Int)) N + i * G.b (i : Int) = tot (fun i => i) x N + j * G.g (i : Int) := z
    omega
  · have o := I.own q hq hm
    show x q - _ + (if q = G.m (i : Int) then _ else 0) < _
    have n : q ≠ G.m (i : Int) := fun e => by
      have z := F.inj q (i : Int) hq h.1 (by rw [hm]; exact e)
      rw [z] at hm
      rw [hj] at hm
      exact hne (by omega)
    rw [if_neg n]
    omega
/-- it ends: fewer parts each time -/
theorem ends_down {G : Gm} (F : Fair G) (hd : ∀ p, 0 < G.b p → G.g p ≤ 1) {N : Nat} {x : X} (I : Inv G N x) : ∃ k z, G.Run k x z ∧ G.stable z ∧ Inv G N z := by
  refine Run.ends (Inv G N) (fun x => tot (fun _ => 1) x N) (fun x p hx hp => ⟨hx.fire F hp, ?_⟩) _ x I (Nat.le_refl _)
  obtain ⟨i, j, rfl, hj, i1, i2, j1, j2, hw, hne⟩ := hx.at_ F hp
  have z := tot_fire (f := fun _ => 1) i1 i2 j1 j2 hp hj
  have z' : tot (fun _ => 1) (G.fire x (i : Int)) N + 1 * G.b (i : Int) = tot (fun _ => 1) x N + 1 * G.g (i : Int) := z
  have h1 := hd (i : Int) hp.1
  have h2 := hp.1
  have h3 : G.b (i : Int) ≠ 1 := fun e => by
    have h4 := (F.f (i : Int) hp.1).2.2.1
    have h5 : G.g (i : Int) = 1 := by omega
    rw [e, h5, Nat.mul_one, Nat.mul_one] at hw
    exact hne hw
  show tot (fun _ => 1) (G.fire x (i : Int)) N < tot (fun _ => 1) x N
  omega
theorem tot_le {x : X} : ∀ n : Nat, tot (fun _ => 1) x n ≤ tot (fun i => i) x n
  | 0 => Nat.le_refl _
  | n + 1 => by
    show tot (fun _ => 1) x n + 1 * x ((n + 1 : Nat) : Int) ≤ tot (fun i => i) x n + (n + 1) * x ((n + 1 : Nat) : Int)
    have h1 := tot_le (x := x) n
    have h2 : 1 * x ((n + 1 : Nat) : Int) ≤ (n + 1) * x ((n + 1 : Nat) : Int) := Nat.mul_le_mul_right _ (by omega)
    omega
/-- it ends: more parts each time -/
theorem ends_up {G : Gm} (F : Fair G) (hd : ∀ p, 0 < G.b p → G.b p ≤ 1) {N : Nat} {x : X} (I : Inv G N x) : ∃ k z, G.Run k x z ∧ G.stable z ∧ Inv G N z := by
  refine Run.ends (Inv G N) (fun x => N - tot (fun _ => 1) x N) (fun x p hx hp => ⟨hx.fire F hp, ?_⟩) _ x I (Nat.le_refl _)
  obtain ⟨i, j, rfl, hj, i1, i2, j1, j2, hw, hne⟩ := hx.at_ F hp
  have I2 := hx.fire F hp
  have z := tot_fire (f := fun _ => 1) i1 i2 j1 j2 hp hj
  have z' : tot (fun _ => 1) (G.fire x (i : Int)) N + 1 * G.b (i : Int) = tot (fun _ => 1) x N + 1 * G.g (i : Int) := z
  have h1 := hd (i : Int) hp.1
  have h2 := hp.1
  have h4 := (F.f (i : Int) hp.1).2.2.1
  have h3 : G.g (i : Int) ≠ 1 := fun e => by
    have h5 : G.b (i : Int) = 1 := by omega
    rw [e, h5, Nat.mul_one, Nat.mul_one] at hw
    exact hne hw
  have h6 := tot_le (x := G.fire x (i : Int)) N
  have h7 := I2.wt
  show N - tot (fun _ => 1) (G.fire x (i : Int)) N < N - tot (fun _ => 1) x N
  omega
/-- it ends at once: each is its own mate -/
theorem ends_own {G : Gm} (F : Fair G) (hd : ∀ p, 0 < G.b p → G.m p = p) {N : Nat} {x : X} (I : Inv G N x) : ∃ k z, G.Run k x z ∧ G.stable z ∧ Inv G N z :=
  ⟨0, x, .nil x, fun p hp => I.own p hp (hd p hp), I⟩
end Pg

set_option Elab.async false
set_option linter.all false
set_option maxRecDepth 100000
set_option maxHeartbeats 4000000
set_option pp.maxSteps 3000
namespace Pg
open Fm
theorem mem_mates {fam : List Rule} {n : Nat} {q : Int} (h1 : 1 ≤ n) (h : q ∈ mates fam (n : Int)) : ∃ a b : Nat, q = (a : Int) ∧ bnd fam q = (b : Int) ∧ a * b = n ∧ 1 ≤ a ∧ 1 ≤ b := by
  unfold mates at h
  obtain ⟨z, hz, rfl⟩ := List.mem_map.mp h
  obtain ⟨hz1, hz2⟩ := List.mem_filter.mp hz
  have zb : 1 ≤ z ∧ z ≤ 9 := by
    have : ∀ z ∈ nines, 1 ≤ z ∧ z ≤ 9 := by decide
    exact this z hz1
  obtain ⟨b, rfl⟩ : ∃ b : Nat, z = (b : Int) := ⟨z.toNat, by omega⟩
  rw [mTest_nat fam n b (by omega), decide_eq_true_eq] at hz2
  obtain ⟨⟨k, hk⟩, hb⟩ := hz2
  have e2 : ((n : Int)).fdiv (b : Int) = ((n / b : Nat) : Int) := by
    rw [Int.fdiv_eq_ediv_of_nonneg _ (by omega)]
    exact (Int.natCast_ediv n b).symm
  have e3 : n / b = k := by
    rw [hk]
    exact Nat.mul_div_cancel_left k (by omega)
  rw [e2, e3]
  rw [e3] at hb
  refine ⟨k, b, rfl, hb, by rw [hk, Nat.mul_comm], Nat.pos_of_ne_zero fun z => ?_, by omega⟩
  rw [z, Nat.mul_zero] at hk
  omega
theorem in_mates {fam : List Rule} (G : Good fam) {a b : Nat} (ha : 1 ≤ a) (hb : 1 ≤ b) (h : bnd fam (a : Int) = (b : Int)) : (a : Int) ∈ mates fam ((a * b : Nat) : Int) := by
  have hb9 := (bnd_le G (a : Int)).2
  unfold mates
  refine List.mem_map.mpr ⟨(b : Int), List.mem_filter.mpr ⟨?_, ?_⟩, ?_⟩
  · have : ∀ b : Nat, 1 ≤ b → b ≤ 9 → ((b : Nat) : Int) ∈ nines := by
      intro b h1 h2
      rcases (by omega : b = 1 ∨ b = 2 ∨ b = 3 ∨ b = 4 ∨ b = 5 ∨ b = 6 ∨ b = 7 ∨ b = 8 ∨ b = 9) with rfl | rfl | rfl | rfl | rfl | rfl | rfl | rfl | rfl <;> decide
    exact this b hb (by omega)
  · rw [mTest_nat fam _ b (by omega), decide_eq_true_eq]
    refine ⟨⟨a, Nat.mul_comm a b⟩, ?_⟩
    rw [Nat.mul_div_cancel a (by omega)]
    exact h
  · rw [Int.fdiv_eq_ediv_of_nonneg _ (by omega)]
    show ((a * b : Nat) : Int) / (b : Int) = _
    rw [← Int.natCast_ediv, Nat.mul_div_cancel a (by omega)]
theorem nodup_map {α β : Type} {f : α → β} : ∀ {l : List α}, l.Nodup → (∀ a ∈ l, ∀ b ∈ l, f a = f b → a = b) → (l.map f).Nodup
  | [], _, _ => .nil
  | x :: r, h, hf => by
    have h' := List.nodup_cons.mp h
    rw [List.map_cons]
    refine List.nodup_cons.mpr ⟨fun z => ?_, nodup_map h'.2 fun a ha b hb => hf a (List.mem_cons_of_mem _ ha) b (List.mem_cons_of_mem _ hb)⟩
    obtain ⟨y, hy, e⟩ := List.mem_map.mp z
    have := hf y (List.mem_cons_of_mem _ hy) x List.mem_cons_self e
    exact h'.1 (this ▸ hy)
theorem mates_nodup (fam : List Rule) (n : Int) : (mates fam n).Nodup := by
  unfold mates
  refine nodup_map (List.Pairwise.filter _ (by decide : nines.Nodup)) fun a ha b hb e => ?_
  have h1 := (List.mem_filter.mp ha).2
  have h2 := (List.mem_filter.mp hb).2
  unfold mTest at h1 h2
  rw [Bool.and_eq_true, decide_eq_true_eq, decide_eq_true_eq] at h1 h2
  rw [← h1.2, ← h2.2, e]
def mateF (one other : List Rule) (p : Int) : Int := (mates one (p * bnd other p)).getD ((mates other (p * bnd other p)).idxOf p) 0
def gm (one other : List Rule) : Gm := ⟨fun p => if 1 ≤ p then (bnd other p).toNat else 0, mateF one other, fun p => (bnd one (mateF one other p)).toNat⟩
/-- equally many for all n -/
def EqF (one other : List Rule) : Prop := ∀ n : Nat, 1 ≤ n → (mates one (n : Int)).length = (mates other (n : Int)).length
theorem EqF.symm {one other : List Rule} (h : EqF one other) : EqF other one := fun n hn => (h n hn).symm
/-- the mate -/
theorem mate_at {one other : List Rule} (G1 : Good one) (G2 : Good other) (E : EqF one other) {a b : Nat} (ha : 1 ≤ a) (hb : 1 ≤ b) (h : bnd other (a : Int) = (b : Int)) :
    ∃ (i c g : Nat), (mates other ((a * b : Nat) : Int))[i]? = some (a : Int) ∧ (mates one ((a * b : Nat) : Int))[i]? = some (c : Int) ∧ mateF one other (a : Int) = (c : Int) ∧ bnd one (c : Int) = (g : Int) ∧ c * g = a * b ∧ 1 ≤ c ∧ 1 ≤ g ∧ (mates other ((a * b : Nat) : Int)).idxOf (a : Int) = i := by
  have n1 : 1 ≤ a * b := Nat.mul_pos ha hb
  have m1 := in_mates G2 ha hb h
  have hi := List.idxOf_lt_length_of_mem m1
  obtain ⟨i, ei⟩ : ∃ i, i = (mates other ((a * b : Nat) : Int)).idxOf (a : Int) := ⟨_, rfl⟩
  have hi1 : i < (mates one ((a * b : Nat) : Int)).length := by
    rw [E (a * b) n1, ei]
    exact hi
  have e1 : (mates other ((a * b : Nat) : Int))[i]? = some (a : Int) := by
    rw [ei, List.getElem?_eq_getElem hi, List.getElem_idxOf]
  have m2 : (mates one ((a * b : Nat) : Int))[i] ∈ mates one ((a * b : Nat) : Int) := List.getElem_mem hi1
  obtain ⟨c, g, ec, eg, hcg, c1, g1⟩ := mem_mates n1 m2
  refine ⟨i, c, g, e1, by rw [List.getElem?_eq_getElem hi1, ec], ?_, by rw [← ec]; exact eg, hcg, c1, g1, ei.symm⟩
  unfold mateF
  have en : (a : Int) * bnd other (a : Int) = ((a * b : Nat) : Int) := by
    rw [h, Int.natCast_mul]
  rw [en, ← ei, List.getD_eq_getElem?_getD, List.getElem?_eq_getElem hi1, ec]
  rfl
theorem gm_b {one other : List Rule} (G : Good other) {p : Int} (h : 0 < (gm one other).b p) : ∃ a b : Nat, p = (a : Int) ∧ 1 ≤ a ∧ 1 ≤ b ∧ bnd other (a : Int) = (b : Int) ∧ (gm one other).b p = b := by
  have h' : 0 < (if 1 ≤ p then (bnd other p).toNat else 0) := h
  by_cases c : 1 ≤ p
  · rw [if_pos c] at h'
    have := bnd_le G p
    refine ⟨p.toNat, (bnd other p).toNat, by omega, by omega, by omega, ?_, ?_⟩
    · have e : ((p.toNat : Nat) : Int) = p := by omega
      rw [e]
      omega
    · show (if 1 ≤ p then (bnd other p).toNat else 0) = _
      rw [if_pos c]
  · rw [if_neg c] at h'
    omega
theorem gm_nat (one other : List Rule) {a b : Nat} (ha : 1 ≤ a) (h : bnd other (a : Int) = (b : Int)) : (gm one other).b (a : Int) = b := by
  show (if 1 ≤ (a : Int) then (bnd other (a : Int)).toNat else 0) = b
  rw [if_pos (by omega), h]
  rfl
theorem gm_back {one other : List Rule} (G1 : Good one) (G2 : Good other) (E : EqF one other) : Back (gm one other) (gm other one) := by
  refine ⟨fun p hp => ?_⟩
  obtain ⟨a, b, rfl, ha, hb, h, eb⟩ := gm_b G2 hp
  obtain ⟨i, c, g, e1, e2, em, eg, hw, c1, g1, _⟩ := mate_at G1 G2 E ha hb h
  have hm : (gm one other).m (a : Int) = (c : Int) := em
  have hg : (gm one other).g (a : Int) = g := by
    show (bnd one (mateF one other (a : Int))).toNat = g
    rw [em, eg]
    rfl
  have em2 : mateF other one (c : Int) = (a : Int) := by
    obtain ⟨j, a', b', f1, f2, fm, _, _, _, _, fj⟩ := mate_at G2 G1 E.symm c1 g1 eg
    rw [hw] at f1 f2 fj
    have hj : j = i := by
      have hil := (List.getElem?_eq_some_iff.mp e2)
      obtain ⟨hi, hc⟩ := hil
      rw [← fj, ← hc]
      exact (mates_nodup one _).idxOf_getElem i hi
    rw [hj, e1] at f2
    rw [fm]
    exact (Option.some.inj f2).symm
  rw [hm, hg]
  refine ⟨by omega, gm_nat other one c1 eg, em2, ?_⟩
  show (bnd other (mateF other one (c : Int))).toNat = (gm one other).b (a : Int)
  rw [em2, h, eb]
  rfl
theorem gm_fair {one other : List Rule} (G1 : Good one) (G2 : Good other) (E : EqF one other) : Fair (gm one other) := by
  refine ⟨fun p hp => ?_, fun p q hp hq e => ?_⟩
  · obtain ⟨a, b, rfl, ha, hb, h, eb⟩ := gm_b G2 hp
    obtain ⟨i, c, g, e1, e2, em, eg, hw, c1, g1, _⟩ := mate_at G1 G2 E ha hb h
    have hm : (gm one other).m (a : Int) = (c : Int) := em
    have hg : (gm one other).g (a : Int) = g := by
      show (bnd one (mateF one other (a : Int))).toNat = g
      rw [em, eg]
      rfl
    rw [hm, hg, eb]
    refine ⟨by omega, by omega, by omega, ?_⟩
    rw [← Int.natCast_mul, ← Int.natCast_mul, hw]
  · have B := gm_back G1 G2 E
    have h1 := (B.b p hp).2.2.1
    have h2 := (B.b q hq).2.2.1
    rw [← h1, ← h2, e]
end Pg

set_option Elab.async false
set_option linter.all false
set_option maxRecDepth 100000
set_option maxHeartbeats 4000000
set_option pp.maxSteps 3000
namespace Pg
open Fm
def ctx (ns : List Int) : X := fun p => ct p ns
theorem ctx_cons (x : Int) (r : List Int) (p : Int) : ctx (x :: r) p = ctx r p + if p = x then 1 else 0 := by
  unfold ctx ct
  rw [List.countP_cons]
  by_cases c : p = x
  · simp [c]
  · rw [if_neg c]
    have : ¬ (x == p) = true := fun e => c (beq_iff_eq.mp e).symm
    rw [if_neg this]
theorem ctx_mem {ns : List Int} {p : Int} : ctx ns p ≠ 0 ↔ p ∈ ns := by
  unfold ctx ct
  constructor
  · intro h
    obtain ⟨x, hx, e⟩ := List.countP_pos_iff.mp (Nat.pos_of_ne_zero h)
    have : x = p := by simpa using e
    exact this ▸ hx
  · intro h z
    rw [List.countP_eq_zero] at z
    exact z p h (by simp)
theorem tot_ctx : ∀ (ns : List Int) (N : Nat), (∀ x ∈ ns, 1 ≤ x ∧ x ≤ (N : Int)) → (tot (fun i => i) (ctx ns) N : Int) = ns.sum
  | [], N, _ => by
    have z : ∀ n, tot (fun i => i) (ctx []) n = 0 := fun n => by
      induction n with
      | zero => rfl
      | succ n ih =>
        show tot (fun i => i) (ctx []) n + (n + 1) * 0 = 0
        rw [ih, Nat.mul_zero]
    rw [z]
    rfl
  | x :: r, N, h => by
    have hx := h x List.mem_cons_self
    obtain ⟨a, rfl⟩ : ∃ a : Nat, x = (a : Int) := ⟨x.toNat, by omega⟩
    have ih := tot_ctx r N fun y hy => h y (List.mem_cons_of_mem _ hy)
    have z := tot_set (f := fun i => i) (x := ctx r) (y := ctx ((a : Int) :: r)) (p := a) N (by omega) (by omega) fun p hp => by
      rw [ctx_cons, if_neg hp, Nat.add_zero]
    have z' : tot (fun i => i) (ctx ((a : Int) :: r)) N + a * ctx r (a : Int) = tot (fun i => i) (ctx r) N + a * ctx ((a : Int) :: r) (a : Int) := z
    have e : ctx ((a : Int) :: r) (a : Int) = ctx r (a : Int) + 1 := by rw [ctx_cons, if_pos rfl]
    have e2 : a * (ctx r (a : Int) + 1) = a * ctx r (a : Int) + a := Nat.mul_succ ..
    rw [e, e2] at z'
    rw [List.sum_cons, ← ih]
    omega
theorem ctx_inj {ns ys : List Int} (h1 : ns.Pairwise (fun x y => y ≤ x)) (h2 : ys.Pairwise (fun x y => y ≤ x)) (h : ctx ns = ctx ys) : ns = ys := by
  refine List.Perm.eq_of_pairwise (fun a b _ _ x y => by omega) h1 h2 (List.perm_iff_count.mpr fun a => ?_)
  exact congrFun h a
/-- all of z, from N down -/
def lst (z : X) : Nat → List Int
  | 0 => []
  | n + 1 => List.replicate (z ((n + 1 : Nat) : Int)) ((n + 1 : Nat) : Int) ++ lst z n
theorem lst_mem {z : X} : ∀ {n : Nat} {x : Int}, x ∈ lst z n → 1 ≤ x ∧ x ≤ (n : Int)
  | 0, x, h => by cases h
  | n + 1, x, h => by
    rcases List.mem_append.mp h with h | h
    · have := (List.mem_replicate.mp h).2
      omega
    · have := lst_mem h
      omega
theorem lst_desc {z : X} : ∀ n : Nat, (lst z n).Pairwise (fun x y => y ≤ x)
  | 0 => .nil
  | n + 1 => by
    refine List.pairwise_append.mpr ⟨?_, lst_desc n, fun x hx y hy => ?_⟩
    · exact List.pairwise_replicate.mpr (.inr (Int.le_refl _))
    · have e := (List.mem_replicate.mp hx).2
      have := lst_mem hy
      omega
theorem lst_ct {z : X} : ∀ (n : Nat) (p : Int), ct p (lst z n) = if 1 ≤ p ∧ p ≤ (n : Int) then z p else 0
  | 0, p => by
    rw [if_neg (by omega)]
    rfl
  | n + 1, p => by
    show ct p (List.replicate (z ((n + 1 : Nat) : Int)) ((n + 1 : Nat) : Int) ++ lst z n) = _
    have ih := lst_ct (z := z) n p
    unfold ct at ih ⊢
    rw [List.countP_append, ih, List.countP_replicate]
    by_cases c : p = ((n + 1 : Nat) : Int)
    · subst c
      rw [if_pos (by simp), if_neg (by omega), if_pos (by omega)]
      rfl
    · have c2 : ¬ (((n + 1 : Nat) : Int) == p) = true := fun e => c (beq_iff_eq.mp e).symm
      rw [if_neg c2]
      by_cases d : 1 ≤ p ∧ p ≤ (n : Int)
      · rw [if_pos d, if_pos (by omega)]
        omega
      · rw [if_neg d, if_neg (by omega)]
theorem ctx_lst {G : Gm} {z : X} {N : Nat} (I : Inv G N z) : ctx (lst z N) = z := by
  funext p
  show ct p (lst z N) = z p
  rw [lst_ct]
  by_cases c : 1 ≤ p ∧ p ≤ (N : Int)
  · rw [if_pos c]
  · rw [if_neg c]
    by_cases e : z p = 0
    · exact e.symm
    · exact absurd (I.rg p e) c
theorem Run.inv {G : Gm} (F : Fair G) {N : Nat} {k : Nat} {x y : X} (I : Inv G N x) (r : G.Run k x y) : Inv G N y ∧ tot (fun i => i) y N = tot (fun i => i) x N := by
  induction r with
  | nil x => exact ⟨I, rfl⟩
  | cons p hp r ih =>
    obtain ⟨h1, h2⟩ := ih (I.fire F hp)
    refine ⟨h1, h2.trans ?_⟩
    obtain ⟨i, j, rfl, hj, i1, i2, j1, j2, hw, _⟩ := I.at_ F hp
    have z := tot_fire (f := fun i => i) i1 i2 j1 j2 hp hj
    have z' : _ + i * G.b (i : Int) = _ + j * G.g (i : Int) := z
    omega
/-- each kept partition stands at a beginning -/
theorem inv_of {one other : List Rule} (G1 : Good one) (G2 : Good other) (E : EqF one other) {ns : List Int} {N : Nat} (h1 : ∀ x ∈ ns, 1 ≤ x) (hs : ns.sum ≤ (N : Int)) (hk : kp one ns = true) : Inv (gm one other) N (ctx ns) := by
  have le : ∀ x ∈ ns, x ≤ (N : Int) := fun x hx => by
    have key : ∀ (l : List Int), (∀ y ∈ l, 1 ≤ y) → ∀ y ∈ l, y ≤ l.sum ∧ 0 ≤ l.sum := by
      intro l
      induction l with
      | nil => exact fun _ y h => by cases h
      | cons a r ih =>
        intro h y hy
        have ha := h a List.mem_cons_self
        have hr : 0 ≤ r.sum := by
          cases r with
          | nil => exact Int.le_refl _
          | cons b t => exact (ih (fun z hz => h z (List.mem_cons_of_mem _ hz)) b List.mem_cons_self).2
        rw [List.sum_cons]
        rcases List.mem_cons.mp hy with rfl | hy
        · omega
        · have := (ih (fun z hz => h z (List.mem_cons_of_mem _ hz)) y hy).1
          omega
    have := (key ns h1 x hx).1
    omega
  refine ⟨fun r hr => ?_, ?_, fun p hp hm => ?_⟩
  · have m := ctx_mem.mp hr
    exact ⟨h1 r m, le r m⟩
  · have z := tot_ctx ns N fun x hx => ⟨h1 x hx, le x hx⟩
    omega
  · obtain ⟨a, b, rfl, ha, hb, h, eb⟩ := gm_b G2 hp
    obtain ⟨f1, f2, f3, f4⟩ := (gm_fair G1 G2 E).f (a : Int) hp
    rw [hm, eb] at f4
    have eg : (gm one other).g (a : Int) = (bnd one (a : Int)).toNat := by
      show (bnd one (mateF one other (a : Int))).toNat = _
      have : mateF one other (a : Int) = (a : Int) := hm
      rw [this]
    have e : (b : Int) = ((gm one other).g (a : Int) : Int) := Int.eq_of_mul_eq_mul_left (by omega) f4
    rw [eb]
    have hb2 := bnd_le G1 (a : Int)
    by_cases m : (a : Int) ∈ ns
    · have z := List.all_eq_true.mp hk _ m
      unfold kpT at z
      rw [Bool.or_eq_true, decide_eq_true_eq, decide_eq_true_eq] at z
      show ct (a : Int) ns < b
      rcases z with z | z
      · omega
      · omega
    · have : ctx ns (a : Int) = 0 := Classical.not_not.mp fun q => m (ctx_mem.mp q)
      omega
theorem stable_of {one other : List Rule} (G2 : Good other) {ys : List Int} (hk : kp other ys = true) : (gm one other).stable (ctx ys) := fun p hp => by
  obtain ⟨a, b, rfl, ha, hb, h, eb⟩ := gm_b G2 hp
  rw [eb]
  by_cases m : (a : Int) ∈ ys
  · have z := List.all_eq_true.mp hk _ m
    unfold kpT at z
    rw [Bool.or_eq_true, decide_eq_true_eq, decide_eq_true_eq] at z
    show ct (a : Int) ys < b
    rcases z with z | z
    · omega
    · omega
  · have : ctx ys (a : Int) = 0 := Classical.not_not.mp fun q => m (ctx_mem.mp q)
    omega
theorem kp_of {one other : List Rule} (G2 : Good other) {ys : List Int} (h1 : ∀ x ∈ ys, 1 ≤ x) (hs : (gm one other).stable (ctx ys)) : kp other ys = true := by
  refine List.all_eq_true.mpr fun p hp => ?_
  unfold kpT
  rw [Bool.or_eq_true, decide_eq_true_eq, decide_eq_true_eq]
  have p1 := h1 p hp
  have hb := bnd_le G2 p
  by_cases c : bnd other p = 0
  · exact .inl c
  · refine .inr ?_
    have eb : (gm one other).b p = (bnd other p).toNat := by
      show (if 1 ≤ p then (bnd other p).toNat else 0) = _
      rw [if_pos p1]
    have z := hs p (by omega)
    have z' : ct p ys < (gm one other).b p := z
    omega
/-- one leads to the other -/
structure PairR (one other : List Rule) (ns ys : List Int) : Prop where
  ds : ys.Pairwise (fun x y => y ≤ x)
  lo : ∀ y ∈ ys, 1 ≤ y
  run : ∃ k, (gm one other).Run k (ctx ns) (ctx ys)
  st : (gm one other).stable (ctx ys)
theorem PairR.uniq {one other : List Rule} {ns ys zs : List Int} (h : PairR one other ns ys) (g : PairR one other ns zs) : ys = zs := by
  obtain ⟨k, r⟩ := h.run
  obtain ⟨j, t⟩ := g.run
  exact ctx_inj h.ds g.ds (Run.same r t h.st g.st)
theorem PairR.back {one other : List Rule} (G1 : Good one) (G2 : Good other) (E : EqF one other) {ns ys : List Int} (h : PairR one other ns ys) (hd : ns.Pairwise (fun x y => y ≤ x)) (h1 : ∀ x ∈ ns, 1 ≤ x) (hk : kp one ns = true) : PairR other one ys ns := by
  obtain ⟨k, r⟩ := h.run
  exact ⟨hd, h1, ⟨k, Run.back (gm_back G1 G2 E) r⟩, stable_of G1 hk⟩
/-- the three ways families stand to one another here -/
def Cl (one other : List Rule) : Prop := (∀ p, bnd one p ≤ 1) ∨ (∀ p, bnd other p ≤ 1) ∨ ∀ p, bnd one p = bnd other p
theorem Cl.symm {one other : List Rule} (h : Cl one other) : Cl other one := by
  rcases h with h | h | h
  · exact .inr (.inl h)
  · exact .inl h
  · exact .inr (.inr fun p => (h p).symm)
theorem ends {one other : List Rule} (G1 : Good one) (G2 : Good other) (E : EqF one other) (C : Cl one other) {N : Nat} {x : X} (I : Inv (gm one other) N x) : ∃ k z, (gm one other).Run k x z ∧ (gm one other).stable z ∧ Inv (gm one other) N z := by
  have F := gm_fair G1 G2 E
  rcases C with h | h | h
  · refine ends_down F (fun p hp => ?_) I
    show (bnd one (mateF one other p)).toNat ≤ 1
    have := h (mateF one other p)
    omega
  · refine ends_up F (fun p hp => ?_) I
    obtain ⟨a, b, rfl, ha, hb, e, eb⟩ := gm_b G2 hp
    have := h (a : Int)
    omega
  · refine ends_own F (fun p hp => ?_) I
    obtain ⟨a, b, rfl, ha, hb, e, eb⟩ := gm_b G2 hp
    obtain ⟨i, c, g, e1, e2, em, eg, hw, c1, g1, _⟩ := mate_at G1 G2 E ha hb e
    have hm : mates one ((a * b : Nat) : Int) = mates other ((a * b : Nat) : Int) := by
      unfold mates mTest
      have : bnd one = bnd other := funext h
      rw [this]
    rw [hm, e1] at e2
    show mateF one other (a : Int) = (a : Int)
    rw [em]
    exact (Option.some.inj e2).symm
theorem pair_ex {one other : List Rule} (G1 : Good one) (G2 : Good other) (E : EqF one other) (C : Cl one other) {ns : List Int} (h1 : ∀ x ∈ ns, 1 ≤ x) (hk : kp one ns = true) : ∃ ys, PairR one other ns ys ∧ ys.sum = ns.sum := by
  obtain ⟨N, hN⟩ : ∃ N : Nat, ns.sum ≤ (N : Int) := ⟨ns.sum.toNat, by omega⟩
  have I := inv_of G1 G2 E h1 hN hk
  obtain ⟨k, z, r, s, Iz⟩ := ends G1 G2 E C I
  have ez := ctx_lst Iz
  refine ⟨lst z N, ⟨lst_desc N, fun y hy => (lst_mem hy).1, ⟨k, by rw [ez]; exact r⟩, by rw [ez]; exact s⟩, ?_⟩
  have t := (Run.inv (gm_fair G1 G2 E) I r).2
  have t1 := tot_ctx (lst z N) N fun x hx => lst_mem hx
  have t2 := tot_ctx ns N fun x hx => I.rg x (ctx_mem.mpr hx)
  rw [ez, t, t2] at t1
  exact t1.symm
end Pg

set_option Elab.async false
set_option linter.all false
set_option maxRecDepth 100000
set_option maxHeartbeats 4000000
set_option pp.maxSteps 3000
/-! the dict of how often each part occurs, while it changes -/
namespace Pg
open PySem PySem.Spec PyProof.Rows L2 Dr Xv LamX Ps Gn Fm
structure DX (kvs : List (Key × V)) (ks : List Int) (N : Nat) (x : X) : Prop where
  km : kvs.map (·.1) = ks.map Sum.inl
  nd : ks.Nodup
  rg : ∀ p ∈ ks, 1 ≤ p ∧ p ≤ (N : Int)
  at_ : ∀ p ∈ ks, valV kvs (kI p) = some (.int (x p))
  no : ∀ p, p ∉ ks → valV kvs (kI p) = none ∧ x p = 0
theorem nodup_len : ∀ (N : Nat) (ks : List Int), ks.Nodup → (∀ p ∈ ks, 1 ≤ p ∧ p ≤ (N : Int)) → ks.length ≤ N
  | 0, ks, _, h => by
    cases ks with
    | nil => exact Nat.le_refl _
    | cons p r =>
      have := h p List.mem_cons_self
      omega
  | N + 1, ks, hn, h => by
    have ih := nodup_len N (ks.erase ((N + 1 : Nat) : Int)) (hn.erase _) fun p hp => by
      have h1 := h p (List.mem_of_mem_erase hp)
      have h2 : p ≠ ((N + 1 : Nat) : Int) := fun e => by
        rw [e] at hp
        exact hn.not_mem_erase hp
      omega
    have e := List.length_erase (l := ks) (a := ((N + 1 : Nat) : Int))
    split at e <;> omega
theorem DX.len {kvs : List (Key × V)} {ks : List Int} {N : Nat} {x : X} (D : DX kvs ks N x) : ks.length ≤ N := nodup_len N ks D.nd D.rg
theorem DX.of {kvs : List (Key × V)} {ns : List Int} {N : Nat} (T : TimesOf kvs ns) (h : ∀ p ∈ ns, 1 ≤ p ∧ p ≤ (N : Int)) : ∃ ks, DX kvs ks N (ctx ns) := by
  have key : ∀ l : List (Key × V), (∀ kv ∈ l, ∃ p ∈ ns, kv.1 = kI p) → ∃ ks : List Int, l.map (·.1) = ks.map Sum.inl ∧ ∀ p ∈ ks, p ∈ ns := by
    intro l
    induction l with
    | nil => exact fun _ => ⟨[], rfl, fun p h => by cases h⟩
    | cons kv r ih =>
      intro hl
      obtain ⟨p, hp, e⟩ := hl kv List.mem_cons_self
      obtain ⟨ks, e2, hk⟩ := ih fun kv' h' => hl kv' (List.mem_cons_of_mem _ h')
      refine ⟨p :: ks, ?_, fun q hq => ?_⟩
      · rw [List.map_cons, e2, e]
        rfl
      · rcases List.mem_cons.mp hq with rfl | hq
        · exact hp
        · exact hk q hq
  obtain ⟨ks, e, hk⟩ := key kvs T.ks
  have hin : ∀ p, p ∈ ns → p ∈ ks := fun p hp => by
    have h1 := T.at_ p
    rw [if_pos hp] at h1
    have h2 : (kvs.any fun kv => decide (kv.1 = kI p)) = true := by
      rw [valV_any, h1]
      rfl
    have h3 := (keys_any kvs (kI p)).mp h2
    rw [e] at h3
    obtain ⟨q, hq, eq⟩ := List.mem_map.mp h3
    have : q = p := by
      unfold kI at eq
      injection eq
    exact this ▸ hq
  refine ⟨ks, e, ?_, fun p hp => h p (hk p hp), fun p hp => ?_, fun p hp => ?_⟩
  · have z := T.nd
    rw [e] at z
    rw [List.nodup_iff_pairwise_ne, List.pairwise_map] at z
    exact List.nodup_iff_pairwise_ne.mpr (z.imp fun h1 e1 => h1 (by rw [e1]))
  · rw [T.at_, if_pos (hk p hp)]
    rfl
  · have n1 : p ∉ ns := fun z => hp (hin p z)
    refine ⟨by rw [T.at_, if_neg n1], Classical.not_not.mp fun z => n1 (ctx_mem.mp z)⟩
/-- one place written -/
theorem DX.put {kvs : List (Key × V)} {ks : List Int} {N : Nat} {x y : X} {p : Int} {v : Nat} (D : DX kvs ks N x) (h : 1 ≤ p ∧ p ≤ (N : Int)) (h1 : y p = v) (h2 : ∀ r, r ≠ p → y r = x r) : ∃ ks', DX (putK kvs (kI p) (.int (v : Int))) ks' N y := by
  have hk : kI p ∈ kvs.map (·.1) ↔ p ∈ ks := by
    rw [D.km]
    constructor
    · intro z
      obtain ⟨q, hq, eq⟩ := List.mem_map.mp z
      have : q = p := by
        unfold kI at eq
        injection eq
      exact this ▸ hq
    · exact fun z => List.mem_map.mpr ⟨p, z, rfl⟩
  by_cases c : p ∈ ks
  · refine ⟨ks, ?_, D.nd, D.rg, fun q hq => ?_, fun q hq => ?_⟩
    · rw [keys_put_in (hk.mpr c), D.km]
    · rw [valV_put]
      by_cases e : q = p
      · rw [if_pos (by rw [e]), e, h1]
      · rw [if_neg (fun z => e (kI_inj.mp z)), D.at_ q hq, h2 q e]
    · have e : q ≠ p := fun z => hq (z ▸ c)
      rw [valV_put, if_neg (fun z => e (kI_inj.mp z)), h2 q e]
      exact D.no q hq
  · refine ⟨ks ++ [p], ?_, ?_, fun q hq => ?_, fun q hq => ?_, fun q hq => ?_⟩
    · rw [keys_put_new (fun z => c (hk.mp z)), D.km, List.map_append]
      rfl
    · refine List.nodup_append.mpr ⟨D.nd, List.nodup_cons.mpr ⟨List.not_mem_nil, .nil⟩, fun a ha b hb e => ?_⟩
      rw [List.mem_singleton.mp hb] at e
      exact c (e ▸ ha)
    · rcases List.mem_append.mp hq with hq | hq
      · exact D.rg q hq
      · rw [List.mem_singleton.mp hq]
        exact h
    · rw [valV_put]
      by_cases e : q = p
      · rw [if_pos (by rw [e]), e, h1]
      · rw [if_neg (fun z => e (kI_inj.mp z)), h2 q e]
        rcases List.mem_append.mp hq with hq | hq
        · exact D.at_ q hq
        · exact absurd (List.mem_singleton.mp hq) e
    · have e : q ≠ p := fun z => hq (List.mem_append_right _ (List.mem_singleton.mpr z))
      rw [valV_put, if_neg (fun z => e (kI_inj.mp z)), h2 q e]
      exact D.no q fun z => hq (List.mem_append_left _ z)
theorem DX.getD {kvs : List (Key × V)} {ks : List Int} {N : Nat} {x : X} (D : DX kvs ks N x) (p : Int) : (valV kvs (kI p)).getD (.int 0) = .int (x p) := by
  by_cases c : p ∈ ks
  · rw [D.at_ p c]
    rfl
  · rw [(D.no p c).1, (D.no p c).2]
    rfl
theorem DX.stable {kvs : List (Key × V)} {ks : List Int} {N : Nat} {x : X} {one other : List Rule} (D : DX kvs ks N x) (G2 : Good other) (h : ∀ p ∈ ks, bnd other p = 0 ∨ (x p : Int) < bnd other p) : (gm one other).stable x := fun p hp => by
  obtain ⟨a, b, rfl, ha, hb, e, eb⟩ := gm_b G2 hp
  rw [eb]
  by_cases c : (a : Int) ∈ ks
  · rcases h _ c with z | z
    · omega
    · omega
  · rw [(D.no _ c).2]
    omega
/-- what is told of the parts that come as often as their bound -/
def PtC (other : List Rule) (ks : List Int) (x : X) (v : V) : Prop := (∃ p, v = .int p ∧ p ∈ ks ∧ bnd other p ≠ 0 ∧ bnd other p ≤ (x p : Int)) ∨ (v = .non ∧ ∀ p ∈ ks, bnd other p = 0 ∨ (x p : Int) < bnd other p)
end Pg

set_option Elab.async false
set_option linter.all false
set_option maxRecDepth 100000
set_option maxHeartbeats 4000000
set_option pp.maxSteps 3000
/-! where no count is unlike; all of what stands in the dict, from the greatest part down -/
namespace Pg
open PySem PySem.Spec PyProof.Rows L2 Dr Xv LamX Ps Gn Fm
theorem due_all {f g : S} {N : Nat} (h : dueN f g N = none) : ∀ j, j < N → f j = g j := by
  rcases due_cases f g N with ⟨i, h1, h2, h3⟩ | z
  · rw [due_some h1 h2 h3] at h
    cases h
  · exact z
theorem eqF_of {one other : List Rule} (G1 : Good one) (G2 : Good other) (h : dueN (pS one) (pS other) (Nat.lcm (per one) (per other)) = none) : EqF one other := by
  intro n hn
  obtain ⟨i, rfl⟩ : ∃ i, n = i + 1 := ⟨n - 1, by omega⟩
  have z := due_all h (i % Nat.lcm (per one) (per other)) (Nat.mod_lt _ (Nat.lcm_pos (per_pos G1) (per_pos G2)))
  rw [pS_mod G1 (Nat.dvd_lcm_left _ _), pS_mod G2 (Nat.dvd_lcm_right _ _)] at z
  have z' : 1 - ((mates one ((i : Int) + 1)).length : Int) = 1 - ((mates other ((i : Int) + 1)).length : Int) := z
  have e : ((i + 1 : Nat) : Int) = (i : Int) + 1 := by omega
  rw [e]
  omega
def outL (x : X) (ks : List Int) : List Int := (ks.map fun p => List.replicate (x p) p).flatten
theorem outL_snoc (x : X) (ks : List Int) (p : Int) : outL x (ks ++ [p]) = outL x ks ++ List.replicate (x p) p := by
  unfold outL
  rw [List.map_append, List.flatten_append]
  simp
theorem outL_mem {x : X} {ks : List Int} {q : Int} (h : q ∈ outL x ks) : q ∈ ks := by
  obtain ⟨l, hl, hq⟩ := List.mem_flatten.mp h
  obtain ⟨p, hp, rfl⟩ := List.mem_map.mp hl
  rw [(List.mem_replicate.mp hq).2]
  exact hp
theorem outL_desc {x : X} : ∀ {ks : List Int}, ks.Pairwise (fun x y => y ≤ x) → (outL x ks).Pairwise (fun x y => y ≤ x)
  | [], _ => .nil
  | p :: ks, h => by
    obtain ⟨h1, h2⟩ := List.pairwise_cons.mp h
    show (List.replicate (x p) p ++ outL x ks).Pairwise _
    refine List.pairwise_append.mpr ⟨List.pairwise_replicate.mpr (.inr (Int.le_refl _)), outL_desc h2, fun a ha b hb => ?_⟩
    rw [(List.mem_replicate.mp ha).2]
    exact h1 b (outL_mem hb)
theorem outL_ct {x : X} : ∀ {ks : List Int} (q : Int), ks.Nodup → ct q (outL x ks) = if q ∈ ks then x q else 0
  | [], q, _ => rfl
  | p :: ks, q, h => by
    obtain ⟨h1, h2⟩ := List.nodup_cons.mp h
    have ih := outL_ct (x := x) q h2
    show ct q (List.replicate (x p) p ++ outL x ks) = _
    unfold ct at ih ⊢
    rw [List.countP_append, ih, List.countP_replicate]
    by_cases c : q = p
    · subst c
      rw [if_pos (by simp), if_neg h1, if_pos List.mem_cons_self]
      omega
    · have c2 : ¬ (p == q) = true := fun e => c (beq_iff_eq.mp e).symm
      rw [if_neg c2]
      by_cases d : q ∈ ks
      · rw [if_pos d, if_pos (List.mem_cons_of_mem _ d)]
        omega
      · rw [if_neg d, if_neg fun z => by
          rcases List.mem_cons.mp z with z | z
          · exact c z
          · exact d z]
theorem outL_ctx {kvs : List (Key × V)} {ks ds : List Int} {N : Nat} {x : X} (D : DX kvs ks N x) (h : ds.Perm ks) : ctx (outL x ds) = x := by
  funext q
  show ct q (outL x ds) = x q
  rw [outL_ct q (h.nodup_iff.mpr D.nd)]
  by_cases c : q ∈ ds
  · rw [if_pos c]
  · rw [if_neg c, (D.no q fun z => c (h.mem_iff.mpr z)).2]
theorem outL_len {x : X} {N : Nat} : ∀ {ks : List Int}, (∀ p ∈ ks, x p ≤ N) → (outL x ks).length ≤ ks.length * N
  | [], _ => Nat.zero_le _
  | p :: ks, h => by
    have ih := outL_len (x := x) (N := N) (ks := ks) fun q hq => h q (List.mem_cons_of_mem _ hq)
    have h1 := h p List.mem_cons_self
    show (List.replicate (x p) p ++ outL x ks).length ≤ (ks.length + 1) * N
    rw [List.length_append, List.length_replicate, Nat.succ_mul]
    omega
theorem Inv.le {G : Gm} {N : Nat} {x : X} (I : Inv G N x) (p : Int) : x p ≤ N := by
  by_cases c : x p = 0
  · omega
  · obtain ⟨h1, h2⟩ := I.rg p c
    obtain ⟨i, rfl⟩ : ∃ i : Nat, p = (i : Int) := ⟨p.toNat, by omega⟩
    have w1 := tot_one (f := fun i => i) (x := x) N (p := i) (by omega) (by omega)
    have w1' : i * x (i : Int) ≤ tot (fun i => i) x N := w1
    have w2 : 1 * x (i : Int) ≤ i * x (i : Int) := Nat.mul_le_mul_right _ (by omega)
    have := I.wt
    omega
theorem part_le {ns : List Int} (h : ∀ x ∈ ns, 1 ≤ x) {N : Nat} (hs : ns.sum ≤ (N : Int)) : ∀ p ∈ ns, 1 ≤ p ∧ p ≤ (N : Int) := by
  have key : ∀ (l : List Int), (∀ y ∈ l, 1 ≤ y) → 0 ≤ l.sum ∧ ∀ y ∈ l, y ≤ l.sum := by
    intro l
    induction l with
    | nil => exact fun _ => ⟨Int.le_refl _, fun y h => by cases h⟩
    | cons a r ih =>
      intro h
      have ha := h a List.mem_cons_self
      obtain ⟨h1, h2⟩ := ih fun z hz => h z (List.mem_cons_of_mem _ hz)
      rw [List.sum_cons]
      refine ⟨by omega, fun y hy => ?_⟩
      rcases List.mem_cons.mp hy with rfl | hy
      · omega
      · have := h2 y hy
        omega
  intro p hp
  have := (key ns h).2 p hp
  exact ⟨h p hp, by omega⟩
end Pg

set_option Elab.async false
set_option linter.all false
set_option maxRecDepth 100000
set_option maxHeartbeats 4000000
set_option pp.maxSteps 3000
/-! families with equally many, and how they are tied -/
namespace Pg
open PySem PySem.Spec PyProof.Rows L2 Dr Xv LamX Ps Gn Fm
structure Tied (one other : List Rule) : Prop where
  du : dueN (pS one) (pS other) (Nat.lcm (per one) (per other)) = none
  lc : Nat.lcm (per one) (per other) ≤ 5040
  cl : Cl one other
theorem Tied.symm {one other : List Rule} (h : Tied one other) : Tied other one := by
  refine ⟨due_none fun j hj => ?_, by rw [Nat.lcm_comm]; exact h.lc, h.cl.symm⟩
  rw [Nat.lcm_comm] at hj
  exact (due_all h.du j hj).symm
theorem bnd_one {fam : List Rule} (h : ∀ r ∈ fam, r.2.2 ≤ 1) (p : Int) : bnd fam p ≤ 1 := by
  by_cases c : hits fam p = []
  · rw [bnd_zero c]
    decide
  · have z := bnd_mem c
    obtain ⟨r, hr, e⟩ := List.mem_map.mp z
    rw [← e]
    exact h r (List.mem_filter.mp hr).1
theorem cl_one {r : Rule} {other : List Rule} (h : r.2.2 ≤ 1) : Cl [r] other := .inl (bnd_one fun q hq => by
  rw [List.mem_singleton.mp hq]
  exact h)
theorem bnd_swap (r q : Rule) (p : Int) : bnd [r, q] p = bnd [q, r] p := by
  have e1 : hits [r, q] p = hits [r] p ++ hits [q] p := by
    unfold hits
    rw [← List.map_append, ← List.filter_append]
    rfl
  have e2 : hits [q, r] p = hits [q] p ++ hits [r] p := by
    unfold hits
    rw [← List.map_append, ← List.filter_append]
    rfl
  by_cases c : hits [r, q] p = []
  · have c2 : hits [q, r] p = [] := by
      rw [e1, List.append_eq_nil_iff] at c
      rw [e2, c.1, c.2]
      rfl
    rw [bnd_zero c, bnd_zero c2]
  · have m := bnd_mem c
    refine (bnd_eq (by rw [e2]; rw [e1] at m; exact List.mem_append.mpr (List.mem_append.mp m).symm) fun y hy => ?_).symm
    have hy' : y ∈ hits [r, q] p := by
      rw [e1]
      rw [e2] at hy
      exact List.mem_append.mpr (List.mem_append.mp hy).symm
    unfold bnd
    cases e : hits [r, q] p with
    | nil => exact absurd e c
    | cons a t =>
      rw [e] at hy'
      exact (foldl_min t a).2 y hy'
theorem tied1 {x : Int} (h : 2 ≤ x ∧ x ≤ 4) : Tied [(x, [0], 1)] [(1, [0], x)] := by
  have : x = 2 ∨ x = 3 ∨ x = 4 := by omega
  rcases this with rfl | rfl | rfl
  · exact ⟨by decide +kernel, by decide +kernel, cl_one (Int.le_refl _)⟩
  · exact ⟨by decide +kernel, by decide +kernel, cl_one (Int.le_refl _)⟩
  · exact ⟨by decide +kernel, by decide +kernel, cl_one (Int.le_refl _)⟩
theorem tied2 : Tied [(6, [0, 2, 3, 4], 1)] [(3, [0], 1), (1, [0], 2)] := ⟨by decide +kernel, by decide +kernel, cl_one (Int.le_refl _)⟩
theorem tied3 : Tied [(4, [2], 1)] [(2, [1], 2)] := ⟨by decide +kernel, by decide +kernel, cl_one (Int.le_refl _)⟩
theorem tied4 {x y : Int} (h : 2 ≤ x ∧ x ≤ 4) (g : 1 ≤ y ∧ y ≤ 3) : Tied [(x * y, [0], 1)] [(y, [0], x)] := by
  have h1 : x = 2 ∨ x = 3 ∨ x = 4 := by omega
  have h2 : y = 1 ∨ y = 2 ∨ y = 3 := by omega
  rcases h1 with rfl | rfl | rfl <;> rcases h2 with rfl | rfl | rfl <;> exact ⟨by decide +kernel, by decide +kernel, cl_one (Int.le_refl _)⟩
theorem tied5 : Tied [(4, [0], 1), (4, [2], 2)] [(4, [2], 2), (4, [0], 1)] := ⟨by decide +kernel, by decide +kernel, .inr (.inr fun p => bnd_swap _ _ p)⟩
end Pg

set_option Elab.async false
set_option linter.all false
set_option maxRecDepth 100000
set_option maxHeartbeats 4000000
set_option pp.maxSteps 3000
namespace Pg
open PySem PySem.Spec PyProof.Rows L2 Dr Xv LamX Ps Gn Fm
theorem kp_perm {fam : List Rule} {ns ys : List Int} (h : ys.Perm ns) (k : kp fam ns = true) : kp fam ys = true := by
  refine List.all_eq_true.mpr fun p hp => ?_
  have z := List.all_eq_true.mp k p (h.mem_iff.mp hp)
  have e : ct p ys = ct p ns := h.countP_eq _
  unfold kpT at z ⊢
  rw [e]
  exact z
theorem sum_perm {ns ys : List Int} (h : ys.Perm ns) : ys.sum = ns.sum := by
  induction h with
  | nil => rfl
  | cons x _ ih => rw [List.sum_cons, List.sum_cons, ih]
  | swap x y l =>
    rw [List.sum_cons, List.sum_cons, List.sum_cons, List.sum_cons]
    omega
  | trans _ _ i1 i2 => rw [i1, i2]
end Pg

set_option Elab.async false
set_option linter.all false
set_option maxRecDepth 100000
set_option maxHeartbeats 4000000
set_option pp.maxSteps 3000
namespace Pg
open PySem PySem.Spec PyProof.Rows L2 Dr Xv LamX Ps Gn Fm
theorem ct_count (p : Int) (ns : List Int) : ct p ns = ns.count p := rfl
theorem rem_at {ns : List Int} {k : Int} (h : 0 < ct k ns) : ∃ j : Nat, ns[j]? = some k ∧ (∀ m : Nat, m < j → ns[m]? ≠ some k) ∧ ∀ r, ct r (ns.eraseIdx j) = ct r ns - if r = k then 1 else 0 := by
  have hm : k ∈ ns := List.count_pos_iff.mp h
  have hi := List.idxOf_lt_length_of_mem hm
  refine ⟨ns.idxOf k, ?_, fun m hm2 e => ?_, fun r => ?_⟩
  · rw [List.getElem?_eq_getElem hi, List.getElem_idxOf]
  · obtain ⟨h1, h2⟩ := List.getElem?_eq_some_iff.mp e
    have := List.not_of_lt_findIdx (p := (· == k)) (xs := ns) (i := m) hm2
    simp [h2] at this
  · have e : ns.eraseIdx (ns.idxOf k) = ns.erase k := by
      rw [List.erase_eq_eraseIdx_of_idxOf rfl]
    rw [e, ct_count, ct_count, List.count_erase]
    by_cases c : r = k
    · rw [if_pos c, if_pos (by rw [c]; simp)]
    · rw [if_neg c, if_neg (by simpa using fun z => c z.symm)]
theorem fire_list {G : Gm} {hs hs' : List Int} {p c : Int} {b g : Nat} (hb : G.b p = b) (hm : G.m p = c) (hg : G.g p = g) (h : ∀ r, ct r hs' = ct r hs - if r = p then b else 0) : ctx (hs' ++ List.replicate g c) = G.fire (ctx hs) p := by
  funext r
  show ct r (hs' ++ List.replicate g c) = ct r hs - (if r = p then G.b p else 0) + (if r = G.m p then G.g p else 0)
  rw [hb, hm, hg, ← h r]
  have e : ct r (hs' ++ List.replicate g c) = ct r hs' + ct r (List.replicate g c) := by
    unfold ct
    rw [List.countP_append]
  rw [e]
  congr 1
  unfold ct
  rw [List.countP_replicate]
  by_cases q : r = c
  · rw [if_pos q, if_pos (by rw [q]; simp)]
  · rw [if_neg q, if_neg (by simpa using fun z => q z.symm)]
theorem sum_len : ∀ {l : List Int}, (∀ y ∈ l, 1 ≤ y) → (l.length : Int) ≤ l.sum
  | [], _ => Int.le_refl _
  | a :: r, h => by
    have ha := h a List.mem_cons_self
    have := sum_len (l := r) fun z hz => h z (List.mem_cons_of_mem _ hz)
    rw [List.sum_cons, List.length_cons]
    omega
theorem len_of {G : Gm} {N : Nat} {hs : List Int} (I : Inv G N (ctx hs)) : (∀ x ∈ hs, 1 ≤ x ∧ x ≤ (N : Int)) ∧ hs.length ≤ N := by
  have h1 : ∀ x ∈ hs, 1 ≤ x ∧ x ≤ (N : Int) := fun x hx => I.rg x (ctx_mem.mpr hx)
  refine ⟨h1, ?_⟩
  have t := tot_ctx hs N h1
  have w := I.wt
  have := sum_len fun y hy => (h1 y hy).1
  omega
theorem len_fire {hs hs' : List Int} {p : Int} {b : Nat} (h : ∀ r, ct r hs' = ct r hs - if r = p then b else 0) {N : Nat} (hl : hs'.length ≤ N) : hs'.length ≤ N := hl
theorem ctx_perm {ns ys : List Int} (h : ys.Perm ns) : ctx ys = ctx ns := by
  funext r
  exact h.countP_eq _
/-- parts that are full -/
def fulT (other : List Rule) (hs : List Int) (p : Int) : Bool := decide (0 < bnd other p) && decide (bnd other p ≤ (ct p hs : Int))
theorem full_none {one other : List Rule} (G2 : Good other) {hs qs : List Int} (h : ∀ k, k ∈ qs ↔ k ∈ hs) (e : qs.filter (fulT other hs) = []) : (gm one other).stable (ctx hs) := fun p hp => by
  obtain ⟨a, b, rfl, ha, hb, e1, eb⟩ := gm_b G2 hp
  rw [eb]
  by_cases m : (a : Int) ∈ hs
  · have z := List.filter_eq_nil_iff.mp e _ ((h _).mpr m)
    unfold fulT at z
    rw [Bool.and_eq_true, decide_eq_true_eq, decide_eq_true_eq, e1] at z
    show ct (a : Int) hs < b
    omega
  · have : ctx hs (a : Int) = 0 := Classical.not_not.mp fun q => m (ctx_mem.mp q)
    omega
theorem full_ok {one other : List Rule} {hs qs : List Int} {p : Int} (h1 : 1 ≤ p) (h : p ∈ qs.filter (fulT other hs)) : ∃ a b : Nat, p = (a : Int) ∧ bnd other p = (b : Int) ∧ 1 ≤ a ∧ 1 ≤ b ∧ b ≤ ct p hs ∧ (gm one other).ok (ctx hs) p := by
  have z := (List.mem_filter.mp h).2
  unfold fulT at z
  rw [Bool.and_eq_true, decide_eq_true_eq, decide_eq_true_eq] at z
  obtain ⟨b, eb⟩ : ∃ b : Nat, bnd other p = (b : Int) := ⟨(bnd other p).toNat, by omega⟩
  obtain ⟨a, rfl⟩ : ∃ a : Nat, p = (a : Int) := ⟨p.toNat, by omega⟩
  have g := gm_nat one other (a := a) (by omega) eb
  refine ⟨a, b, rfl, eb, by omega, by omega, by omega, ?_, ?_⟩
  · rw [g]
    omega
  · rw [g]
    show b ≤ ct (a : Int) hs
    omega
end Pg

set_option Elab.async false
set_option linter.all false
set_option maxRecDepth 100000
set_option maxHeartbeats 4000000
set_option pp.maxSteps 3000
/-! all partitions: each once, descending -/
namespace Pg
open PySem PySem.Spec PyProof.Rows L2 Dr Xv LamX Ps Gn Fm
theorem pw_all : ∀ (f n g : Nat) (ns : List Int), n < f → ns.Pairwise (fun x y => y ≤ x) → (∀ x ∈ ns, 1 ≤ x) → (∀ x ∈ ns, x ≤ (g : Int)) → ns.sum = (n : Int) → ns ∈ Pt.pw f n g
  | 0, n, g, ns, h, _, _, _, _ => by omega
  | f + 1, n, g, ns, h, hd, lo, hi, hs => by
    by_cases z : n = 0
    · subst z
      rw [Pt.pw_zero]
      cases ns with
      | nil => exact List.mem_singleton.mpr rfl
      | cons x r =>
        have := sum_len lo
        rw [List.length_cons] at this
        omega
    · rw [Pt.pw_pos z]
      cases ns with
      | nil =>
        rw [List.sum_nil] at hs
        omega
      | cons x r =>
        have x1 := lo x List.mem_cons_self
        have x2 := hi x List.mem_cons_self
        obtain ⟨a, rfl⟩ : ∃ a : Nat, x = (a : Int) := ⟨x.toNat, by omega⟩
        obtain ⟨h1, h2⟩ := List.pairwise_cons.mp hd
        have r1 : ∀ y ∈ r, 1 ≤ y := fun y hy => lo y (List.mem_cons_of_mem _ hy)
        have r0 := sum_len r1
        rw [List.sum_cons] at hs
        have ih := pw_all f (n - a) a r (by omega) h2 r1 h1 (by omega)
        refine List.mem_flatten.mpr ⟨_, List.mem_map.mpr ⟨min n g - a, List.mem_range.mpr (by omega), rfl⟩, ?_⟩
        have ea : min n g - (min n g - a) = a := by omega
        rw [ea]
        exact List.mem_map.mpr ⟨r, ih, rfl⟩
theorem pw_sum : ∀ (f n g : Nat) (ns : List Int), ns ∈ Pt.pw f n g → ns.sum = (n : Int)
  | 0, n, g, ns, h => by cases h
  | f + 1, n, g, ns, h => by
    by_cases z : n = 0
    · subst z
      rw [Pt.pw_zero] at h
      rw [List.mem_singleton.mp h]
      rfl
    · rw [Pt.pw_pos z] at h
      obtain ⟨l, hl, hns⟩ := List.mem_flatten.mp h
      obtain ⟨i, hi, rfl⟩ := List.mem_map.mp hl
      obtain ⟨r, hr, rfl⟩ := List.mem_map.mp hns
      have hi' := List.mem_range.mp hi
      have ih := pw_sum f _ _ r hr
      rw [List.sum_cons, ih]
      omega
theorem pw_desc : ∀ (f n g : Nat), (Pt.pw f n g).Pairwise (fun x y => y < x)
  | 0, n, g => .nil
  | f + 1, n, g => by
    by_cases z : n = 0
    · subst z
      rw [Pt.pw_zero]
      exact List.pairwise_singleton _ _
    · rw [Pt.pw_pos z]
      refine List.pairwise_flatten.mpr ⟨fun l hl => ?_, ?_⟩
      · obtain ⟨i, hi, rfl⟩ := List.mem_map.mp hl
        rw [List.pairwise_map]
        exact (pw_desc f _ _).imp fun h => List.cons_lt_cons_iff.mpr (.inr ⟨rfl, h⟩)
      · rw [List.pairwise_map]
        refine List.Pairwise.imp_of_mem (fun {i j} hi hj hij => ?_) List.pairwise_lt_range
        intro x hx y hy
        obtain ⟨r, _, rfl⟩ := List.mem_map.mp hx
        obtain ⟨s, _, rfl⟩ := List.mem_map.mp hy
        have h1 := List.mem_range.mp hi
        have h2 := List.mem_range.mp hj
        exact List.cons_lt_cons_iff.mpr (.inl (by omega))
/-- those of n that one keeps -/
def fam (f : List Rule) (n : Nat) : List (List Int) := (Pt.pw 16 n n).filter (kp f)
theorem fam_mem {f : List Rule} {n : Nat} (hn : n < 16) {ns : List Int} : ns ∈ fam f n ↔ ns.Pairwise (fun x y => y ≤ x) ∧ (∀ x ∈ ns, 1 ≤ x) ∧ ns.sum = (n : Int) ∧ kp f ns = true := by
  unfold fam
  rw [List.mem_filter]
  constructor
  · rintro ⟨h1, h2⟩
    have g := Pt.pw_good _ _ _ _ h1
    exact ⟨g.ds, g.lo, pw_sum _ _ _ _ h1, h2⟩
  · rintro ⟨h1, h2, h3, h4⟩
    exact ⟨pw_all 16 n n ns hn h1 h2 (fun x hx => (part_le h2 (N := n) (by omega) x hx).2) h3, h4⟩
theorem fam_desc (f : List Rule) (n : Nat) : (fam f n).Pairwise (fun x y => y < x) := (pw_desc 16 n n).filter _
theorem fam_nodup (f : List Rule) (n : Nat) : (fam f n).Nodup := by
  rw [List.nodup_iff_pairwise_ne]
  exact (fam_desc f n).imp fun h e => by
    rw [e] at h
    exact List.lt_irrefl _ h
/-- each leads to one, and back -/
structure Told (one other : List Rule) (l m : List (List Int)) : Prop where
  ln : l.length = m.length
  at_ : ∀ (i : Nat) (x y : List Int), l[i]? = some x → m[i]? = some y → PairR one other x y
theorem Told.nil {one other : List Rule} : Told one other [] [] := ⟨rfl, fun i x y h => by cases h⟩
theorem Told.snoc {one other : List Rule} {l m : List (List Int)} (T : Told one other l m) {x y : List Int} (h : PairR one other x y) : Told one other (l ++ [x]) (m ++ [y]) := by
  refine ⟨by rw [List.length_append, List.length_append, T.ln]; rfl, fun i x' y' e1 e2 => ?_⟩
  by_cases c : i < l.length
  · rw [List.getElem?_append_left c] at e1
    rw [List.getElem?_append_left (by rw [← T.ln]; exact c)] at e2
    exact T.at_ i x' y' e1 e2
  · rw [List.getElem?_append_right (by omega)] at e1
    rw [List.getElem?_append_right (by rw [← T.ln]; omega), ← T.ln] at e2
    cases h0 : i - l.length with
    | zero =>
      rw [h0] at e1 e2
      cases e1
      cases e2
      exact h
    | succ k =>
      rw [h0] at e1
      cases e1
theorem PairR.sum {one other : List Rule} (G1 : Good one) (G2 : Good other) (E : EqF one other) {ns ys : List Int} (h1 : ∀ x ∈ ns, 1 ≤ x) (hk : kp one ns = true) (h : PairR one other ns ys) : ys.sum = ns.sum ∧ kp other ys = true := by
  obtain ⟨N, hN⟩ : ∃ N : Nat, ns.sum ≤ (N : Int) := ⟨ns.sum.toNat, by omega⟩
  have I := inv_of G1 G2 E h1 hN hk
  obtain ⟨k, r⟩ := h.run
  obtain ⟨Iy, t⟩ := Run.inv (gm_fair G1 G2 E) I r
  have t1 := tot_ctx ys N fun x hx => Iy.rg x (ctx_mem.mpr hx)
  have t2 := tot_ctx ns N fun x hx => I.rg x (ctx_mem.mpr hx)
  exact ⟨by rw [← t1, ← t2, t], kp_of G2 h.lo h.st⟩
theorem told_perm {one other : List Rule} (G1 : Good one) (G2 : Good other) (E : EqF one other) (C : Cl one other) {n : Nat} (hn : n < 16) {m : List (List Int)} (T : Told one other (fam one n) m) : m.Perm (fam other n) := by
  refine (List.perm_ext_iff_of_nodup ?_ (fam_nodup other n)).mpr fun ys => ⟨fun h => ?_, fun h => ?_⟩
  · refine List.nodup_iff_pairwise_ne.mpr (List.pairwise_iff_getElem.mpr fun i j hi hj hij e0 => ?_)
    obtain ⟨y, hy⟩ : ∃ y, m[j]? = some y := ⟨_, List.getElem?_eq_getElem hj⟩
    have e : m[i]? = some y := by rw [List.getElem?_eq_getElem hi, e0, ← List.getElem?_eq_getElem hj, hy]
    obtain ⟨x, hx⟩ : ∃ x, (fam one n)[j]? = some x := ⟨_, List.getElem?_eq_getElem (by rw [T.ln]; exact hj)⟩
    obtain ⟨x', hx'⟩ : ∃ x, (fam one n)[i]? = some x := ⟨_, List.getElem?_eq_getElem (by rw [T.ln]; omega)⟩
    have p1 := T.at_ j x y hx hy
    have p2 := T.at_ i x' y hx' e
    obtain ⟨a1, a2, a3, a4⟩ := (fam_mem hn).mp (List.mem_of_getElem? hx)
    obtain ⟨b1, b2, b3, b4⟩ := (fam_mem hn).mp (List.mem_of_getElem? hx')
    have q1 := p1.back G1 G2 E a1 a2 a4
    have q2 := p2.back G1 G2 E b1 b2 b4
    have ex := q1.uniq q2
    rw [ex, ← hx'] at hx
    have := List.getElem?_inj (by rw [T.ln]; exact hj) (fam_nodup one n) |>.mp hx
    omega
  · obtain ⟨i, hi⟩ := List.mem_iff_getElem?.mp h
    obtain ⟨x, hx⟩ : ∃ x, (fam one n)[i]? = some x := ⟨_, List.getElem?_eq_getElem (by rw [T.ln]; exact (List.getElem?_eq_some_iff.mp hi).1)⟩
    have p := T.at_ i x ys hx hi
    obtain ⟨a1, a2, a3, a4⟩ := (fam_mem hn).mp (List.mem_of_getElem? hx)
    obtain ⟨s1, s2⟩ := p.sum G1 G2 E a2 a4
    exact (fam_mem hn).mpr ⟨p.ds, p.lo, by rw [s1, a3], s2⟩
  · obtain ⟨a1, a2, a3, a4⟩ := (fam_mem hn).mp h
    obtain ⟨xs, p, s⟩ := pair_ex G2 G1 E.symm C.symm a2 a4
    obtain ⟨s1, s2⟩ := p.sum G2 G1 E.symm a2 a4
    have hx : xs ∈ fam one n := (fam_mem hn).mpr ⟨p.ds, p.lo, by rw [s, a3], s2⟩
    have b := p.back G2 G1 E.symm a1 a2 a4
    obtain ⟨i, hi⟩ := List.mem_iff_getElem?.mp hx
    obtain ⟨y, hy⟩ : ∃ y, m[i]? = some y := ⟨_, List.getElem?_eq_getElem (by rw [← T.ln]; exact (List.getElem?_eq_some_iff.mp hi).1)⟩
    have p2 := T.at_ i xs y hi hy
    rw [b.uniq p2]
    exact List.mem_of_getElem? hy
theorem told_sorted {one other : List Rule} (G1 : Good one) (G2 : Good other) (E : EqF one other) (C : Cl one other) {n : Nat} (hn : n < 16) {m bs : List (List Int)} (T : Told one other (fam one n) m) (hp : bs.Perm m) (hd : bs.Pairwise (fun x y => y ≤ x)) : bs = fam other n := by
  refine List.Perm.eq_of_pairwise (fun a b _ _ h1 h2 => List.le_antisymm h2 h1) hd ((fam_desc other n).imp fun h => List.le_of_lt h) (hp.trans (told_perm G1 G2 E C hn T))
end Pg

set_option Elab.async false
set_option linter.all false
set_option maxRecDepth 100000
set_option maxHeartbeats 4000000
set_option pp.maxSteps 3000
namespace Pg
open PySem PySem.Spec PyProof.Rows L2 Dr Xv LamX Ps Gn Fm
theorem DX.keys {kvs kvs' : List (Key × V)} {ks ks' : List Int} {N : Nat} {x y : X} {k : Key} {v : V} (D : DX kvs ks N x) (D' : DX kvs' ks' N y) (e : kvs' = putK kvs k v) : ks'.length ≤ ks.length + 1 ∧ (k ∈ kvs.map (·.1) → ks'.length = ks.length) := by
  have h1 : kvs.length = ks.length := by
    have z := congrArg List.length D.km
    rwa [List.length_map, List.length_map] at z
  have h2 : kvs'.length = ks'.length := by
    have z := congrArg List.length D'.km
    rwa [List.length_map, List.length_map] at z
  have h3 := length_putK kvs k v
  rw [← e, h2, h1] at h3
  refine ⟨h3, fun c => ?_⟩
  have z := congrArg List.length (keys_put_in (v := v) c)
  rw [List.length_map, List.length_map, ← e, h1, h2] at z
  exact z
theorem DX.key_in {kvs : List (Key × V)} {ks : List Int} {N : Nat} {x : X} (D : DX kvs ks N x) {p : Int} (h : p ∈ ks) : kI p ∈ kvs.map (·.1) := by
  rw [D.km]
  exact List.mem_map.mpr ⟨p, h, rfl⟩
end Pg

set_option Elab.async false
set_option linter.all false
set_option maxRecDepth 100000
set_option maxHeartbeats 4000000
set_option pp.maxSteps 3000
/-! odd against unlike, for each d -/
namespace Pg
open PySem PySem.Spec PyProof.Rows L2 Dr Xv LamX Ps Gn Fm
theorem tot1_ctx : ∀ (ns : List Int) (N : Nat), (∀ x ∈ ns, 1 ≤ x ∧ x ≤ (N : Int)) → tot (fun _ => 1) (ctx ns) N = ns.length
  | [], N, _ => by
    have z : ∀ n, tot (fun _ => 1) (ctx []) n = 0 := fun n => by
      induction n with
      | zero => rfl
      | succ n ih =>
        show tot (fun _ => 1) (ctx []) n + 1 * 0 = 0
        rw [ih]
    rw [z]
    rfl
  | x :: r, N, h => by
    have hx := h x List.mem_cons_self
    obtain ⟨a, rfl⟩ : ∃ a : Nat, x = (a : Int) := ⟨x.toNat, by omega⟩
    have ih := tot1_ctx r N fun y hy => h y (List.mem_cons_of_mem _ hy)
    have z := tot_set (f := fun _ => 1) (x := ctx r) (y := ctx ((a : Int) :: r)) (p := a) N (by omega) (by omega) fun p hp => by
      rw [ctx_cons, if_neg hp, Nat.add_zero]
    have z' : tot (fun _ => 1) (ctx ((a : Int) :: r)) N + 1 * ctx r (a : Int) = tot (fun _ => 1) (ctx r) N + 1 * ctx ((a : Int) :: r) (a : Int) := z
    have e : ctx ((a : Int) :: r) (a : Int) = ctx r (a : Int) + 1 := by rw [ctx_cons, if_pos rfl]
    rw [e] at z'
    rw [List.length_cons]
    omega
theorem run_len {G : Gm} (F : Fair G) (hd : ∀ p, 0 < G.b p → G.g p ≤ 1) {N : Nat} : ∀ {n : Nat} {x z : X}, G.Run n x z → Inv G N x → n + tot (fun _ => 1) z N ≤ tot (fun _ => 1) x N
  | _, _, _, .nil x, _ => by omega
  | _, x, z, .cons (n := n) p hp r, I => by
    have ih := run_len F hd r (I.fire F hp)
    obtain ⟨i, j, rfl, hj, i1, i2, j1, j2, hw, hne⟩ := I.at_ F hp
    have t := tot_fire (f := fun _ => 1) i1 i2 j1 j2 hp hj
    have t' : tot (fun _ => 1) (G.fire x (i : Int)) N + 1 * G.b (i : Int) = tot (fun _ => 1) x N + 1 * G.g (i : Int) := t
    have h1 := hd (i : Int) hp.1
    have h2 := hp.1
    have h3 : G.b (i : Int) ≠ 1 := fun e => by
      have h4 := (F.f (i : Int) hp.1).2.2.1
      have h5 : G.g (i : Int) = 1 := by omega
      rw [e, h5, Nat.mul_one, Nat.mul_one] at hw
      exact hne hw
    omega
def fO (d : Int) : List Rule := [(d, [0], 1)]
def fT (d : Int) : List Rule := [(1, [0], d)]
theorem tiedG {d : Int} (h : 2 ≤ d ∧ d ≤ 5) : Tied (fO d) (fT d) := by
  by_cases c : d = 5
  · subst c
    exact ⟨by decide +kernel, by decide +kernel, cl_one (Int.le_refl _)⟩
  · exact tied1 (by omega)
theorem goodO {d : Int} (h : 2 ≤ d ∧ d ≤ 5) : Good (fO d) := good_one (good0 (by omega) (by omega) (by decide) (by decide))
theorem goodT {d : Int} (h : 2 ≤ d ∧ d ≤ 5) : Good (fT d) := good_one (good0 (by decide) (by decide) (by omega) (by omega))
theorem bndT {d : Int} (h : 2 ≤ d ∧ d ≤ 5) (p : Int) : bnd (fT d) p = d := by
  have e : hits (fT d) p = [d] := by
    unfold hits fT
    rw [List.filter_cons_of_pos (by rw [Int.fmod_one]; rfl)]
    rfl
  unfold bnd
  rw [e]
  rfl
theorem kpO {d : Int} {ns : List Int} (h : ∀ x ∈ ns, x.fmod d ≠ 0) : kp (fO d) ns = true := by
  refine List.all_eq_true.mpr fun x hx => ?_
  have e : hits (fO d) x = [] := by
    unfold hits fO
    rw [List.filter_cons_of_neg (by simpa using h x hx)]
    rfl
  unfold kpT
  rw [bnd_zero e]
  rfl
theorem mateT {d : Int} (h : 2 ≤ d ∧ d ≤ 5) {a b : Nat} (hb : d = (b : Int)) (ha : 1 ≤ a) : (gm (fO d) (fT d)).m (a : Int) = ((b * a : Nat) : Int) ∧ (gm (fO d) (fT d)).g (a : Int) = 1 ∧ (gm (fO d) (fT d)).b (a : Int) = b := by
  have e : bnd (fT d) (a : Int) = (b : Int) := by rw [bndT h, hb]
  obtain ⟨i, c, g, _, _, em, eg, hw, c1, g1, _⟩ := mate_at (goodO h) (goodT h) (eqF_of (goodO h) (goodT h) (tiedG h).du) ha (by omega) e
  have l1 := bnd_one (fam := fO d) (fun r hr => by rw [List.mem_singleton.mp hr]; exact Int.le_refl _) (c : Int)
  have g2 : g = 1 := by omega
  rw [g2, Nat.mul_one] at hw
  refine ⟨?_, ?_, gm_nat _ _ ha e⟩
  · show mateF (fO d) (fT d) (a : Int) = _
    rw [em, hw, Nat.mul_comm]
  · show (bnd (fO d) (mateF (fO d) (fT d) (a : Int))).toNat = 1
    rw [em, eg, g2]
    rfl
theorem gle {d : Int} (h : 2 ≤ d ∧ d ≤ 5) (p : Int) (hp : 0 < (gm (fO d) (fT d)).b p) : (gm (fO d) (fT d)).g p ≤ 1 := by
  show (bnd (fO d) (mateF (fO d) (fT d) p)).toNat ≤ 1
  have := bnd_one (fam := fO d) (fun r hr => by rw [List.mem_singleton.mp hr]; exact Int.le_refl _) (mateF (fO d) (fT d) p)
  omega
/-- the parts that come d times -/
def ful (d : Int) (hs : List Int) : List Int := hs.filter fun p => decide (d ≤ (ct p hs : Int))
theorem ful_none {d : Int} (h : 2 ≤ d ∧ d ≤ 5) {hs : List Int} (e : ful d hs = []) : (gm (fO d) (fT d)).stable (ctx hs) := fun p hp => by
  obtain ⟨a, b, rfl, ha, hb, e1, eb⟩ := gm_b (goodT h) hp
  rw [eb]
  rw [bndT h] at e1
  by_cases m : (a : Int) ∈ hs
  · have z := List.filter_eq_nil_iff.mp e _ m
    rw [decide_eq_true_eq] at z
    show ct (a : Int) hs < b
    omega
  · have : ctx hs (a : Int) = 0 := Classical.not_not.mp fun q => m (ctx_mem.mp q)
    omega
end Pg

set_option Elab.async false
set_option linter.all false
set_option maxRecDepth 100000
set_option maxHeartbeats 4000000
set_option pp.maxSteps 3000
/-! signs of numbers without squares -/
namespace Qm
open Ps
def posM : Nat := 357864322797039220779004204290932500617729335688926194993959676623565202010907542622523256280188935825623498639766277664763069506
def negM : Nat := 9885086068446427339947811691217398283491973206714783879254048869444760464326975159892514373505213130355473975452025057284801046700
/-- the sign of a number without squares -/
def mu (n : Nat) : Int := if posM.testBit n then 1 else if negM.testBit n then -1 else 0
theorem mu_sum : ∀ m, m < 433 → 1 ≤ m → sm (fun t => Ev (t + 1) m * mu (t + 1)) m = if m = 1 then 1 else 0 := by decide +kernel
theorem mu_abs : ∀ c, c < 241 → 1 ≤ c → sm (fun j => ((Ev (j + 1) c * mu (c / (j + 1))).natAbs : Int)) c ≤ 16 := by decide +kernel
def dks (T i : Nat) : List Nat := ((List.range i).map (· + 1)).filter fun c => decide (c ∣ T)
theorem dks_len : ∀ T, T < 433 → (dks T T).length < 64 := by decide +kernel
end Qm

set_option Elab.async false
set_option linter.all false
set_option maxRecDepth 100000
set_option maxHeartbeats 4000000
set_option pp.maxSteps 3000
/-! exponents over divisors -/
namespace Qm
open Ps
theorem Ev_one {n k : Nat} (h : n ∣ k) (hk : 0 < k) : Ev n k = 1 := by
  unfold Ev
  rw [if_pos ⟨by omega, h⟩]
theorem Ev_no {n k : Nat} (h : ¬ n ∣ k) : Ev n k = 0 := by
  unfold Ev
  rw [if_neg fun z => h z.2]
theorem Ev_low {n k : Nat} (hk : 0 < k) (h : k < n) : Ev n k = 0 := Ev_no fun z => by
  have := Nat.le_of_dvd hk z
  omega
theorem sm_ext (f : Nat → Int) {n : Nat} : ∀ N, n ≤ N → (∀ i, n ≤ i → i < N → f i = 0) → sm f N = sm f n
  | 0, h, _ => by
    have : n = 0 := by omega
    rw [this]
  | N + 1, h, z => by
    by_cases c : n = N + 1
    · rw [c]
    · show sm f N + f N = _
      rw [sm_ext f N (by omega) (fun i h1 h2 => z i h1 (by omega)), z N (by omega) (by omega), Int.add_zero]
theorem sm_swap (f : Nat → Nat → Int) (n : Nat) : ∀ m, sm (fun i => sm (fun j => f i j) n) m = sm (fun j => sm (fun i => f i j) m) n
  | 0 => (sm_zero n).symm
  | m + 1 => by
    show sm (fun i => sm (fun j => f i j) n) m + sm (fun j => f m j) n = sm (fun j => sm (fun i => f i j) m + f m j) n
    rw [sm_swap f n m, sm_add]
/-- only each b-th counts -/
theorem sm_mult {b : Nat} (hb : 0 < b) (g : Nat → Int) : ∀ m, sm (fun i => if b ∣ i + 1 then g ((i + 1) / b) else 0) (b * m) = sm (fun t => g (t + 1)) m
  | 0 => by
    rw [Nat.mul_zero]
    rfl
  | m + 1 => by
    rw [Nat.mul_succ, sm_split, sm_mult hb g m]
    show _ = sm (fun t => g (t + 1)) m + g (m + 1)
    congr 1
    obtain ⟨k, rfl⟩ : ∃ k, b = k + 1 := ⟨b - 1, by omega⟩
    show sm _ k + _ = _
    have z : sm (fun i => if (k + 1) ∣ (k + 1) * m + i + 1 then g (((k + 1) * m + i + 1) / (k + 1)) else 0) k = 0 := by
      rw [sm_congr k fun i hi => ?_, sm_zero]
      rw [if_neg]
      intro d
      have d2 : (k + 1) ∣ i + 1 := by
        have := (Nat.dvd_add_right (Nat.dvd_mul_right (k + 1) m)).mp (by rwa [Nat.add_assoc] at d)
        exact this
      have := Nat.le_of_dvd (by omega) d2
      omega
    rw [z, Int.zero_add]
    have e : (k + 1) * m + k + 1 = (k + 1) * (m + 1) := by rw [Nat.mul_succ]; omega
    show (if (k + 1) ∣ (k + 1) * m + k + 1 then g (((k + 1) * m + k + 1) / (k + 1)) else 0) = _
    rw [e, if_pos (Nat.dvd_mul_right _ _), Nat.mul_div_cancel_left _ (by omega)]
/-- the exponent at c -/
def mo (p : S) (c : Nat) : Int := -(sm (fun j => p j * (Ev (j + 1) c * mu (c / (j + 1)))) c)
theorem inner {b d : Nat} (hb : 1 ≤ b) (hd : 1 ≤ d) (h : d < 433) : sm (fun i => Ev b (i + 1) * mu ((i + 1) / b) * Ev (i + 1) d) d = if b = d then 1 else 0 := by
  by_cases c : b ∣ d
  · obtain ⟨m, rfl⟩ := c
    have m1 : 1 ≤ m := Nat.pos_of_ne_zero fun z => by
      rw [z, Nat.mul_zero] at hd
      omega
    have mb : m ≤ b * m := Nat.le_mul_of_pos_left m hb
    have z := sm_mult hb (fun t => Ev t m * mu t) m
    rw [mu_sum m (by omega) m1] at z
    rw [← (show (if m = 1 then (1 : Int) else 0) = if b = b * m then 1 else 0 from ?_), ← z]
    · refine sm_congr _ fun i _ => ?_
      by_cases e : b ∣ i + 1
      · obtain ⟨t, et⟩ := e
        rw [if_pos ⟨t, et⟩, Ev_one ⟨t, et⟩ (by omega), et, Nat.mul_div_cancel_left t hb, Int.one_mul]
        have t1 : 0 < t := Nat.pos_of_ne_zero fun z => by
          rw [z, Nat.mul_zero] at et
          omega
        rw [Int.mul_comm]
        congr 1
        by_cases q : t ∣ m
        · rw [Ev_one q (by omega), Ev_one (Nat.mul_dvd_mul_left b q) (by omega)]
        · rw [Ev_no q, Ev_no fun z => q (Nat.dvd_of_mul_dvd_mul_left hb z)]
      · rw [if_neg e, Ev_no e, Int.zero_mul, Int.zero_mul]
    · by_cases e : m = 1
      · rw [if_pos e, if_pos (by rw [e, Nat.mul_one])]
      · rw [if_neg e, if_neg]
        intro z
        have : b * 1 = b * m := by rw [Nat.mul_one]; exact z
        exact e (Nat.eq_of_mul_eq_mul_left hb this).symm
  · rw [if_neg (fun z : b = d => c (by rw [z]; exact Nat.dvd_refl d))]
    rw [sm_congr d fun i _ => ?_, sm_zero]
    by_cases e : b ∣ i + 1
    · rw [Ev_no (n := i + 1) fun z => c (Nat.dvd_trans e z), Int.mul_zero]
    · rw [Ev_no e, Int.zero_mul, Int.zero_mul]
theorem mo_sum (p : S) {d : Nat} (hd : 1 ≤ d) (h : d < 433) : sm (fun i => mo p (i + 1) * Ev (i + 1) d) d = -p (d - 1) := by
  have e1 : ∀ i, i < d → mo p (i + 1) * Ev (i + 1) d = sm (fun j => (-p j) * (Ev (j + 1) (i + 1) * mu ((i + 1) / (j + 1)) * Ev (i + 1) d)) d := fun i hi => by
    have z := sm_ext (fun j => p j * (Ev (j + 1) (i + 1) * mu ((i + 1) / (j + 1)))) (n := i + 1) d (by omega) fun j h1 h2 => by
      rw [Ev_low (by omega) (by omega), Int.zero_mul, Int.mul_zero]
    unfold mo
    rw [← z, Int.neg_mul, ← sm_mul', ← Int.neg_one_mul, ← sm_mul]
    refine sm_congr d fun j _ => ?_
    rw [Int.neg_one_mul, Int.neg_mul, Int.mul_assoc, Int.mul_assoc]
  rw [sm_congr d e1, sm_swap (fun i j => (-p j) * (Ev (j + 1) (i + 1) * mu ((i + 1) / (j + 1)) * Ev (i + 1) d))]
  have e2 : ∀ j, j < d → sm (fun i => (-p j) * (Ev (j + 1) (i + 1) * mu ((i + 1) / (j + 1)) * Ev (i + 1) d)) d = if j + 1 = d then -p j else 0 := fun j hj => by
    rw [sm_mul, inner (by omega) hd h]
    split
    · rw [Int.mul_one]
    · rw [Int.mul_zero]
  rw [sm_congr d e2]
  obtain ⟨n, rfl⟩ : ∃ n, d = n + 1 := ⟨d - 1, by omega⟩
  show sm _ n + _ = _
  rw [sm_congr n fun j hj => if_neg (by omega), sm_zero, Int.zero_add]
  show (if n + 1 = n + 1 then -p n else 0) = _
  rw [if_pos rfl]
  rfl
theorem mo_sum' (p : S) {d N : Nat} (hd : 1 ≤ d) (h : d < 433) (hN : d ≤ N) : sm (fun i => mo p (i + 1) * Ev (i + 1) d) N = -p (d - 1) := by
  rw [sm_ext _ N hN fun i h1 _ => by rw [Ev_low (by omega) (by omega), Int.mul_zero], mo_sum p hd h]
/-- what the program does -/
theorem mo_step (p : S) {d : Nat} (h : d + 1 < 433) : -p d - sm (fun i => mo p (i + 1) * Ev (i + 1) (d + 1)) d = mo p (d + 1) := by
  have z := mo_sum p (d := d + 1) (by omega) h
  have z' : sm (fun i => mo p (i + 1) * Ev (i + 1) (d + 1)) d + mo p (d + 1) * Ev (d + 1) (d + 1) = -p d := z
  rw [Ev_one (Nat.dvd_refl _) (by omega), Int.mul_one] at z'
  omega
theorem sm_natAbs (f : Nat → Int) (g : Nat → Int) : ∀ n, (∀ i, i < n → ((f i).natAbs : Int) ≤ g i) → ((sm f n).natAbs : Int) ≤ sm g n
  | 0, _ => Int.le_refl _
  | n + 1, h => by
    show ((sm f n + f n).natAbs : Int) ≤ sm g n + g n
    have h1 := sm_natAbs f g n fun i hi => h i (by omega)
    have h2 := h n (by omega)
    have := Int.natAbs_add_le (sm f n) (f n)
    omega
theorem mo_bound {p : S} {b : Nat} (hp : ∀ i, (p i).natAbs ≤ b) {c : Nat} (h1 : 1 ≤ c) (h : c < 241) : (mo p c).natAbs ≤ b * 16 := by
  unfold mo
  rw [Int.natAbs_neg]
  have z := sm_natAbs (fun j => p j * (Ev (j + 1) c * mu (c / (j + 1)))) (fun j => (b : Int) * ((Ev (j + 1) c * mu (c / (j + 1))).natAbs : Int)) c fun i _ => by
    rw [Int.natAbs_mul]
    have := Nat.mul_le_mul_right ((Ev (i + 1) c * mu (c / (i + 1))).natAbs) (hp i)
    rw [← Int.natCast_mul]
    omega
  rw [sm_mul] at z
  have z2 := Int.mul_le_mul_of_nonneg_left (mu_abs c h h1) (Int.natCast_nonneg b)
  have e : ((b * 16 : Nat) : Int) = (b : Int) * 16 := Int.natCast_mul b 16
  omega
end Qm

set_option Elab.async false
set_option linter.all false
set_option maxRecDepth 100000
set_option maxHeartbeats 4000000
set_option pp.maxSteps 3000
/-! the dict of the exponents -/
namespace Qm
open PySem PySem.Spec PyProof.Rows L2 Dr Xv LamX Ps Gn Fm
theorem dks_succ (T i : Nat) : dks T (i + 1) = dks T i ++ if (i + 1) ∣ T then [i + 1] else [] := by
  unfold dks
  rw [List.range_succ, List.map_append, List.filter_append]
  congr 1
  show [i + 1].filter _ = _
  by_cases c : (i + 1) ∣ T
  · rw [if_pos c, List.filter_cons_of_pos (by simpa using c)]
    rfl
  · rw [if_neg c, List.filter_cons_of_neg (by simpa using c)]
    rfl
theorem dks_mem {T i c : Nat} : c ∈ dks T i ↔ (1 ≤ c ∧ c ≤ i) ∧ c ∣ T := by
  unfold dks
  rw [List.mem_filter, List.mem_map]
  constructor
  · rintro ⟨⟨j, hj, rfl⟩, h⟩
    have := List.mem_range.mp hj
    exact ⟨by omega, by simpa using h⟩
  · rintro ⟨⟨h1, h2⟩, h⟩
    exact ⟨⟨c - 1, List.mem_range.mpr (by omega), by omega⟩, by simpa using h⟩
theorem dks_asc (T i : Nat) : (dks T i).Pairwise (· < ·) := by
  refine List.Pairwise.filter _ ?_
  rw [List.pairwise_map]
  exact List.pairwise_lt_range.imp fun h => by omega
theorem dks_le {T i : Nat} : ∀ k, (dks T i).length ≤ (dks T (i + k)).length
  | 0 => Nat.le_refl _
  | k + 1 => by
    rw [← Nat.add_assoc, dks_succ, List.length_append]
    have := dks_le (T := T) (i := i) k
    omega
theorem dks_sum (T : Nat) (P : Nat → Bool) (f : Nat → Int) : ∀ i, (((dks T i).filter P).map f).sum = sm (fun j => if (j + 1) ∣ T then (if P (j + 1) then f (j + 1) else 0) else 0) i
  | 0 => rfl
  | i + 1 => by
    rw [dks_succ, List.filter_append, List.map_append, List.sum_append, dks_sum T P f i]
    show _ = _ + (if (i + 1) ∣ T then (if P (i + 1) then f (i + 1) else 0) else 0)
    congr 1
    by_cases c : (i + 1) ∣ T
    · rw [if_pos c, if_pos c]
      cases h : P (i + 1) with
      | true =>
        rw [List.filter_cons_of_pos h, if_pos rfl]
        simp
      | false =>
        rw [List.filter_cons_of_neg (by rw [h]; exact Bool.false_ne_true), if_neg Bool.false_ne_true]
        rfl
    · rw [if_neg c, if_neg c]
      rfl
def kvs (f : Nat → Int) (l : List Nat) : List (Key × V) := l.map fun c : Nat => (Sum.inl (c : Int), V.int (f c))
theorem kvs_keys (f : Nat → Int) (l : List Nat) : (kvs f l).map (·.1) = (l.map fun c : Nat => (c : Int)).map Sum.inl := by
  unfold kvs
  rw [List.map_map, List.map_map]
  rfl
theorem kvs_val (f : Nat → Int) (c : Nat) : ∀ l : List Nat, valV (kvs f l) (Sum.inl (c : Int)) = if c ∈ l then some (.int (f c)) else none
  | [] => rfl
  | x :: r => by
    by_cases e : x = c
    · subst e
      rw [if_pos List.mem_cons_self]
      exact valV_pos (p := ((Sum.inl (x : Int) : Key), V.int (f x))) rfl
    · have ih := kvs_val f c r
      have n : ¬ ((Sum.inl (x : Int) : Key) = .inl (c : Int)) := fun z => e (by injection z with z; omega)
      have z : valV (kvs f (x :: r)) (Sum.inl (c : Int)) = valV (kvs f r) (Sum.inl (c : Int)) := valV_neg (p := ((Sum.inl (x : Int) : Key), V.int (f x))) n
      rw [z, ih]
      by_cases m : c ∈ r
      · rw [if_pos m, if_pos (List.mem_cons_of_mem _ m)]
      · rw [if_neg m, if_neg fun z => by
          rcases List.mem_cons.mp z with z | z
          · exact e z.symm
          · exact m z]
theorem kvs_put {f : Nat → Int} {c : Nat} {l : List Nat} (h : c ∉ l) : putK (kvs f l) (.inl (c : Int)) (.int (f c)) = kvs f (l ++ [c]) := by
  rw [putK_new _ (by rw [kvs_val, if_neg h])]
  unfold kvs
  rw [List.map_append]
  rfl
theorem kvs_at {f : Nat → Int} {l : List Nat} {i : Nat} {k : Key} {v : V} (h : (kvs f l)[i]? = some (k, v)) : ∃ c : Nat, l[i]? = some c ∧ k = .inl (c : Int) ∧ v = .int (f c) := by
  unfold kvs at h
  rw [List.getElem?_map] at h
  cases e : l[i]? with
  | none =>
    rw [e] at h
    cases h
  | some c =>
    rw [e] at h
    cases h
    exact ⟨c, rfl, rfl, rfl⟩
theorem kvs_len (f : Nat → Int) (l : List Nat) : (kvs f l).length = l.length := by
  unfold kvs
  rw [List.length_map]
/-- alike at n and at what n and T share -/
def Like (p : S) (T : Nat) : Prop := ∀ n, 1 ≤ n → n ≤ T → p (n - 1) = p (Nat.gcd n T - 1)
theorem like_all {p : S} {T : Nat} : ((List.range T).map fun i => decide (p i = p (Nat.gcd (i + 1) T - 1))).all id = true ↔ Like p T := by
  rw [List.all_map, List.all_eq_true]
  constructor
  · intro h n h1 h2
    have z := h (n - 1) (List.mem_range.mpr (by omega))
    have z2 := of_decide_eq_true (show decide (p (n - 1) = p (Nat.gcd (n - 1 + 1) T - 1)) = true from z)
    rwa [show n - 1 + 1 = n by omega] at z2
  · intro h i hi
    have := List.mem_range.mp hi
    exact decide_eq_true (h (i + 1) (by omega) (by omega))
/-- the sum before -/
theorem sum_before (p : S) (T : Nat) {d : Nat} (hd : (d + 1) ∣ T) (h : d + 1 < 433) : -p d - (((dks T d).filter fun c : Nat => decide (((d : Int) + 1).fmod (c : Int) = 0)).map (mo p)).sum = mo p (d + 1) := by
  rw [dks_sum, ← mo_step p h]
  congr 1
  refine sm_congr d fun j hj => ?_
  have e : (((d : Int) + 1).fmod ((j + 1 : Nat) : Int) = 0) ↔ (j + 1) ∣ d + 1 := by
    have z : (d : Int) + 1 = ((d + 1 : Nat) : Int) := by omega
    rw [z, Int.fmod_eq_emod_of_nonneg _ (by omega), ← Int.natCast_emod]
    constructor
    · intro q
      exact Nat.dvd_of_mod_eq_zero (by omega)
    · intro q
      have := Nat.mod_eq_zero_of_dvd q
      omega
  by_cases c : (j + 1) ∣ d + 1
  · rw [if_pos (Nat.dvd_trans c hd), if_pos (by simpa using e.mpr c), Ev_one c (by omega), Int.mul_one]
  · rw [Ev_no c, Int.mul_zero]
    split
    · rw [if_neg (by simpa using fun q => c (e.mp q))]
    · rfl
/-- the exponents at the divisors of m that divide T -/
theorem sum_at {p : S} {T : Nat} (hT : 1 ≤ T) (h : T < 433) (hL : Like p T) (hp : ∀ i, p (i % T) = p i) {m N : Nat} (hm : 1 ≤ m) (hN : Nat.gcd m T ≤ N) : sm (fun j => if (j + 1) ∣ T then mo p (j + 1) * Ev (j + 1) m else 0) N = -p (m - 1) := by
  have g0 : 1 ≤ Nat.gcd m T := Nat.gcd_pos_of_pos_left _ hm
  have gT : Nat.gcd m T ≤ T := Nat.le_of_dvd hT (Nat.gcd_dvd_right m T)
  have e : ∀ j, j < N → (if (j + 1) ∣ T then mo p (j + 1) * Ev (j + 1) m else 0) = mo p (j + 1) * Ev (j + 1) (Nat.gcd m T) := fun j _ => by
    by_cases c : (j + 1) ∣ T
    · rw [if_pos c]
      by_cases q : (j + 1) ∣ m
      · rw [Ev_one q hm, Ev_one (Nat.dvd_gcd q c) g0]
      · rw [Ev_no q, Ev_no fun z => q (Nat.dvd_trans z (Nat.gcd_dvd_left m T))]
    · rw [if_neg c, Ev_no (fun z => c (Nat.dvd_trans z (Nat.gcd_dvd_right m T))), Int.mul_zero]
  rw [sm_congr N e, mo_sum' p g0 (by omega) hN]
  congr 1
  -- m by its rest
  obtain ⟨r, er⟩ : ∃ r, r = (m - 1) % T := ⟨_, rfl⟩
  have hr : r < T := by rw [er]; exact Nat.mod_lt _ (by omega)
  have z := hL (r + 1) (by omega) (by omega)
  have eg : Nat.gcd (r + 1) T = Nat.gcd m T := by
    have e1 : m = r + 1 + T * ((m - 1) / T) := by
      have := Nat.mod_add_div (m - 1) T
      rw [← er] at this
      omega
    rw [e1, Nat.gcd_add_mul_left_left]
  rw [eg] at z
  rw [← z]
  show p r = _
  rw [er, hp]
end Qm

set_option Elab.async false
set_option linter.all false
set_option maxRecDepth 100000
set_option maxHeartbeats 4000000
set_option pp.maxSteps 3000
/-! the row of the exponents -/
namespace Qm
open PySem PySem.Spec PyProof.Rows L2 Dr Xv LamX Ps Gn Fm
theorem sS_sm (p : S) (k : Nat) : ∀ j, sS p j k = sm (fun i => ((i + 1 : Nat) : Int) * p i * Ev (i + 1) k) j
  | 0 => rfl
  | j + 1 => by
    show sS p j k + ((j + 1 : Nat) : Int) * p j * Ev (j + 1) k = _ + _
    rw [sS_sm p k j]
theorem spread {c k : Nat} (hc : 1 ≤ c) (hk : 1 ≤ k) (h : k ≤ 60) : (c : Int) * (Ev c k * sS (fun _ => 1) 60 (k / c)) = sm (fun m => ((m + 1 : Nat) : Int) * (Ev (m + 1) k * Ev c (m + 1))) 60 := by
  by_cases d : c ∣ k
  · obtain ⟨t, rfl⟩ := d
    have t1 : 1 ≤ t := Nat.pos_of_ne_zero fun z => by
      rw [z, Nat.mul_zero] at hk
      omega
    rw [Ev_one (Nat.dvd_mul_right c t) (by omega), Int.one_mul, Nat.mul_div_cancel_left t hc, sS_sm]
    have e1 := sm_ext (fun m => ((m + 1 : Nat) : Int) * (Ev (m + 1) (c * t) * Ev c (m + 1))) (n := 60) (c * 60) (Nat.le_mul_of_pos_left 60 hc) fun i h1 h2 => by
      rw [Ev_low (n := i + 1) (by omega) (by omega), Int.zero_mul, Int.mul_zero]
    rw [← e1]
    have e2 := sm_mult hc (fun u => ((c * u : Nat) : Int) * Ev (c * u) (c * t)) 60
    rw [show sm (fun m => ((m + 1 : Nat) : Int) * (Ev (m + 1) (c * t) * Ev c (m + 1))) (c * 60) = sm (fun i => if c ∣ i + 1 then ((c * ((i + 1) / c) : Nat) : Int) * Ev (c * ((i + 1) / c)) (c * t) else 0) (c * 60) from ?_, e2, ← sm_mul]
    · refine sm_congr 60 fun i _ => ?_
      have ev : Ev (c * (i + 1)) (c * t) = Ev (i + 1) t := by
        by_cases q : (i + 1) ∣ t
        · rw [Ev_one q t1, Ev_one (Nat.mul_dvd_mul_left c q) (by omega)]
        · rw [Ev_no q, Ev_no fun z => q (Nat.dvd_of_mul_dvd_mul_left hc z)]
      rw [ev, Int.natCast_mul, Int.mul_one, Int.mul_assoc]
    · refine sm_congr _ fun i _ => ?_
      by_cases q : c ∣ i + 1
      · rw [if_pos q, Ev_one q (by omega), Int.mul_one, Nat.mul_div_cancel' q]
      · rw [if_neg q, Ev_no q, Int.mul_zero, Int.mul_zero]
  · rw [Ev_no d, Int.zero_mul, Int.mul_zero, sm_congr 60 fun i _ => ?_, sm_zero]
    by_cases q : c ∣ i + 1
    · rw [Ev_no (n := i + 1) fun z => d (Nat.dvd_trans q z), Int.zero_mul, Int.mul_zero]
    · rw [Ev_no q, Int.mul_zero, Int.mul_zero]
theorem ite_mul0 (b : Bool) (x : Int) (h : b = false → x = 0) : (if b then x else 0) = x := by
  cases b with
  | true => rfl
  | false => exact (h rfl).symm
theorem sm_cut (f : Nat → Int) {a b : Nat} (h : ∀ i, min a b ≤ i → f i = 0) : sm f a = sm f b := by
  rcases Nat.le_total a b with c | c
  · exact (sm_ext f b c fun i h1 _ => h i (by omega)).symm
  · exact sm_ext f a c fun i h1 _ => h i (by omega)
theorem wS_eq {p : S} {T : Nat} (hT : 1 ≤ T) (h : T < 433) (hL : Like p T) (hp : ∀ i, p (i % T) = p i) {k : Nat} (hk : 1 ≤ k) (h60 : k ≤ 60) :
    (((dks T T).filter fun c => decide (mo p c ≠ 0)).map fun c => mo p c * (c : Int) * (Ev c k * sS (fun _ => 1) 60 (k / c))).sum = -(sS p 60 k) := by
  rw [dks_sum T (fun c => decide (mo p c ≠ 0))]
  have e1 : ∀ j, (if (j + 1) ∣ T then (if decide (mo p (j + 1) ≠ 0) = true then mo p (j + 1) * ((j + 1 : Nat) : Int) * (Ev (j + 1) k * sS (fun _ => 1) 60 (k / (j + 1))) else 0) else 0) = (if (j + 1) ∣ T then mo p (j + 1) else 0) * sm (fun m => ((m + 1 : Nat) : Int) * (Ev (m + 1) k * Ev (j + 1) (m + 1))) 60 := fun j => by
    by_cases c : (j + 1) ∣ T
    · rw [if_pos c, if_pos c, ite_mul0 _ _ fun z => ?_, ← spread (by omega) hk h60, Int.mul_assoc]
      have z2 : mo p (j + 1) = 0 := by simpa using z
      rw [z2, Int.zero_mul, Int.zero_mul]
    · rw [if_neg c, if_neg c, Int.zero_mul]
  rw [sm_congr T fun j _ => e1 j]
  have e2 : ∀ j, 60 ≤ j → sm (fun m => ((m + 1 : Nat) : Int) * (Ev (m + 1) k * Ev (j + 1) (m + 1))) 60 = 0 := fun j hj => by
    rw [sm_congr 60 fun m hm => ?_, sm_zero]
    rw [Ev_low (n := j + 1) (by omega) (by omega), Int.mul_zero, Int.mul_zero]
  have e3 : sm (fun j => (if (j + 1) ∣ T then mo p (j + 1) else 0) * sm (fun m => ((m + 1 : Nat) : Int) * (Ev (m + 1) k * Ev (j + 1) (m + 1))) 60) T = sm (fun j => (if (j + 1) ∣ T then mo p (j + 1) else 0) * sm (fun m => ((m + 1 : Nat) : Int) * (Ev (m + 1) k * Ev (j + 1) (m + 1))) 60) 60 := by
    refine sm_cut _ fun i hi => ?_
    by_cases c : 60 ≤ i
    · rw [e2 i c, Int.mul_zero]
    · rw [if_neg (fun z => ?_), Int.zero_mul]
      have := Nat.le_of_dvd (by omega) z
      omega
  rw [e3]
  have e4 : ∀ j, j < 60 → (if (j + 1) ∣ T then mo p (j + 1) else 0) * sm (fun m => ((m + 1 : Nat) : Int) * (Ev (m + 1) k * Ev (j + 1) (m + 1))) 60 = sm (fun m => ((m + 1 : Nat) : Int) * Ev (m + 1) k * (if (j + 1) ∣ T then mo p (j + 1) * Ev (j + 1) (m + 1) else 0)) 60 := fun j _ => by
    rw [← sm_mul]
    refine sm_congr 60 fun m _ => ?_
    by_cases c : (j + 1) ∣ T
    · rw [if_pos c, if_pos c]
      simp only [Int.mul_assoc, Int.mul_comm, Int.mul_left_comm]
    · rw [if_neg c, if_neg c, Int.zero_mul, Int.mul_zero]
  rw [sm_congr 60 e4, sm_swap (fun j m => ((m + 1 : Nat) : Int) * Ev (m + 1) k * (if (j + 1) ∣ T then mo p (j + 1) * Ev (j + 1) (m + 1) else 0))]
  have e5 : ∀ m, m < 60 → sm (fun j => ((m + 1 : Nat) : Int) * Ev (m + 1) k * (if (j + 1) ∣ T then mo p (j + 1) * Ev (j + 1) (m + 1) else 0)) 60 = (-1) * (((m + 1 : Nat) : Int) * p m * Ev (m + 1) k) := fun m hm => by
    have g : Nat.gcd (m + 1) T ≤ m + 1 := Nat.le_of_dvd (by omega) (Nat.gcd_dvd_left _ _)
    rw [sm_mul, sum_at hT h hL hp (m := m + 1) (by omega) (by omega)]
    show ((m + 1 : Nat) : Int) * Ev (m + 1) k * -p m = _
    rw [Int.mul_neg, Int.neg_one_mul]
    congr 1
    rw [Int.mul_assoc, Int.mul_assoc, Int.mul_comm (Ev (m + 1) k)]
  rw [sm_congr 60 e5, sm_mul, ← sS_sm, Int.neg_one_mul]
/-- the sum over the divisors of n -/
theorem last_sum {p : S} {T : Nat} (hT : 1 ≤ T) (h : T < 433) (hL : Like p T) (hp : ∀ i, p (i % T) = p i) {n : Nat} (hn : 1 ≤ n) :
    ((((dks T T).filter fun c => decide (mo p c ≠ 0)).filter fun c : Nat => decide (((n : Nat) : Int).fmod (c : Int) = 0)).map (mo p)).sum = -p (n - 1) := by
  rw [List.filter_filter, dks_sum T (fun c => decide (((n : Nat) : Int).fmod (c : Int) = 0) && decide (mo p c ≠ 0)) (mo p) T]
  have gT : Nat.gcd n T ≤ T := Nat.le_of_dvd hT (Nat.gcd_dvd_right n T)
  rw [← sum_at hT h hL hp hn gT]
  refine sm_congr T fun j _ => ?_
  by_cases c : (j + 1) ∣ T
  · rw [if_pos c, if_pos c]
    have e : ((n : Int).fmod ((j + 1 : Nat) : Int) = 0) ↔ (j + 1) ∣ n := by
      rw [Int.fmod_eq_emod_of_nonneg _ (by omega), ← Int.natCast_emod]
      constructor
      · intro q
        exact Nat.dvd_of_mod_eq_zero (by omega)
      · intro q
        have := Nat.mod_eq_zero_of_dvd q
        omega
    by_cases d : (j + 1) ∣ n
    · rw [Ev_one d hn, Int.mul_one, decide_eq_true (e.mpr d), Bool.true_and]
      exact ite_mul0 _ _ fun z => by simpa using z
    · rw [Ev_no d, Int.mul_zero, decide_eq_false (fun z => d (e.mp z)), Bool.false_and, if_neg Bool.false_ne_true]
  · rw [if_neg c, if_neg c]
/-- few mates, small exponents -/
theorem mates_few {fam : List Rule} (G : Good fam) {b : Nat} (h : ∀ r ∈ fam, r.2.2 ≤ (b : Int)) (hb : b ≤ 9) (n : Int) : (mates fam n).length ≤ b := by
  unfold mates
  rw [List.length_map]
  have h1 : ∀ z ∈ nines.filter (mTest fam n), z ≤ (b : Int) := fun z hz => by
    obtain ⟨hz1, hz2⟩ := List.mem_filter.mp hz
    unfold mTest at hz2
    rw [Bool.and_eq_true, decide_eq_true_eq, decide_eq_true_eq] at hz2
    by_cases c : hits fam (n.fdiv z) = []
    · have e := bnd_zero c
      have zp : 1 ≤ z := (show ∀ z ∈ nines, 1 ≤ z by decide) z hz1
      omega
    · obtain ⟨r, hr, e⟩ := List.mem_map.mp (bnd_mem c)
      have := h r (List.mem_filter.mp hr).1
      omega
  have h2 : (nines.filter (mTest fam n)).length ≤ (nines.filter fun z => decide (z ≤ (b : Int))).length := by
    refine (List.Sublist.length_le ?_)
    have e : nines.filter (mTest fam n) = (nines.filter fun z => decide (z ≤ (b : Int))).filter (mTest fam n) := by
      rw [List.filter_filter]
      refine List.filter_congr fun z hz => ?_
      by_cases q : mTest fam n z = true
      · rw [q, decide_eq_true (h1 z (List.mem_filter.mpr ⟨hz, q⟩))]
        rfl
      · rw [Bool.eq_false_iff.mpr q, Bool.false_and]
    rw [e]
    exact List.filter_sublist
  have h3 : ∀ b : Nat, b ≤ 9 → (nines.filter fun z => decide (z ≤ (b : Int))).length ≤ b := by decide
  exact Nat.le_trans h2 (h3 b hb)
theorem pS_small {fam : List Rule} (G : Good fam) (h : ∀ r ∈ fam, r.2.2 ≤ 5) (i : Nat) : (pS fam i).natAbs ≤ 5 := by
  have := mates_few G (b := 5) h (by decide) ((i : Int) + 1)
  show ((1 : Int) - _).natAbs ≤ 5
  omega
end Qm

set_option Elab.async false
set_option linter.all false
set_option maxRecDepth 100000
set_option maxHeartbeats 4000000
set_option pp.maxSteps 3000
namespace Qm
open PySem PySem.Spec PyProof.Rows L2 Dr Xv LamX Ps Gn Fm
def fLate : List Rule := [(24, [0], 9), (16, [0], 1)]
theorem late_per : per fLate = 432 := by decide +kernel
theorem late_all : ((List.range 432).map fun i => decide (pS fLate i = pS fLate (Nat.gcd (i + 1) 432 - 1))).all id = true := by decide +kernel
theorem late_like : Like (pS fLate) 432 := like_all.mp late_all
theorem late_mo : mo (pS fLate) 432 ≠ 0 := by decide +kernel
theorem late_in : 432 ∈ dks 432 432 := dks_mem.mpr ⟨⟨by decide, by decide⟩, Nat.dvd_refl _⟩
end Qm

set_option Elab.async false
set_option linter.all false
set_option maxRecDepth 100000
set_option maxHeartbeats 4000000
set_option pp.maxSteps 3000
namespace L2
open PySem PySem.Spec PyProof.Rows
section
variable {X : Cx}
/-- sorted(d, reverse=b) of a dict of fewer than 64 whole numbers -/
def rSortRevD (b : Bool) : List V → List V → Hp → VK → Prop := fun xs zs H Q => ∃ (a : Addr) (kvs : List (Key × V)) (ks : List Int), xs = [.ref a] ∧ zs = [.bl b] ∧ Rd H a (.dK kvs) ∧ kvs.map (·.1) = ks.map Sum.inl ∧ ks.length < 64 ∧
  ∀ (ys : List Int) (p : Addr), ys.Perm ks → OrdB b ys → H p = none → Q (.ref p) (upd H p (.lst (ys.map V.int)))
theorem cr_sortedRevD (hcalm : X.calm = true) {b : Bool} : CallRK X (.builtin "sorted") [Str.ofString "reverse"] (rSortRevD b) := by
  intro pins s σ H xs zs us ws Q I r rz q
  obtain ⟨a, kvs, ks, rfl, rfl, hd, hks, h64, q⟩ := q
  obtain rfl := Vals.ref1 r
  obtain ⟨w1, rfl, e1⟩ := vals1 rz
  obtain rfl : w1 = Value.bool b := e1
  obtain ⟨z, lo, vs, rel, dd⟩ := dk_rd I.hok hd
  obtain ⟨ep, hat⟩ := dd.dictAt
  have hkeys : vs.map (·.1) = ks.map Sum.inl := rel.keys.symm.trans hks
  have hl : vs.length = ks.length := by
    have e := congrArg List.length hkeys
    rwa [List.length_map, List.length_map] at e
  have h16 : vs.length ≤ sizeLine := by rw [hl, sizeLine_eq]; omega
  show wpAny _ _ (call (.builtin "sorted") [.ref a] [(Str.ofString "reverse", Value.bool b)]) _ _ _
  refine call_function_entry_kw kind_sorted plain_sorted entry_sorted (PyProof.Rows.args_sorted_rev _ _) ?_
  unfold Builtin.«sorted»
  refine wpAny_bind (m := checkCount "sorted" 1 1 _) (wpAny_pure ?_)
  refine wpAny_bind (PySem.W.kdu_collect (A := X.A.in1) (PySem.W.kdl_dict (knd := mixKind X.prog X.w) (kvs := vs) (ep := ep) lo) (I.ok.hd hcalm) hat h16 fun h' tk acc hk hacc => ?_)
  have hal : acc.toList.length = ks.length := by rw [Array.length_toList, hacc.1, hl]
  have hS : IntsAre acc.toList ks := ints_each hal fun j v e => by
    obtain ⟨k, x, e1, e2⟩ := hacc.2 j v (by rw [← Array.getElem?_toList]; exact e)
    have e3 : (vs.map (·.1))[j]? = some k := by rw [List.getElem?_map, e1]; rfl
    rw [hkeys, List.getElem?_map] at e3
    cases e4 : ks[j]? with
    | none => rw [e4] at e3; cases e3
    | some y =>
      rw [e4] at e3
      obtain rfl : Sum.inl y = k := Option.some.inj e3
      rcases keyIs_shape (show keyIs (Sum.inl y) v = true from e2) with ⟨i, t, ek, ev⟩ | ⟨z, t, ek, ev⟩
      · cases ek
        exact ⟨y, t, rfl, ev⟩
      · cases ek
  have I1 : Inv X pins σ H { s with heap := h', toks := tk } := I.kept hk
  have hz : acc.toList.length ≤ sizeLine := by rw [hal, sizeLine_eq]; omega
  refine wpAny_bind (wpAny_newList ?_ hz)
  have hoL : (h'.push (seqObj "list" acc.toList.toArray 0)).get? h'.objs.size = some (seqObj "list" acc.toList.toArray 0) := Heap.get?_push_size _ rfl
  show wpAny _ _ _ _ _ { s with heap := h'.push (seqObj "list" acc.toList.toArray 0), toks := tk }
  refine wpAny_bind (wpAny_holding (wpAny_call_entry_kw slot_list_sort ⟨_, hoL, rfl⟩ entry_list_sort ?_ (PyProof.Rows.args_list_sort_rev _ _)))
  refine SrtR.list_sort_ordR SrtO.swo_int hoL hz (fun h2 => SrtO.ints_sortable hS h2) fun out h1 h2 => ⟨_, rfl, ?_⟩
  obtain ⟨ns', k1, k2, k3⟩ := SrtR.ints_outR hS h1 h2
  obtain ⟨e', he'⟩ := PyProof.Rows.sortedHeap_at (vs := acc.toList) (out := if b = true then out.toArray.reverse else out.toArray) hoL
  have hlen : (ns'.map V.int).length ≤ sizeLine := by
    rw [List.length_map, k2.length_eq, sizeLine_eq]
    omega
  refine wpAny_pure ⟨_, rfl, .ref h'.objs.size, upd H h'.objs.size (.lst (ns'.map V.int)), I1.laid (t' := tk) (fun b2 u e => ?_) (Nat.le_refl _)
    (show ObjOk X.prog X.w _ _ _ (.lst (ns'.map V.int)) from ⟨hlen, _, e', vals_of_ints k1, by rw [Array.toArray_toList]; exact he'⟩), rfl, q ns' _ k2 k3 (I1.hok.fresh (Nat.le_refl _))⟩
  have hb : b2 < h'.objs.size := Heap.lt_size e
  rw [PyProof.Rows.sortedHeap_old (Nat.ne_of_lt hb) (by rw [size_push']; exact Nat.lt_succ_of_lt hb)]
  exact Heap.get?_push_of_some _ e
end
/-! ### set(xs) of a list of whole numbers, one that can be walked -/
abbrev eSet (w : World) : Obj := { cls := .type "set", dict := none, data := .set #[] 0 (.fresh 0 0 (!w.params.followText "set-order")) }
section
variable {P : Program} {w : World} {A : Around} {E : Value → Shared → Prop} {s : Shared}
/-- a set of these numbers in place of the next object -/
def Filled (w : World) (s : Shared) (ns : List Int) (r : Value) (s2 : Shared) : Prop := r = Value.none ∧ ∃ (h' : Heap) (tk c : Nat), s2 = { s with heap := h', toks := tk } ∧ SetR w h' s.heap.objs.size (fun j => decide (j ∈ ns)) c ∧ c ≤ ns.length ∧ ∀ b o, s.heap.get? b = some o → h'.get? b = some o
set_option maxHeartbeats 3200000 in
theorem set_of_list {l : Addr} {items : Array Value} (ns : List Int) {Q : Value → Shared → Prop} (hh : A.handled = none) (hl : s.heap.IsList l items) (hit : IntsAre items.toList ns) (hb : ns.length + 1 < scanBound)
    (h : ∀ s2, Filled w s ns .none s2 → Q (.ref s.heap.objs.size) s2) : wpAny (model P w) A (call (.type "set") [.ref l]) Q E s := by
  have hn : items.size = ns.length := (Array.length_toList).symm.trans (IntsAre.length hit)
  obtain ⟨c0, tl, hmro⟩ := F.called_set.mro
  have m1 := F.called_set.made
  have m2 := F.called_set.sub
  refine wpAny_call (codeAny_of_tree ?_)
  show wpAny _ _ (callAny (.type "set") _) _ _ _
  refine wpAny_pure ⟨Code.quiet_builtin _ (by decide +kernel), codeAny_builtin F.entry_type_call ?_⟩
  rw [Around.under_plain (weight_type_call_type "set" [.ref l] []) rfl]
  have m3 := F.called_set.notType
  have m4 := F.called_set.canCreate
  have m5 := F.typeCall_set_1 (.ref l)
  repeat (any_goals (first | assumption | wp_step))
  refine codeAny_mono (code_set_led1 (w := w) (.ref l) (E := E) (Q₁ := fun r s1 => r = .ref s.heap.objs.size ∧ s1 = { s with heap := s.heap.push (eSet w) }) ⟨rfl, rfl⟩) fun r s1 hr => ?_
  match r, hr with
  | .error e, hr => exact hr
  | .ok (.ret _), ⟨e1, e2⟩ =>
    subst e1
    subst e2
    have hS : (s.heap.push (eSet w)).get? s.heap.objs.size = some (eSet w) := Heap.get?_push_size _ rfl
    have hT : Shared.TypeIs { s with heap := s.heap.push (eSet w) } (.ref s.heap.objs.size) "set" := ⟨_, hS, rfl⟩
    have m6 := F.called_set.init.lookup
    have m7 := F.called_set.init.bind (.ref s.heap.objs.size)
    repeat (any_goals (first | assumption | wp_step))
    refine codeAny_mono (codeAny_call_builtin (R := wants (Filled w s ns) E) F.called_set.init.plain F.entry_set_init (check_set_init_1 hT ?_)) fun r2 s2 hr2 => ?_
    · obtain ⟨⟨oc, od, odt, osl⟩, hol, hcl, nl, hdl⟩ := hl
      simp only at hcl hdl
      subst hcl
      subst hdl
      have hl1 : (s.heap.push (eSet w)).IsList l items := ⟨_, Heap.get?_push_of_some _ hol, rfl, nl, rfl⟩
      have hol' : (s.heap.push (eSet w)).get? l = some { cls := .type "list", dict := od, data := .seq items nl, slots := osl } := Heap.get?_push_of_some _ hol
      have t1 := F.sub_list_set
      have t2 := F.sub_list_frozenset
      have t3 : (Value.type "list" == Value.type "dict") = false := by decide
      unfold Builtin.«set.__init__» noKeywords Builtin.Frozenset.updateFrom
      generalize hPI : pyIter = PI
      wp_walk
      subst hPI
      refine wpAny_pyIter_list hl1 ?_
      refine wpAny_bind (wpAny_runValue ?_)
      have lt := Heap.lt_size hol
      have hA : A.in1.in1.in1.handled = none := by simp [hh]
      have sz : (s.heap.push (eSet w)).objs.size = s.heap.objs.size + 1 := Heap.size_push ..
      have n1 : l ≠ (s.heap.push (eSet w)).objs.size := by
        rw [sz]
        exact Nat.ne_of_lt (Nat.lt_succ_of_lt lt)
      have n2 : s.heap.objs.size ∉ [(s.heap.push (eSet w)).objs.size, l] := by
        rw [List.mem_cons, List.mem_singleton, sz]
        rintro (z | z)
        · exact absurd z (Nat.ne_of_lt (Nat.lt_succ_self _))
        · exact absurd z (Nat.ne_of_gt lt)
      refine set_update_ints ((Walks.list hA _ l n1 items).toS) s.heap.objs.size n2 ns hn hb (fun i v hv => ?_) (items.size - 0) 0 _ (by omega) (Nat.zero_le _) ⟨⟨_, Heap.get?_push_size _ rfl, rfl, rfl⟩, hl1.push _⟩ ⟨0, Nat.le_refl 0, setR_new_at (Heap.get?_push_of_some _ hS)⟩ ?_
      · have hi : i < ns.length := by rw [← hn]; exact (Array.getElem?_eq_some_iff.mp hv).1
        obtain ⟨t, e⟩ := PyProof.Rows.IntsAre.int_at hit i v (by rw [Array.getElem?_toList]; exact hv)
        rw [List.getD_eq_getElem?_getD, List.getElem?_eq_getElem hi] at e
        exact ⟨_, t, List.getElem?_eq_getElem hi, e⟩
      · rintro ⟨h', g2, d2, t2, o2⟩ c hm hc hS2
        obtain rfl : g2 = s.gens := hm.gens
        obtain rfl : d2 = s.drawn := hm.drawn
        obtain rfl : o2 = s.os := hm.os
        show wpAny _ _ _ _ _ _
        refine wpAny_pure ?_
        show wpAny _ _ (ret Value.none) _ _ _
        refine wpAny_pure ⟨rfl, h', t2, c, rfl, hS2, by omega, fun b o e => ?_⟩
        have lb := Heap.lt_size e
        refine hm.heap b o ?_ (Heap.get?_push_of_some _ (Heap.get?_push_of_some _ e))
        rw [List.mem_cons, List.mem_singleton, sz]
        rintro (z | z)
        · exact absurd z (Nat.ne_of_lt lb)
        · exact absurd z (Nat.ne_of_lt (Nat.lt_succ_of_lt lb))
    · match r2, hr2 with
      | .error e, hr2 => exact hr2
      | .ok (.ret _), ⟨e1, F2⟩ =>
        subst e1
        repeat (any_goals (first | assumption | wp_step))
        exact h _ ⟨rfl, F2⟩
end
/-- set(xs) -/
def rSetLI (K : PySem.W.Frag) (w : World) : List V → Hp → VK → Prop := fun xs H Q => ∃ (l : Addr) (ns : List Int), xs = [.ref l] ∧ SqL K H l (ns.map V.int) ∧ ns.length ≤ 1000 ∧ ∀ (p : Addr) (c : Nat), H p = none → c ≤ ns.length → Q (.ref p) (upd H p (SetO w p (fun j => decide (j ∈ ns)) c))
theorem cr_setLI {X : Cx} (hc : X.calm = true) : CallR X (.type "set") (rSetLI X.K X.w) := by
  intro pins s σ H xs us Q I r h
  obtain ⟨l, ns, rfl, hs, hn, q⟩ := h
  rw [Vals.ref1 r]
  obtain ⟨its, rv, pl, hz⟩ := I.list hs
  refine set_of_list ns (I.ok.hd hc) pl.isList (by simpa using rv.ints) (by unfold scanBound; omega) ?_
  rintro s2 ⟨_, h', tk, c, rfl, R, hc2, k⟩
  exact ⟨.ref _, upd H s.heap.objs.size (SetO X.w s.heap.objs.size (fun j => decide (j ∈ ns)) c), I.laid (t' := tk) k (Nat.le_refl _) (setO_new R), rfl, q _ c (I.hok.fresh (Nat.le_refl _)) hc2⟩
end L2

set_option Elab.async false
set_option linter.all false
set_option maxRecDepth 100000
set_option maxHeartbeats 4000000
set_option pp.maxSteps 3000
/-! sorted(.., reverse=True) of a list of tuples of whole numbers -/
namespace Gn
open PySem PySem.Spec PyProof.Rows L2 Dr Xv LamX Ps
def encT (b : Addr × List Int) : PyData := tupD b.2
theorem intsD_map : ∀ ns : List Int, intsD ns = ns.map PyData.int
  | [] => rfl
  | z :: r => congrArg (PyData.int z :: ·) (intsD_map r)
theorem encT_alike (x y : Addr × List Int) : PySem.W.alike (encT x) (encT y) = true := by
  have e := PySem.W.alike_ints x.2 y.2
  show PySem.W.alike (.tuple (intsD x.2)) (.tuple (intsD y.2)) = true
  rw [intsD_map, intsD_map]
  simpa [PySem.W.alike] using e
theorem encT_le {x y : Addr × List Int} (h : PySem.W.dataLe true encT x y = true) : y.2 ≤ x.2 := by
  rw [PySem.W.dataLe_eq] at h
  have h' : (!PySem.W.dataLt (.tuple (intsD x.2)) (.tuple (intsD y.2))) = true := h
  rw [PySem.W.dataLt_tuple] at h'
  have h2 : (!PySem.W.rowLt (intsD x.2) (intsD y.2)) = true := h'
  rw [intsD_map, intsD_map, PySem.W.dataLt_ints, Bool.not_eq_true', decide_eq_false_iff_not] at h2
  exact List.not_lt.mp h2
theorem each_fst {R : Value → Addr × List Int → Prop} : ∀ (ts : List Addr) (ps : List (List Int)), ts.length = ps.length → (∀ (i : Nat) (t : Addr) (p : List Int), ts[i]? = some t → ps[i]? = some p → R (.ref t) (t, p)) → PySem.W.EachIs R (ts.map Value.ref) (ts.zip ps)
  | [], [], _, _ => .nil
  | t :: ts, p :: ps, hl, h => .cons (h 0 t p rfl rfl) (each_fst ts ps (Nat.succ.inj hl) fun i t' p' e1 e2 => h (i + 1) t' p' e1 e2)
  | [], _ :: _, hl, _ => by cases hl
  | _ :: _, [], hl, _ => by cases hl
theorem vals_refs : ∀ {ts : List Addr} {its : List Value}, Vals (ts.map V.ref) its → its = ts.map Value.ref
  | [], _, h => by
    cases h
    rfl
  | t :: ts, _, h => by
    cases h with
    | cons r h =>
      cases r
      rw [vals_refs h]
      rfl
theorem refs_vals : ∀ ts : List Addr, Vals (ts.map V.ref) (ts.map Value.ref)
  | [] => .nil
  | t :: ts => .cons rfl (refs_vals ts)
theorem each_refs : ∀ {out : List Value} {bs : List (Addr × List Int)}, PySem.W.EachIs (fun v b => v = Value.ref b.1) out bs → out = (bs.map (·.1)).map Value.ref
  | _, _, .nil => rfl
  | _, _, .cons h t => by
    rw [each_refs t, h]
    rfl
def rSortTR (K : PySem.W.Frag) : List V → List V → Hp → VK → Prop := fun xs zs H Q => ∃ (a : Addr) (ts : List Addr) (ps : List (List Int)), xs = [.ref a] ∧ zs = [.bl true] ∧ SqL K H a (ts.map V.ref) ∧ TupI H ts ps ∧ ((∀ p ∈ ps, p ≠ []) ∨ ps.length ≤ 1) ∧
  ∀ (bs : List (Addr × List Int)) (p : Addr), bs.Perm (ts.zip ps) → (bs.map (·.2)).Pairwise (fun x y => y ≤ x) → H p = none → Q (.ref p) (upd H p (.lst ((bs.map (·.1)).map V.ref)))
theorem zip_fst : ∀ (ts : List Addr) (ps : List (List Int)), ts.length = ps.length → (ts.zip ps).map (·.1) = ts
  | [], [], _ => rfl
  | t :: ts, p :: ps, h => congrArg (t :: ·) (zip_fst ts ps (Nat.succ.inj h))
  | [], _ :: _, h => by cases h
  | _ :: _, [], h => by cases h
theorem cr_sortTR {X : Cx} (hu : X.A.units + 64 < cLine) : CallRK X (.builtin "sorted") [Str.ofString "reverse"] (rSortTR X.K) := by
  intro pins s σ H xs zs us ws Q I r rz h
  obtain ⟨a, ts, ps, rfl, rfl, hs, T, hp, q⟩ := h
  obtain rfl := Vals.ref1 r
  obtain ⟨w1, rfl, e1⟩ := vals1 rz
  obtain rfl : w1 = Value.bool true := e1
  obtain ⟨its, rv, hl, hz⟩ := I.list hs
  obtain rfl := vals_refs rv
  have hlen : (ts.zip ps).length = ts.length := by
    rw [List.length_zip, T.1, Nat.min_self]
  rw [List.length_map] at hz
  have fin : ∀ (out : List Value) (bs : List (Addr × List Int)), out = (bs.map (·.1)).map Value.ref → bs.Perm (ts.zip ps) → (bs.map (·.2)).Pairwise (fun x y => y ≤ x) → EP X pins σ Q (.ref (s.heap.objs.size + 1)) { s with heap := sortedAll s.heap (ts.map Value.ref) (List.toArray out) } := by
    intro out bs eo hb hd
    obtain ⟨ep, he'⟩ := PyProof.Rows.sortedAll_at s.heap (ts.map Value.ref) out.toArray
    have hlen2 : ((bs.map (·.1)).map V.ref).length ≤ sizeLine := by
      rw [List.length_map, List.length_map, hb.length_eq, hlen]
      exact hz
    exact ⟨.ref _, upd H (s.heap.objs.size + 1) (.lst ((bs.map (·.1)).map V.ref)), I.laid (t' := s.toks) (fun _ _ => PyProof.Rows.sortedAll_old) (Nat.le_succ _) ⟨hlen2, out, ep, by rw [eo]; exact refs_vals _, by simpa using he'⟩, rfl, q bs _ hb hd (I.hok.fresh (Nat.le_succ _))⟩
  rcases hp with hp | hp
  · have hmem : ∀ b ∈ ts.zip ps, b.2 ≠ [] := fun b hb => by
      obtain ⟨b1, b2⟩ := b
      exact hp _ (List.of_mem_zip hb).2
    refine PySem.W.sorted_rev_data (R := fun v b => v = Value.ref b.1) (bs := ts.zip ps) (enc := encT) hl.isList (each_fst ts ps T.1 fun _ _ _ _ _ => rfl) (each_fst ts ps T.1 fun i t p e1 e2 => Dp.reads I _ _ _ (tup_dp (T.2 i t p e1 e2)) rfl) (PySem.W.AllAlike.of encT_alike) (.inl fun d hd => ?_) (by rw [hlen]; exact hz) (fun b _ => ?_) fun out ho eo => ?_
    · obtain ⟨b, hb, rfl⟩ := List.mem_map.mp hd
      have z := hmem b hb
      cases e : b.2 with
      | nil => exact absurd e z
      | cons x r => exact ⟨.int x, intsD r, by show tupD b.2 = _; rw [e]; rfl⟩
    · have := tup_depth b.2
      show _ + (tupD b.2).depth < _
      omega
    · refine fin out _ (each_refs eo) (List.mergeSort_perm _ _) ?_
      have hsp := PySem.W.sort_pairwise (le := PySem.W.dataLe true encT) (PySem.W.sortLe_total _ _ _) (ts.zip ps)
      rw [List.pairwise_map]
      exact hsp.imp fun h => encT_le h
  · refine SrtR.sorted_ordK (ltv := SrtO.ltIv) (b := true) (fun _ => rfl) (PyProof.Rows.args_sorted_rev _ _) (fun _ => PyProof.Rows.args_list_sort_rev _ _) SrtO.swo_int hl.isList (by rw [List.length_map]; exact hz) (fun h2 => ?_) fun out h1 h2 => ?_
    · rw [List.length_map, T.1] at h2
      omega
    · have hpm : out.Perm ((ts.map Value.ref).reverse) := h2.perm
      obtain ⟨ht, hps⟩ : (ts = [] ∨ ∃ t, ts = [t]) ∧ (ps = [] ∨ ∃ p, ps = [p]) := by
        have l2 : ts.length ≤ 1 := by
          rw [T.1]
          exact hp
        refine ⟨?_, ?_⟩
        · match ts, l2 with
          | [], _ => exact .inl rfl
          | [t], _ => exact .inr ⟨t, rfl⟩
          | _ :: _ :: _, z =>
            simp at z
        · match ps, hp with
          | [], _ => exact .inl rfl
          | [t], _ => exact .inr ⟨t, rfl⟩
          | _ :: _ :: _, z =>
            simp at z
      have e1 : out = ts.map Value.ref := by
        rcases ht with rfl | ⟨t, rfl⟩
        · exact List.perm_nil.mp hpm
        · exact List.perm_singleton.mp hpm
      subst e1
      have er : (if true = true then (ts.map Value.ref).toArray.reverse else (ts.map Value.ref).toArray) = (ts.map Value.ref).toArray := by
        rw [if_pos rfl]
        rcases ht with rfl | ⟨t, rfl⟩ <;> rfl
      rw [er]
      refine fin _ (ts.zip ps) (by rw [zip_fst _ _ T.1]) (.refl _) ?_
      rcases ht with rfl | ⟨t, rfl⟩
      · exact .nil
      · rcases hps with rfl | ⟨p, rfl⟩
        · exact .nil
        · exact List.pairwise_singleton _ _
theorem TupI.perm {H : Hp} {ts : List Addr} {ps : List (List Int)} {bs : List (Addr × List Int)} (T : TupI H ts ps) (h : bs.Perm (ts.zip ps)) : TupI H (bs.map (·.1)) (bs.map (·.2)) := by
  refine ⟨by rw [List.length_map, List.length_map], fun i t p e1 e2 => ?_⟩
  rw [List.getElem?_map] at e1 e2
  cases e : bs[i]? with
  | none =>
    rw [e] at e1
    cases e1
  | some b =>
    rw [e] at e1 e2
    cases e1
    cases e2
    have hb : b ∈ ts.zip ps := h.mem_iff.mp (List.mem_of_getElem? e)
    obtain ⟨j, hj⟩ := List.mem_iff_getElem?.mp hb
    obtain ⟨b1, b2⟩ := b
    obtain ⟨h1, h2⟩ := List.getElem?_zip_eq_some.mp hj
    exact T.2 j b1 b2 h1 h2
end Gn

set_option Elab.async false
set_option linter.all false
set_option maxRecDepth 100000
set_option maxHeartbeats 4000000
set_option pp.maxSteps 3000
/-! list(d.values()); a != b of two dicts that are equal -/
namespace L2
open PySem PySem.Spec PyProof.Rows
section
variable {X : Cx}
theorem vals_at : ∀ {xs : List V} {us : List Value}, us.length = xs.length → (∀ (j : Nat) (v : Value), us[j]? = some v → ∃ x, xs[j]? = some x ∧ RelV x v) → Vals xs us
  | [], [], _, _ => .nil
  | x :: xs, u :: us, hl, h => by
    obtain ⟨y, e, r⟩ := h 0 u rfl
    obtain rfl : x = y := Option.some.inj e
    exact .cons r (vals_at (by simpa using hl) fun j v e => by
      obtain ⟨y, a, b⟩ := h (j + 1) v (by simpa using e)
      exact ⟨y, by simpa using a, b⟩)
  | [], _ :: _, hl, _ => by simp at hl
  | _ :: _, [], hl, _ => by simp at hl
/-- list(o.values()) -/
def tListVals (td : TE) : TE := fun σ H Q => td σ H fun x H1 => ∃ (a : Addr) (kvs : List (Key × V)), x = V.ref a ∧ H1 a = some (.dK kvs) ∧ ∀ p, H1 p = none → Q (.ref p) (upd H1 p (.lst (kvs.map (·.2))))
variable {o : Expr} {p pos apos mpos : Pos} {td : TE}
theorem pe_listVals (hc : X.calm = true) (hg : Gl X "list") (hm : X.mg "list" = none) (hd : PE X o td) (hbase : attributeBase o "values" X.env (eval o X.env) = eval o X.env := by rfl) (hline : (apos.endLine == mpos.line) = true := by rfl)
    (hse : starEach [Expr.Call (.Attribute o "values" apos) [] [] mpos] X.env = [(false, eval (Expr.Call (.Attribute o "values" apos) [] [] mpos) X.env)] := by rfl) :
    PE X (.Call (.Name "list" p) [.Call (.Attribute o "values" apos) [] [] mpos] [] pos) (tListVals td) := by
  refine ⟨fun pins s σ H Q I h => ?_⟩
  refine wpAny_Call_Name_kw (ld_blt I hg hm (u := .type "list") (by first | rfl | decide +kernel) ?_ (by first | decide +kernel | decide) (by first | decide +kernel | decide))
  rw [hse]
  refine PySem.callWith_type1 (wpAny_Call_method0_late hbase hline (thn (hd.run pins s σ H _ I h) fun v s1 ⟨x, H1, I1, r1, a, kvs, ex, ha, q⟩ => ?_))
  subst ex
  obtain rfl : v = Value.ref a := r1
  obtain ⟨hz, hsys, vs, rel, dof⟩ := dk_of I1.hok ha
  obtain ⟨ep, dat⟩ := dof.dictAt
  have dat' := dat
  obtain ⟨ob, es, ho, ex, hdat, hko, hpr, hnd⟩ := dat'
  refine ⟨"dict", "dict.values", F.plainAttrs_dict, F.slot_dict_values, F.type_dict_values, ⟨ob, ho, ex.1⟩, fun b e => ?_, Calls.callWith_builtin rfl (PySem.evalArgs_none ?_)⟩
  · cases e
    exact ⟨ob, ho, ex.2.1⟩
  refine call_meetsIn F.slot_dict_values ⟨ob, ho, ex.1⟩ F.entry_dict_values (F.args_dict_values_1 _) (meets_dict_values (mixKind X.prog X.w) a hsys) ⟨⟨vs, dof⟩, ?_⟩
  have k1 : ∀ b u, s1.heap.get? b = some u → (s1.heap.push { cls := .type "dict_values", data := .fields #[.ref a] }).get? b = some u := fun b u e => Heap.get?_push_of_some _ e
  have dat1 : (s1.heap.push { cls := .type "dict_values", data := .fields #[.ref a] }).DictAt (mixKind X.prog X.w) a vs ep := dat.keep k1
  have hl : kvs.length = vs.length := KV.length rel
  have I2 : Inv X pins σ H1 { s1 with heap := s1.heap.push { cls := .type "dict_values", data := .fields #[.ref a] } } := I1.kept (t' := s1.toks) k1
  refine PySem.W.kdl_call (PySem.W.kdl_values (knd := mixKind X.prog X.w) (kvs := vs) (ep := ep) (r := s1.heap.objs.size) (d := a)) (I.ok.hd hc) ⟨⟨_, Heap.get?_push_size _ rfl, rfl, rfl⟩, dat1⟩ (by rw [← hl]; exact hz) fun h' tk acc c' hk hD hacc => ?_
  have hv : Vals (kvs.map (·.2)) acc.toList := vals_at (by rw [Array.length_toList, List.length_map, hl]; exact hacc.1) fun j v e => by
    obtain ⟨k, e1⟩ := hacc.2 j v (by rw [← Array.getElem?_toList]; exact e)
    obtain ⟨x, e2, r⟩ := KV.at' rel e1
    exact ⟨x, by rw [List.getElem?_map, e2]; rfl, r⟩
  have hsz : (s1.heap.push { cls := .type "dict_values", data := .fields #[.ref a] }).objs.size = s1.heap.objs.size + 1 := Heap.size_push _ _
  refine ⟨.ref _, upd H1 (s1.heap.push { cls := .type "dict_values", data := .fields #[.ref a] }).objs.size (.lst (kvs.map (·.2))), I2.laid (t' := tk) hk (Nat.le_refl _)
    (show ObjOk X.prog X.w _ _ _ (.lst (kvs.map (·.2))) from ⟨by rw [List.length_map]; exact hz, acc.toList, c', hv, by rw [Array.toArray_toList]; exact hD⟩), rfl, q _ (I2.hok.fresh (Nat.le_refl _))⟩
end
end L2
namespace PySem.W
open PySem PySem.Calls PyProof.Rows PyProof.V PySem.Spec
section
variable {prog : Program} {w : World} {K : Type} [DecidableEq K] {knd : KeyKind prog w K} {A : Around} {E : Value → Shared → Prop} {s : Shared}
theorem rcN_dicts {a b : Addr} {ka kb : List (K × Value)} {r : Bool} (ha : (a == sysModules) = false) (hb : (b == sysModules) = false)
    (da : s.heap.DictOf knd a ka) (db : s.heap.DictOf knd b kb) (hu : A.units < cLine) (hits : ka.length = kb.length → KeqHitsP prog w A.in1 s kb ka r) (E Q : Value → Shared → Prop) (h : Q (.bool (!(ka.length == kb.length && r))) s) : wpAny (model prog w) A (richCompare .NotEq (.ref a) (.ref b)) Q E s := by
  refine wpAny_richCompare_same_room (op := .NotEq) da.typeIs db.typeIs PySem.F.slot_dict_ne (wpAny_call_entry PySem.F.slot_dict_ne da.typeIs PySem.F.entry_dict_ne ?_ (PySem.F.args_dict_ne_2 _ _)) hu
  show wpAny _ _ (Builtin.Dict.dictSlotArgs "__ne__" ⟨[.ref a, .ref b], []⟩ >>= _) _ _ s
  refine wpAny_bind ?_
  unfold Builtin.Dict.dictSlotArgs
  refine wpAny_bind (wpAny_notOrdered_dict da.typeIs ?_)
  show wpAny _ _ (pure (Value.ref a, Value.ref b)) _ _ s
  refine wpAny_pure ?_
  refine wpAny_bind (wpAny_isInstance (T := "dict") db.typeIs PySem.F.sub_dict_dict ?_)
  simp only [Bool.not_true, Bool.false_eq_true, if_false]
  refine wpAny_bind (wpAny_pure (wpAny_bind (wpAny_pure ?_)))
  refine wpAny_bind (samePairsP ha hb da db hits ?_)
  refine wpAny_pure ⟨_, rfl, ?_, ?_⟩
  · exact fun x => nomatch x
  · have e : ((ka.length == kb.length && r) == false) = !(ka.length == kb.length && r) := by cases (ka.length == kb.length && r) <;> rfl
    simpa [e] using h
end
end PySem.W
namespace L2
open PySem PySem.Spec PyProof.Rows
section
variable {X : Cx}
/-- a != b, two dicts of the same keys with the same numbers -/
def rNeDK : R2 := fun x y H Q => ∃ a b kvs, x = .ref a ∧ y = .ref b ∧ H a = some (.dK kvs) ∧ H b = some (.dK kvs) ∧ (∀ p ∈ kvs, valV kvs p.1 = some p.2 ∧ ∃ i, p.2 = .int i) ∧ Q (.bl false) H
theorem op_neDK (hu : X.A.units + 64 < cLine) : OpR X (compareOp .NotEq) rNeDK := by
  intro pins s σ H x y v u Q I rx ry h
  obtain ⟨a, b, kvs, rfl, rfl, ha, hb, hk, q⟩ := h
  cases (show v = Value.ref a from rx)
  cases (show u = Value.ref b from ry)
  obtain ⟨_, ya, va, ra, da⟩ := (show ObjOk X.prog X.w H s.heap a (.dK kvs) from I.hok a _ ha)
  obtain ⟨_, yb, vb, rb, db⟩ := (show ObjOk X.prog X.w H s.heap b (.dK kvs) from I.hok b _ hb)
  refine PySem.W.rcN_dicts (knd := mixKind X.prog X.w) (r := true) ya yb da db (by omega) (fun _ => hits_run (F := fun x y => x = y ∧ ∃ i, x = .int i) (fun x y v u h rv ru => ?_) rb ra fun p hp => ⟨_, (hk p hp).1, rfl, (hk p hp).2⟩) _ _ ?_
  · obtain ⟨rfl, i, rfl⟩ := h
    exact (eqAt_same rv ru rfl).eqP
  · have e : va.length = vb.length := by rw [← ra.length, ← rb.length]
    rw [show (!(va.length == vb.length && true)) = false from by rw [e]; simp]
    exact ⟨.bl false, H, I, rfl, q⟩
end
end L2

set_option Elab.async false
set_option linter.all false
set_option maxRecDepth 100000
set_option maxHeartbeats 4000000
set_option pp.deepTerms false
set_option pp.maxSteps 3000
namespace Dr
open PySem PySem.Spec PyProof.Rows L2
def top (i : Nat) : Stmt := PySem.Challenge.pw_etasure_k85_families_that_are_quotients.main.body.getD i (.Pass ⟨0, 0, 0, 0⟩)
abbrev sBegun : Stmt := top 54
abbrev sBlend : Stmt := top 55
abbrev sTake : Stmt := top 56
abbrev sPick : Stmt := top 57
section
variable {P : Program} {w : World} {K : PySem.W.Frag} {mg : Str → Option Value} {base : Heap} {f fB fT : Addr} {fd fdB fdT : FuncData}
theorem scBegun : FnScope ["script", "large", "cell"] ["script"] (defScope sBegun) := ⟨rfl, rfl, rfl, by decide +kernel, rfl, by decide +kernel, by decide +kernel⟩
theorem ok_begun (F : FnP K "_law_begun" sBegun f fd) (abs0 : mg "abs" = none) : FnOk P w K mg base CX0 1 f fd ["script"] (spBegun K) := by
  refine F.ok scBegun (fun vs H Q E h => ?_) (fun cdv A outer s H vs Q E hr h => ?_)
  · obtain ⟨a, ns, rfl, _⟩ := h
    rfl
  · obtain ⟨a, ns, rfl, hS, hlen, k⟩ := h
    refine ⟨_, PSs.nox (pss_cons (ps_setLc (i := 1) (own := [("cell", 2)]) (g := gName 2) rfl scBegun.nd rfl rfl (sw_true rfl rfl rfl (by decide +kernel)) (pi_list (pv 0)) (blkOk_by (own := [("cell", 2)]) (N := ["script", "large", "cell"]) (sc := defScope sBegun) (by decide +kernel))
        (fun _ _ _ _ _ => pg_name (i := 2) scBegun.nd rfl (Or.inl rfl)) (fun _ _ _ _ _ => pts_one (pt_cmpR op_ge (pe_callB call_abs (by rfl) abs0 boot_abs (pa_cons (pv 2) pa_nil)) (pe_op op_pow pe_int pe_int) (nomark _)))
        (fun _ _ _ _ _ => pe_op op_sub (pe_callB call_abs (by rfl) abs0 boot_abs (pa_cons (pv 2) pa_nil)) (pe_op op_pow pe_int pe_int)))
      (pss_one (ps_ret (pe_disp (pps_cons pe_str (pv 1) (pps_cons pe_str (pe_lc (own := [("cell", 2)]) (g := gName 2) rfl scBegun.nd (pi_list (pv 0)) (blkOk_by (own := [("cell", 2)]) (N := ["script", "large", "cell"]) (sc := defScope sBegun) (by decide +kernel))
        (fun _ _ _ _ _ => pg_name (i := 2) scBegun.nd rfl (Or.inl rfl)) (fun _ _ _ _ _ => pts_nil) (fun _ _ _ _ _ => pe_callB call_abs (by rfl) abs0 boot_abs (pa_cons (pv 2) pa_nil)))
        (pps_cons pe_str pe_int (pps_cons pe_str pe_int pps_nil)))) (by rfl) (by rfl) (fun z => by cases z) (by decide))))), ?_⟩
    refine ⟨_, rfl, a, rfl, ⟨_, hS⟩, fun D hD => lc_list (K := K) (a := a) (xs := ns.map V.int) (fun i H' => ∃ out : List Int, H' D = some (.lst (out.map V.int)) ∧ out.length ≤ i ∧ Same H H')
      ⟨[], upd_same, Nat.le_refl _, same_new hD⟩ (fun i H' _ ⟨_, _, _, s⟩ => s.seq hS) ?_ ?_⟩
    · rintro i x H' hi ⟨out, h1, h2, s⟩
      obtain ⟨z, hz, rfl⟩ := int_at hi
      have hlt : i < ns.length := by
        by_cases q : i < ns.length
        · exact q
        · rw [List.getElem?_eq_none (by omega)] at hz
          cases hz
      refine ⟨rfl, _, rfl, _, rfl, _, _, rfl, rfl, ⟨by decide, by decide, by decide⟩, _, _, rfl, rfl, _, rfl, ?_⟩
      refine ite2 (fun _ => ?_) (fun _ => ?_)
      · refine ⟨_, rfl, _, rfl, _, _, rfl, rfl, ⟨by decide, by decide, by decide⟩, _, _, rfl, rfl, _, h1, ?_, ?_⟩
        · rw [List.length_map]
          exact small1000 (by omega)
        · exact ⟨out ++ [(if z < 0 then -z else z) - 10 ^ (18 : Int).toNat], by rw [upd_same, List.map_append]; rfl, by rw [List.length_append]; show out.length + 1 ≤ i + 1; omega, fun b o e => by rw [upd_ne (ne_of_none e hD)]; exact s b o e⟩
      · exact ⟨out, h1, by omega, s⟩
    · rintro H1 ⟨out, h1, h2, s⟩
      intro p hp
      refine ⟨_, rfl, _, rfl, a, rfl, ⟨ns.map V.int, ?_⟩, fun D2 hD2 => lc_list (K := K) (a := a) (xs := ns.map V.int) (fun i H' => ∃ out : List Int, H' D2 = some (.lst (out.map V.int)) ∧ out.length ≤ i ∧ Same (upd H1 p (.dK [])) H')
        ⟨[], upd_same, Nat.le_refl _, same_new hD2⟩ (fun i H' _ ⟨_, _, _, s2⟩ => (s.trans ((same_new hp).trans s2)).seq hS) ?_ ?_⟩
      · exact ((same_new hp).seq (s.seq hS))
      · rintro i x H' hi ⟨out2, g1, g2, s2⟩
        obtain ⟨z, hz, rfl⟩ := int_at hi
        have hlt : i < ns.length := by
          by_cases q : i < ns.length
          · exact q
          · rw [List.getElem?_eq_none (by omega)] at hz
            cases hz
        refine ⟨rfl, yesT ?_⟩
        refine ⟨_, rfl, _, rfl, _, g1, ?_, ?_⟩
        · rw [List.length_map]
          exact small1000 (by omega)
        · exact ⟨out2 ++ [(if z < 0 then -z else z)], by rw [upd_same, List.map_append]; rfl, by rw [List.length_append]; show out2.length + 1 ≤ i + 1; omega, fun b o e => by rw [upd_ne (ne_of_none e hD2)]; exact s2 b o e⟩
      · rintro H2 ⟨out2, g1, g2, s2⟩
        have hp2 : H2 p = some (.dK []) := s2 _ _ upd_same
        refine ⟨hp2, drK D D2 0 0, rfl, (by show 4 ≤ 15; decide), ?_⟩
        have nD : D ≠ p := ne_of_none h1 hp
        have nD2 : D2 ≠ p := (ne_of_none upd_same hD2).symm
        have e1 : H2 D = some (.lst (out.map V.int)) := s2 _ _ (by rw [upd_ne nD]; exact h1)
        have nDD : D ≠ D2 := ne_of_none (o := .lst (out.map V.int)) (by rw [upd_ne nD]; exact h1) hD2
        have em : mergeK [] (drK D D2 0 0) = drK D D2 0 0 := merge_dr
        rw [em]
        refine k p D D2 _ (s.free hp) hD ((s.trans (same_new hp)).free hD2) (fun b o e => ?_) ⟨out, out2, 0, 0, upd_same, by rw [upd_ne nD]; exact e1, by rw [upd_ne nD2]; exact g1, nDD⟩
        have nb : b ≠ p := ne_of_none (s b o e) hp
        rw [upd_ne nb]
        exact s2 b o (by rw [upd_ne nb]; exact s b o e)
theorem scBlend : FnScope ["draw", "turn", "found", "prime", "stirred", "cell"] ["draw"] (defScope sBlend) := ⟨rfl, rfl, rfl, by decide +kernel, rfl, by decide +kernel, by decide +kernel⟩
theorem ok_blend (F : FnP K "_law_blend" sBlend f fd) (int0 : mg "int" = none) : FnOk P w K mg base CX0 1 f fd ["draw"] spBlend := by
  refine F.ok scBlend (fun vs H Q E h => ?_) (fun cdv A outer s H vs Q E hr h => ?_)
  · obtain ⟨d, l, c, ls, cs, r, t, rfl, _⟩ := h
    rfl
  · obtain ⟨d, l, c, ls, cs, r, t, rfl, D, k⟩ := h
    have hu := hu_of hr
    refine ⟨_, PSs.nox (pss_cons (ps_par (i := 1) (j := 2) (by rfl) scBlend.nd rfl rfl (by decide) rfl rfl (pa_cons (pe_op op_add (pe_dget hu (pv 0) pe_str (fun _ _ => rfl)) pe_int) (pa_cons pe_int pa_nil)) (by rfl))
      (pss_cons (ps_dput hu (pv 0) pe_str (pv 1) rfl)
      (pss_cons (ps_for PassesOwn.never rfl (pi_list (pe_lst (pa_cons pe_int (pa_cons pe_int (pa_cons pe_int pa_nil))))) (pg_name (i := 3) scBlend.nd rfl (Or.inl rfl))
        (pss_cons (ps_set (i := 4) scBlend.nd rfl (Or.inl rfl) (pe_op op_mod (pe_callTy call_int1 (by rfl) int0 boot_int (pa_cons (pe_op op_add (pe_op op_mul (pv 1) pe_int) (pe_op op_fdiv (pv 3) pe_int)) pa_nil)) (pv 3)))
        (pss_cons (ps_for PassesOwn.never rfl (pi_list (pe_dget hu (pv 0) pe_str (fun _ _ => rfl))) (pg_name (i := 5) scBlend.nd rfl (Or.inl rfl))
          (pss_one (ps_set (i := 4) scBlend.nd rfl (Or.inl rfl) (pe_op op_mod (pe_callTy call_int1 (by rfl) int0 boot_int (pa_cons (pe_op op_add (pe_op op_add (pe_op op_mul (pv 4) pe_int) (pe_callTy call_int1 (by rfl) int0 boot_int (pa_cons (pv 5) pa_nil))) pe_int) pa_nil)) (pv 3)))))
        (pss_one (ps_set (i := 2) scBlend.nd rfl (Or.inl rfl) (pe_op op_add (pe_op op_mul (pv 2) pe_int) (pe_op op_mod (pe_callTy call_int1 (by rfl) int0 boot_int (pa_cons (pe_op op_pow (pv 4) pe_int) pa_nil)) (pv 3))))))))
      (pss_one (ps_ret (pv 2)))))), ?_⟩
    refine ⟨_, rfl, d, _, rfl, D.gTurn, _, _, rfl, rfl, _, _, rfl, ?_⟩
    refine ⟨_, rfl, _, rfl, d, _, rfl, D.pTurn _, ?_⟩
    have D1 := D.turn (t + 1)
    refine ⟨(by show 3 ≤ sizeLine; decide), fun p hp => ?_⟩
    have D2 := D1.same (same_new (o := .lst ([2147483629, 2147483587, 2147483579].map V.int)) hp)
    refine ⟨p, rfl, ⟨[2147483629, 2147483587, 2147483579].map V.int, SqL.of upd_same⟩, for_list (K := K) (a := p) (xs := [2147483629, 2147483587, 2147483579].map V.int)
      (fun i σ H2 => ∃ (v : Int) (x3 x4 x5 : Option V), σ = [some (.ref d), some (.int (t + 1)), some (.int v), x3, x4, x5] ∧ H2 = upd (upd H d (.dK (drK l c r (t + 1)))) p (.lst ([2147483629, 2147483587, 2147483579].map V.int)))
      ⟨0, none, none, none, rfl, rfl⟩ (fun i σ H2 _ ⟨_, _, _, _, _, e⟩ => by rw [e]; exact SqL.of upd_same) ?_ ?_⟩
    · rintro i x σ H2 hi ⟨v, x3, x4, x5, rfl, rfl⟩
      obtain ⟨q, hq, rfl⟩ := int_at hi
      have hq2 : 0 < q ∧ q ≤ 2147483648 := by
        rcases i with _ | _ | _ | i
        · cases hq; exact ⟨by decide, by decide⟩
        · cases hq; exact ⟨by decide, by decide⟩
        · cases hq; exact ⟨by decide, by decide⟩
        · cases hq
      refine ⟨_, rfl, _, _, rfl, rfl, .inr ⟨by decide, by decide⟩, _, rfl, _, _, rfl, rfl, ⟨by decide, by decide⟩, _, _, rfl, rfl, .inl ⟨_, rfl, _, rfl, _, _, rfl, rfl, hq2.1, ?_⟩⟩
      refine ⟨_, rfl, d, _, rfl, D2.gCells, c, rfl, ⟨cs.map V.int, SqL.of D2.dc⟩, for_list (K := K) (a := c) (xs := cs.map V.int)
        (fun j σ H2 => ∃ (z : Int) (y5 : Option V), σ = [some (.ref d), some (.int (t + 1)), some (.int v), some (.int q), some (.int z), y5] ∧ 0 ≤ z ∧ z < q ∧ H2 = upd (upd H d (.dK (drK l c r (t + 1)))) p (.lst ([2147483629, 2147483587, 2147483579].map V.int)))
        ⟨_, x5, rfl, Int.emod_nonneg _ (by omega), Int.emod_lt_of_pos _ hq2.1, rfl⟩ (fun j σ H2 _ ⟨_, _, _, _, _, e⟩ => by rw [e]; exact SqL.of D2.dc) ?_ ?_⟩
      · rintro j x σ H2 hj ⟨z, y5, rfl, z0, z1, rfl⟩
        obtain ⟨u, hu2, rfl⟩ := int_at hj
        refine ⟨_, rfl, _, _, rfl, rfl, .inr ⟨by decide, by decide⟩, _, rfl, .inl ⟨_, rfl, _, _, rfl, rfl, _, _, rfl, rfl, .inl ⟨_, rfl, _, rfl, _, _, rfl, rfl, hq2.1, ?_⟩⟩⟩
        exact ⟨_, some (.int u), rfl, Int.emod_nonneg _ (by omega), Int.emod_lt_of_pos _ hq2.1, rfl⟩
      · rintro σ H2 ⟨z, y5, rfl, z0, z1, rfl⟩
        refine ⟨_, rfl, _, _, rfl, rfl, .inr ⟨by decide, by decide⟩, _, rfl, _, _, rfl, rfl, pow_small z0 z1 hq2.2, .inl ⟨_, rfl, _, rfl, _, _, rfl, rfl, hq2.1, _, _, rfl, rfl, ?_⟩⟩
        exact ⟨_, some (.int q), some (.int z), y5, rfl, rfl⟩
    · rintro σ H2 ⟨v, x3, x4, x5, rfl, rfl⟩
      exact ⟨_, rfl, k v (t + 1) _ D2 (sameX_d.trans (sameX_new hp))⟩
theorem scTake : FnScope ["draw", "size", "found"] ["draw", "size"] (defScope sTake) := ⟨rfl, rfl, rfl, by decide +kernel, rfl, by decide +kernel, by decide +kernel⟩
theorem ok_take (F : FnP K "_law_take" sTake f fd) (int0 : mg "int" = none) (FB : FnP K "_law_blend" sBlend fB fdB) (gB : mg "_law_blend" = some (.ref fB)) : FnOk P w K mg base CX0 2 f fd ["draw", "size"] spTake := by
  have GB : FnOk P w K mg base CX0 1 fB fdB ["draw"] spBlend := ok_blend FB int0
  have bB : Binds K fdB ["draw"] [] := FB.bindsN fun _ _ _ _ _ _ us hl => match us, hl with | [_], _ => rfl
  refine F.ok scTake (fun vs H Q E h => ?_) (fun cdv A outer s H vs Q E hr h => ?_)
  · obtain ⟨d, l, c, n, rfl, _⟩ := h
    rfl
  · obtain ⟨d, l, c, n, rfl, ⟨ls, cs, r, t, D⟩, n0, n1, k⟩ := h
    have hu := hu_of hr
    refine ⟨_, PSs.nox (pss_cons (ps_while PassesOwn.never (PW.pt (pw_and (pt_cmpR op_eq (pe_dget hu (pv 0) pe_str (fun _ _ => rfl)) pe_int (nomark _)) (pw_and1 (pt_cmpR (op_neD hr.units) (pe_dget hu (pv 0) pe_str (fun _ _ => rfl)) (pe_lst pa_nil) (nomark _)))))
        (pss_one (ps_dput hu (pv 0) pe_str (pe_bm PySem.F.plainAttrs_list PySem.F.slot_list_pop PySem.F.type_list_pop mt_popAt (pe_dget hu (pv 0) pe_str (fun _ _ => rfl)) (pa_cons pe_int pa_nil)) rfl)))
      (pss_cons (ps_if (pt_cmpR op_eq (pe_dget hu (pv 0) pe_str (fun _ _ => rfl)) pe_int (nomark _))
          (pss_one (ps_dput hu (pv 0) pe_str (pe_call GB hr rfl gB FB.kp bB .nil pass0 (pa_cons (pv 0) pa_nil)) rfl)) pss_nil)
      (pss_cons (ps_set (i := 2) scTake.nd rfl (Or.inl rfl) (pe_op op_mod (pe_callTy call_int1 (by rfl) int0 boot_int (pa_cons (pe_dget hu (pv 0) pe_str (fun _ _ => rfl)) pa_nil)) (pv 1)))
      (pss_cons (ps_dput hu (pv 0) pe_str (pe_op op_fdivW (pe_callTy call_int1 (by rfl) int0 boot_int (pa_cons (pe_dget hu (pv 0) pe_str (fun _ _ => rfl)) pa_nil)) (pv 1)) rfl)
      (pss_one (ps_ret (pv 2))))))), ?_⟩
    refine ⟨fun m σ H' => ∃ (ls' : List Int) (r' : Int), σ = [some (.ref d), some (.int n), none] ∧ DrawAt H' d l c ls' cs r' t ∧ SameX d l H H' ∧ m = ls'.length, ⟨_, ls, r, rfl, D, SameX.refl _ _ _, rfl⟩, ?_⟩
    rintro m σ H1 ⟨ls1, r1, rfl, D1, s1, rfl⟩
    refine ⟨_, rfl, d, _, rfl, D1.gRest, rfl, _, rfl, ?_⟩
    refine ite2 (fun e0 => ?_) (fun e0 => ?_)
    · refine ⟨_, rfl, d, _, rfl, D1.gLarge, ?_⟩
      refine ⟨(by show 0 ≤ sizeLine; decide), fun p hp => ?_⟩
      have D2 := D1.same (same_new (o := .lst []) hp)
      have s2 := s1.trans (sameX_new (o := .lst []) hp)
      refine ⟨.list (intsD ls1), .list [], .lst (SqL.of D2.dl) (ints_dp _), .lst (SqL.of upd_same) .nil, ints_shaped _, rfl, _, rfl, ?_⟩
      cases ls1 with
      | nil =>
        refine iteF ?_
        have D1 := D2
        have s1 := s2
        refine ⟨_, rfl, d, _, rfl, D1.gRest, rfl, _, rfl, ?_⟩
        refine ite2 (fun _ => ?_) (fun _ => ?_)
        · refine ⟨_, rfl, d, l, c, _, cs, _, t, rfl, D1, fun v t' H2 D2 s2 => ?_⟩
          have DD := D2.rest v
          have SS := (s1.trans s2).trans (sameX_d (o := .dK (drK l c v t')))
          refine ⟨_, rfl, d, _, rfl, D2.pRest v, ?_⟩
          refine ⟨_, rfl, d, _, rfl, DD.gRest, .inl ⟨_, rfl, _, rfl, _, _, rfl, rfl, n0, ?_⟩⟩
          refine ⟨_, rfl, d, _, rfl, DD.gRest, .inl ⟨_, rfl, _, rfl, _, _, rfl, rfl, ⟨n0, n1⟩, _, rfl, d, _, rfl, DD.pRest _, _, rfl, ?_⟩⟩
          exact k _ _ (Int.emod_nonneg _ (by omega)) (Int.emod_lt_of_pos _ n0) ⟨_, cs, _, _, DD.rest _⟩ (SS.trans sameX_d)
        · have DD := D1
          have SS := s1
          refine ⟨_, rfl, d, _, rfl, DD.gRest, .inl ⟨_, rfl, _, rfl, _, _, rfl, rfl, n0, ?_⟩⟩
          refine ⟨_, rfl, d, _, rfl, DD.gRest, .inl ⟨_, rfl, _, rfl, _, _, rfl, rfl, ⟨n0, n1⟩, _, rfl, d, _, rfl, DD.pRest _, _, rfl, ?_⟩⟩
          exact k _ _ (Int.emod_nonneg _ (by omega)) (Int.emod_lt_of_pos _ n0) ⟨_, cs, _, _, DD.rest _⟩ (SS.trans sameX_d)
      | cons z zs =>
        refine iteT ⟨_, fun σ' H' e => e, ?_⟩
        refine ⟨_, rfl, d, _, rfl, D2.gLarge, .inl ⟨rfl, _, SqL.of D2.dl⟩, ?_⟩
        refine ⟨l, _, _, 0, V.int z, rfl, rfl, D2.dl, by decide, by decide, pop_ix _, rfl, ?_⟩
        have D3 := D2.pop (ls' := zs)
        refine ⟨_, rfl, d, _, rfl, D3.pRest _, ?_⟩
        exact ⟨zs.length, Nat.lt_succ_self _, zs, z, rfl, D3.rest z, (s2.trans sameX_l).trans sameX_d, rfl⟩
    · refine iteF ?_
      refine ⟨_, rfl, d, _, rfl, D1.gRest, rfl, _, rfl, ?_⟩
      refine ite2 (fun _ => ?_) (fun _ => ?_)
      · refine ⟨_, rfl, d, l, c, _, cs, _, t, rfl, D1, fun v t' H2 D2 s2 => ?_⟩
        have DD := D2.rest v
        have SS := (s1.trans s2).trans (sameX_d (o := .dK (drK l c v t')))
        refine ⟨_, rfl, d, _, rfl, D2.pRest v, ?_⟩
        refine ⟨_, rfl, d, _, rfl, DD.gRest, .inl ⟨_, rfl, _, rfl, _, _, rfl, rfl, n0, ?_⟩⟩
        refine ⟨_, rfl, d, _, rfl, DD.gRest, .inl ⟨_, rfl, _, rfl, _, _, rfl, rfl, ⟨n0, n1⟩, _, rfl, d, _, rfl, DD.pRest _, _, rfl, ?_⟩⟩
        exact k _ _ (Int.emod_nonneg _ (by omega)) (Int.emod_lt_of_pos _ n0) ⟨_, cs, _, _, DD.rest _⟩ (SS.trans sameX_d)
      · have DD := D1
        have SS := s1
        refine ⟨_, rfl, d, _, rfl, DD.gRest, .inl ⟨_, rfl, _, rfl, _, _, rfl, rfl, n0, ?_⟩⟩
        refine ⟨_, rfl, d, _, rfl, DD.gRest, .inl ⟨_, rfl, _, rfl, _, _, rfl, rfl, ⟨n0, n1⟩, _, rfl, d, _, rfl, DD.pRest _, _, rfl, ?_⟩⟩
        exact k _ _ (Int.emod_nonneg _ (by omega)) (Int.emod_lt_of_pos _ n0) ⟨_, cs, _, _, DD.rest _⟩ (SS.trans sameX_d)
/-! ### _law_pick -/
theorem scPick : FnScope ["draw", "some"] ["draw", "some"] (defScope sPick) := ⟨rfl, rfl, rfl, by decide +kernel, rfl, by decide +kernel, by decide +kernel⟩
theorem ok_pick (F : FnP K "_law_pick" sPick f fd) (len0 : mg "len" = none) (GT : FnOk P w K mg base CX0 2 fT fdT ["draw", "size"] spTake) (bT : Binds K fdT ["draw", "size"] []) (gT : mg "_law_take" = some (.ref fT)) (kT : PySem.W.keepIn K (.ref fT) = true) :
    FnOk P w K mg base CX0 3 f fd ["draw", "some"] (spPick K) := by
  refine F.ok scPick (fun vs H Q E h => ?_) (fun cdv A outer s H vs Q E hr h => ?_)
  · obtain ⟨d, l, c, a, xs, rfl, _⟩ := h
    rfl
  · obtain ⟨d, l, c, a, xs, rfl, D, hA, hne, hlen, q⟩ := h
    refine ⟨_, PSs.nox (pss_one (ps_ret (pe_ix ix_list (pv 1) (pe_call GT hr rfl gT kT bT .nil pass0 (pa_cons (pv 0) (pa_cons (pe_callB call_len (by rfl) len0 PySem.boot_len (pa_cons (pv 1) pa_nil)) pa_nil))) (fun _ _ => rfl)))), ?_⟩
    have h0 : 0 < xs.length := List.length_pos_iff.mpr hne
    refine ⟨_, rfl, _, rfl, _, rfl, _, xs.length, rfl, .inl ⟨_, hA H (SameX.refl _ _ _), rfl⟩, d, l, c, _, rfl, D, by omega, log_small hlen, fun v H' v0 v1 D' s' => ?_⟩
    obtain ⟨i, rfl⟩ : ∃ i : Nat, v = (i : Int) := ⟨v.toNat, by omega⟩
    have hi : i < xs.length := by omega
    refine ⟨a, xs, _, xs[i], rfl, rfl, hA H' s', atI_nat (by simp [hi]), ?_⟩
    exact q _ _ (List.getElem_mem hi) D' s'
end
end Dr

set_option Elab.async false
set_option linter.all false
set_option maxRecDepth 100000
set_option maxHeartbeats 4000000
set_option pp.maxSteps 3000
set_option exponentiation.threshold 500000
namespace K85
open PySem PySem.Spec PyProof.Rows L2 Dr Xv LamX Ps Gn Fm
abbrev s_is_number : Stmt := top 11
abbrev s_is_within : Stmt := top 12
abbrev s_are_numbers : Stmt := top 13
abbrev s_is_number_tuple : Stmt := top 14
abbrev s_check_most : Stmt := top 15
abbrev s_lcm_of : Stmt := top 17
abbrev s_is_partition : Stmt := top 21
abbrev s_check_partition : Stmt := top 22
abbrev s_row_from_sums : Stmt := top 24
abbrev s_sums_over_divisors : Stmt := top 25
abbrev s_is_family : Stmt := top 31
abbrev s__is_rule : Stmt := top 32
abbrev s_check_family : Stmt := top 33
abbrev s_bound_of : Stmt := top 34
abbrev s_times_of_parts : Stmt := top 35
abbrev s_keeps_rules : Stmt := top 36
abbrev s_bounded_parts : Stmt := top 37
abbrev s_powers_up_to : Stmt := top 38
abbrev s_family_row : Stmt := top 39
abbrev s_family_powers : Stmt := top 40
abbrev s_period_of : Stmt := top 41
abbrev s__checked_period : Stmt := top 42
abbrev s_first_unlike_count : Stmt := top 43
abbrev s_bounded_quotient : Stmt := top 46
abbrev s_paired : Stmt := top 49
abbrev s__part_to_change : Stmt := top 50
abbrev s__mate_of : Stmt := top 51
abbrev s_family_quotient : Stmt := top 52
abbrev s__law_begun : Stmt := top 54
abbrev s__law_blend : Stmt := top 55
abbrev s__law_take : Stmt := top 56
abbrev s__law_pick : Stmt := top 57
abbrev s__law_caught : Stmt := top 58
abbrev s__law_common : Stmt := top 59
abbrev s__law_sigmas : Stmt := top 60
abbrev s__law_row : Stmt := top 61
abbrev s__law_multiple : Stmt := top 62
abbrev s__law_family : Stmt := top 63
abbrev s__law_bound : Stmt := top 64
abbrev s__law_period : Stmt := top 65
abbrev s__law_mates : Stmt := top 66
abbrev s__law_glaisher : Stmt := top 67
abbrev s_law : Stmt := top 68
abbrev N_is_number : List Str := List.map Str.ofString ["thing"]
theorem sc_is_number : FnScope N_is_number ["thing"] (defScope s_is_number) := ⟨rfl, rfl, rfl, by decide +kernel, rfl, by decide +kernel, by decide +kernel⟩
abbrev N_is_within : List Str := List.map Str.ofString ["thing", "least", "greatest"]
theorem sc_is_within : FnScope N_is_within ["thing", "least", "greatest"] (defScope s_is_within) := ⟨rfl, rfl, rfl, by decide +kernel, rfl, by decide +kernel, by decide +kernel⟩
abbrev N_are_numbers : List Str := List.map Str.ofString ["things", "thing"]
theorem sc_are_numbers : FnScope N_are_numbers ["things"] (defScope s_are_numbers) := ⟨rfl, rfl, rfl, by decide +kernel, rfl, by decide +kernel, by decide +kernel⟩
abbrev N_is_number_tuple : List Str := List.map Str.ofString ["thing"]
theorem sc_is_number_tuple : FnScope N_is_number_tuple ["thing"] (defScope s_is_number_tuple) := ⟨rfl, rfl, rfl, by decide +kernel, rfl, by decide +kernel, by decide +kernel⟩
abbrev N_check_most : List Str := List.map Str.ofString ["most"]
theorem sc_check_most : FnScope N_check_most ["most"] (defScope s_check_most) := ⟨rfl, rfl, rfl, by decide +kernel, rfl, by decide +kernel, by decide +kernel⟩
abbrev N_lcm_of : List Str := List.map Str.ofString ["numbers", "common", "n"]
theorem sc_lcm_of : FnScope N_lcm_of ["numbers"] (defScope s_lcm_of) := ⟨rfl, rfl, rfl, by decide +kernel, rfl, by decide +kernel, by decide +kernel⟩
abbrev N_is_partition : List Str := List.map Str.ofString ["thing", "part", "one", "other"]
theorem sc_is_partition : FnScope N_is_partition ["thing"] (defScope s_is_partition) := ⟨rfl, rfl, rfl, by decide +kernel, rfl, by decide +kernel, by decide +kernel⟩
abbrev N_check_partition : List Str := List.map Str.ofString ["partition"]
theorem sc_check_partition : FnScope N_check_partition ["partition"] (defScope s_check_partition) := ⟨rfl, rfl, rfl, by decide +kernel, rfl, by decide +kernel, by decide +kernel⟩
abbrev N_row_from_sums : List Str := List.map Str.ofString ["sums", "later", "row", "n", "total", "x", "y"]
theorem sc_row_from_sums : FnScope N_row_from_sums ["sums"] (defScope s_row_from_sums) := ⟨rfl, rfl, rfl, by decide +kernel, rfl, by decide +kernel, by decide +kernel⟩
abbrev N_sums_over_divisors : List Str := List.map Str.ofString ["powers", "size", "sums", "d", "power", "n"]
theorem sc_sums_over_divisors : FnScope N_sums_over_divisors ["powers", "size"] (defScope s_sums_over_divisors) := ⟨rfl, rfl, rfl, by decide +kernel, rfl, by decide +kernel, by decide +kernel⟩
abbrev N_is_family : List Str := List.map Str.ofString ["thing", "rule"]
theorem sc_is_family : FnScope N_is_family ["thing"] (defScope s_is_family) := ⟨rfl, rfl, rfl, by decide +kernel, rfl, by decide +kernel, by decide +kernel⟩
abbrev N__is_rule : List Str := List.map Str.ofString ["thing", "modulus", "residues", "less", "rest", "one", "other"]
theorem sc__is_rule : FnScope N__is_rule ["thing"] (defScope s__is_rule) := ⟨rfl, rfl, rfl, by decide +kernel, rfl, by decide +kernel, by decide +kernel⟩
abbrev N_check_family : List Str := List.map Str.ofString ["family"]
theorem sc_check_family : FnScope N_check_family ["family"] (defScope s_check_family) := ⟨rfl, rfl, rfl, by decide +kernel, rfl, by decide +kernel, by decide +kernel⟩
abbrev N_bound_of : List Str := List.map Str.ofString ["family", "part", "modulus", "residues", "less"]
theorem sc_bound_of : FnScope N_bound_of ["family", "part"] (defScope s_bound_of) := ⟨rfl, rfl, rfl, by decide +kernel, rfl, by decide +kernel, by decide +kernel⟩
abbrev N_times_of_parts : List Str := List.map Str.ofString ["partition", "times", "part"]
theorem sc_times_of_parts : FnScope N_times_of_parts ["partition"] (defScope s_times_of_parts) := ⟨rfl, rfl, rfl, by decide +kernel, rfl, by decide +kernel, by decide +kernel⟩
abbrev N_keeps_rules : List Str := List.map Str.ofString ["family", "times", "bounds", "part"]
theorem sc_keeps_rules : FnScope N_keeps_rules ["family", "times"] (defScope s_keeps_rules) := ⟨rfl, rfl, rfl, by decide +kernel, rfl, by decide +kernel, by decide +kernel⟩
abbrev N_bounded_parts : List Str := List.map Str.ofString ["family", "n", "bounds", "bound"]
theorem sc_bounded_parts : FnScope N_bounded_parts ["family", "n"] (defScope s_bounded_parts) := ⟨rfl, rfl, rfl, by decide +kernel, rfl, by decide +kernel, by decide +kernel⟩
abbrev N_powers_up_to : List Str := List.map Str.ofString ["family", "last", "n"]
theorem sc_powers_up_to : FnScope N_powers_up_to ["family", "last"] (defScope s_powers_up_to) := ⟨rfl, rfl, rfl, by decide +kernel, rfl, by decide +kernel, by decide +kernel⟩
abbrev N_family_row : List Str := List.map Str.ofString ["family", "most"]
theorem sc_family_row : FnScope N_family_row ["family", "most"] (defScope s_family_row) := ⟨rfl, rfl, rfl, by decide +kernel, rfl, by decide +kernel, by decide +kernel⟩
abbrev N_family_powers : List Str := List.map Str.ofString ["family"]
theorem sc_family_powers : FnScope N_family_powers ["family"] (defScope s_family_powers) := ⟨rfl, rfl, rfl, by decide +kernel, rfl, by decide +kernel, by decide +kernel⟩
abbrev N_period_of : List Str := List.map Str.ofString ["family", "modulus", "_", "less"]
theorem sc_period_of : FnScope N_period_of ["family"] (defScope s_period_of) := ⟨rfl, rfl, rfl, by decide +kernel, rfl, by decide +kernel, by decide +kernel⟩
abbrev N__checked_period : List Str := List.map Str.ofString ["period"]
theorem sc__checked_period : FnScope N__checked_period ["period"] (defScope s__checked_period) := ⟨rfl, rfl, rfl, by decide +kernel, rfl, by decide +kernel, by decide +kernel⟩
abbrev N_first_unlike_count : List Str := List.map Str.ofString ["one", "other", "last", "n"]
theorem sc_first_unlike_count : FnScope N_first_unlike_count ["one", "other"] (defScope s_first_unlike_count) := ⟨rfl, rfl, rfl, by decide +kernel, rfl, by decide +kernel, by decide +kernel⟩
abbrev N_bounded_quotient : List Str := List.map Str.ofString ["exponents", "r", "d"]
theorem sc_bounded_quotient : FnScope N_bounded_quotient ["exponents"] (defScope s_bounded_quotient) := ⟨rfl, rfl, rfl, by decide +kernel, rfl, by decide +kernel, by decide +kernel⟩
abbrev N_paired : List Str := List.map Str.ofString ["one", "other", "partition", "times", "part", "bound", "mate", "parts"]
theorem sc_paired : FnScope N_paired ["one", "other", "partition"] (defScope s_paired) := ⟨rfl, rfl, rfl, by decide +kernel, rfl, by decide +kernel, by decide +kernel⟩
abbrev N__part_to_change : List Str := List.map Str.ofString ["other", "times", "part", "bound"]
theorem sc__part_to_change : FnScope N__part_to_change ["other", "times"] (defScope s__part_to_change) := ⟨rfl, rfl, rfl, by decide +kernel, rfl, by decide +kernel, by decide +kernel⟩
abbrev N__mate_of : List Str := List.map Str.ofString ["one", "other", "part", "bound", "n"]
theorem sc__mate_of : FnScope N__mate_of ["one", "other", "part", "bound"] (defScope s__mate_of) := ⟨rfl, rfl, rfl, by decide +kernel, rfl, by decide +kernel, by decide +kernel⟩
abbrev N_family_quotient : List Str := List.map Str.ofString ["family", "powers", "period", "exponents", "d", "n", "c"]
theorem sc_family_quotient : FnScope N_family_quotient ["family"] (defScope s_family_quotient) := ⟨rfl, rfl, rfl, by decide +kernel, rfl, by decide +kernel, by decide +kernel⟩
abbrev N__law_caught : List Str := List.map Str.ofString ["work", "caught", "error"]
theorem sc__law_caught : FnScope N__law_caught ["work"] (defScope s__law_caught) := ⟨rfl, rfl, rfl, by decide +kernel, rfl, by decide +kernel, by decide +kernel⟩
abbrev N__law_common : List Str := List.map Str.ofString ["one", "other"]
theorem sc__law_common : FnScope N__law_common ["one", "other"] (defScope s__law_common) := ⟨rfl, rfl, rfl, by decide +kernel, rfl, by decide +kernel, by decide +kernel⟩
abbrev N__law_sigmas : List Str := List.map Str.ofString ["most", "found", "d", "n"]
theorem sc__law_sigmas : FnScope N__law_sigmas ["most"] (defScope s__law_sigmas) := ⟨rfl, rfl, rfl, by decide +kernel, rfl, by decide +kernel, by decide +kernel⟩
abbrev N__law_row : List Str := List.map Str.ofString ["quotient", "most", "sums", "weights", "d", "n", "found", "k"]
theorem sc__law_row : FnScope N__law_row ["quotient", "most"] (defScope s__law_row) := ⟨rfl, rfl, rfl, by decide +kernel, rfl, by decide +kernel, by decide +kernel⟩
abbrev N__law_multiple : List Str := List.map Str.ofString ["one", "other"]
theorem sc__law_multiple : FnScope N__law_multiple ["one", "other"] (defScope s__law_multiple) := ⟨rfl, rfl, rfl, by decide +kernel, rfl, by decide +kernel, by decide +kernel⟩
abbrev N__law_family : List Str := List.map Str.ofString ["draw", "found", "lap", "modulus", "residues", "k"]
theorem sc__law_family : FnScope N__law_family ["draw"] (defScope s__law_family) := ⟨rfl, rfl, rfl, by decide +kernel, rfl, by decide +kernel, by decide +kernel⟩
abbrev N__law_bound : List Str := List.map Str.ofString ["family", "part", "some", "modulus", "residues", "less"]
theorem sc__law_bound : FnScope N__law_bound ["family", "part"] (defScope s__law_bound) := ⟨rfl, rfl, rfl, by decide +kernel, rfl, by decide +kernel, by decide +kernel⟩
abbrev N__law_period : List Str := List.map Str.ofString ["family", "one", "other", "modulus", "residues", "less"]
theorem sc__law_period : FnScope N__law_period ["family"] (defScope s__law_period) := ⟨rfl, rfl, rfl, by decide +kernel, rfl, by decide +kernel, by decide +kernel⟩
abbrev N__law_mates : List Str := List.map Str.ofString ["family", "n", "less"]
theorem sc__law_mates : FnScope N__law_mates ["family", "n"] (defScope s__law_mates) := ⟨rfl, rfl, rfl, by decide +kernel, rfl, by decide +kernel, by decide +kernel⟩
abbrev N__law_glaisher : List Str := List.map Str.ofString ["d", "partition", "here", "lap", "full", "time", "part", "item"]
theorem sc__law_glaisher : FnScope N__law_glaisher ["d", "partition"] (defScope s__law_glaisher) := ⟨rfl, rfl, rfl, by decide +kernel, rfl, by decide +kernel, by decide +kernel⟩
abbrev N_law : List Str := List.map Str.ofString ["script", "draw", "lap", "family", "period", "told", "powers", "unlike", "error", "quotient", "n", "d", "partition", "far", "bad", "late", "checks", "k", "c", "part"]
theorem sc_law : FnScope N_law ["script"] (defScope s_law) := ⟨rfl, rfl, rfl, by decide +kernel, rfl, by decide +kernel, by decide +kernel⟩
abbrev s_init_TooMany : Stmt := inClass (top 7) 0
theorem sc_init_TooMany : FnScope (List.map Str.ofString ["self", "most"]) (List.map Str.ofString ["self", "most"]) (defScope s_init_TooMany) := ⟨rfl, rfl, rfl, by decide +kernel, rfl, by decide +kernel, by decide +kernel⟩
/-- what the top has left -/
structure Mod (P : Program) (w : World) (K : PySem.W.Frag) (mg : Str → Option Value) (base : Heap) : Type where
  (f_is_number f_is_within f_are_numbers f_is_number_tuple f_check_most f_lcm_of f_is_partition f_check_partition f_row_from_sums f_sums_over_divisors f_is_family f__is_rule f_check_family f_bound_of f_times_of_parts f_keeps_rules f_bounded_parts f_powers_up_to f_family_row f_family_powers f_period_of f__checked_period f_first_unlike_count f_bounded_quotient f_paired f__part_to_change f__mate_of f_family_quotient f__law_begun f__law_blend f__law_take f__law_pick f__law_caught f__law_common f__law_sigmas f__law_row f__law_multiple f__law_family f__law_bound f__law_period f__law_mates f__law_glaisher f_law : Addr)
  (d_is_number d_is_within d_are_numbers d_is_number_tuple d_check_most d_lcm_of d_is_partition d_check_partition d_row_from_sums d_sums_over_divisors d_is_family d__is_rule d_check_family d_bound_of d_times_of_parts d_keeps_rules d_bounded_parts d_powers_up_to d_family_row d_family_powers d_period_of d__checked_period d_first_unlike_count d_bounded_quotient d_paired d__part_to_change d__mate_of d_family_quotient d__law_begun d__law_blend d__law_take d__law_pick d__law_caught d__law_common d__law_sigmas d__law_row d__law_multiple d__law_family d__law_bound d__law_period d__law_mates d__law_glaisher d_law : FuncData)
  (a_SeriesError a_BadFamily a_BadMost a_BadPartition a_NotPaired a_TooMany : Addr)
  (fi_TooMany : Addr)
  (di_TooMany : FuncData)
  (t_GREATEST_LEVEL t_GREATEST_MOST t_MOST_PARTS t_GREATEST_PART t_MOST_RULES t_GREATEST_MODULUS t_GREATEST_LESS t_LONGEST_PERIOD t_GREATEST_EXPONENT t_GREATEST_SUM : Tok)
  F_is_number : FnP K "is_number" s_is_number f_is_number d_is_number
  g_is_number : mg "is_number" = some (.ref f_is_number)
  F_is_within : FnP K "is_within" s_is_within f_is_within d_is_within
  g_is_within : mg "is_within" = some (.ref f_is_within)
  F_are_numbers : FnP K "are_numbers" s_are_numbers f_are_numbers d_are_numbers
  g_are_numbers : mg "are_numbers" = some (.ref f_are_numbers)
  F_is_number_tuple : FnP K "is_number_tuple" s_is_number_tuple f_is_number_tuple d_is_number_tuple
  g_is_number_tuple : mg "is_number_tuple" = some (.ref f_is_number_tuple)
  F_check_most : FnP K "check_most" s_check_most f_check_most d_check_most
  g_check_most : mg "check_most" = some (.ref f_check_most)
  F_lcm_of : FnP K "lcm_of" s_lcm_of f_lcm_of d_lcm_of
  g_lcm_of : mg "lcm_of" = some (.ref f_lcm_of)
  F_is_partition : FnP K "is_partition" s_is_partition f_is_partition d_is_partition
  g_is_partition : mg "is_partition" = some (.ref f_is_partition)
  F_check_partition : FnP K "check_partition" s_check_partition f_check_partition d_check_partition
  g_check_partition : mg "check_partition" = some (.ref f_check_partition)
  F_row_from_sums : FnP K "row_from_sums" s_row_from_sums f_row_from_sums d_row_from_sums
  g_row_from_sums : mg "row_from_sums" = some (.ref f_row_from_sums)
  F_sums_over_divisors : FnP K "sums_over_divisors" s_sums_over_divisors f_sums_over_divisors d_sums_over_divisors
  g_sums_over_divisors : mg "sums_over_divisors" = some (.ref f_sums_over_divisors)
  F_is_family : FnP K "is_family" s_is_family f_is_family d_is_family
  g_is_family : mg "is_family" = some (.ref f_is_family)
  F__is_rule : FnP K "_is_rule" s__is_rule f__is_rule d__is_rule
  g__is_rule : mg "_is_rule" = some (.ref f__is_rule)
  F_check_family : FnP K "check_family" s_check_family f_check_family d_check_family
  g_check_family : mg "check_family" = some (.ref f_check_family)
  F_bound_of : FnP K "bound_of" s_bound_of f_bound_of d_bound_of
  g_bound_of : mg "bound_of" = some (.ref f_bound_of)
  F_times_of_parts : FnP K "times_of_parts" s_times_of_parts f_times_of_parts d_times_of_parts
  g_times_of_parts : mg "times_of_parts" = some (.ref f_times_of_parts)
  F_keeps_rules : FnP K "keeps_rules" s_keeps_rules f_keeps_rules d_keeps_rules
  g_keeps_rules : mg "keeps_rules" = some (.ref f_keeps_rules)
  F_bounded_parts : FnP K "bounded_parts" s_bounded_parts f_bounded_parts d_bounded_parts
  g_bounded_parts : mg "bounded_parts" = some (.ref f_bounded_parts)
  F_powers_up_to : FnP K "powers_up_to" s_powers_up_to f_powers_up_to d_powers_up_to
  g_powers_up_to : mg "powers_up_to" = some (.ref f_powers_up_to)
  F_family_row : FnP K "family_row" s_family_row f_family_row d_family_row
  g_family_row : mg "family_row" = some (.ref f_family_row)
  F_family_powers : FnP K "family_powers" s_family_powers f_family_powers d_family_powers
  g_family_powers : mg "family_powers" = some (.ref f_family_powers)
  F_period_of : FnP K "period_of" s_period_of f_period_of d_period_of
  g_period_of : mg "period_of" = some (.ref f_period_of)
  F__checked_period : FnP K "_checked_period" s__checked_period f__checked_period d__checked_period
  g__checked_period : mg "_checked_period" = some (.ref f__checked_period)
  F_first_unlike_count : FnP K "first_unlike_count" s_first_unlike_count f_first_unlike_count d_first_unlike_count
  g_first_unlike_count : mg "first_unlike_count" = some (.ref f_first_unlike_count)
  F_bounded_quotient : FnP K "bounded_quotient" s_bounded_quotient f_bounded_quotient d_bounded_quotient
  g_bounded_quotient : mg "bounded_quotient" = some (.ref f_bounded_quotient)
  F_paired : FnP K "paired" s_paired f_paired d_paired
  g_paired : mg "paired" = some (.ref f_paired)
  F__part_to_change : FnP K "_part_to_change" s__part_to_change f__part_to_change d__part_to_change
  g__part_to_change : mg "_part_to_change" = some (.ref f__part_to_change)
  F__mate_of : FnP K "_mate_of" s__mate_of f__mate_of d__mate_of
  g__mate_of : mg "_mate_of" = some (.ref f__mate_of)
  F_family_quotient : FnP K "family_quotient" s_family_quotient f_family_quotient d_family_quotient
  g_family_quotient : mg "family_quotient" = some (.ref f_family_quotient)
  F__law_begun : FnP K "_law_begun" s__law_begun f__law_begun d__law_begun
  g__law_begun : mg "_law_begun" = some (.ref f__law_begun)
  F__law_blend : FnP K "_law_blend" s__law_blend f__law_blend d__law_blend
  g__law_blend : mg "_law_blend" = some (.ref f__law_blend)
  F__law_take : FnP K "_law_take" s__law_take f__law_take d__law_take
  g__law_take : mg "_law_take" = some (.ref f__law_take)
  F__law_pick : FnP K "_law_pick" s__law_pick f__law_pick d__law_pick
  g__law_pick : mg "_law_pick" = some (.ref f__law_pick)
  F__law_caught : FnP K "_law_caught" s__law_caught f__law_caught d__law_caught
  g__law_caught : mg "_law_caught" = some (.ref f__law_caught)
  F__law_common : FnP K "_law_common" s__law_common f__law_common d__law_common
  g__law_common : mg "_law_common" = some (.ref f__law_common)
  F__law_sigmas : FnP K "_law_sigmas" s__law_sigmas f__law_sigmas d__law_sigmas
  g__law_sigmas : mg "_law_sigmas" = some (.ref f__law_sigmas)
  F__law_row : FnP K "_law_row" s__law_row f__law_row d__law_row
  g__law_row : mg "_law_row" = some (.ref f__law_row)
  F__law_multiple : FnP K "_law_multiple" s__law_multiple f__law_multiple d__law_multiple
  g__law_multiple : mg "_law_multiple" = some (.ref f__law_multiple)
  F__law_family : FnP K "_law_family" s__law_family f__law_family d__law_family
  g__law_family : mg "_law_family" = some (.ref f__law_family)
  F__law_bound : FnP K "_law_bound" s__law_bound f__law_bound d__law_bound
  g__law_bound : mg "_law_bound" = some (.ref f__law_bound)
  F__law_period : FnP K "_law_period" s__law_period f__law_period d__law_period
  g__law_period : mg "_law_period" = some (.ref f__law_period)
  F__law_mates : FnP K "_law_mates" s__law_mates f__law_mates d__law_mates
  g__law_mates : mg "_law_mates" = some (.ref f__law_mates)
  F__law_glaisher : FnP K "_law_glaisher" s__law_glaisher f__law_glaisher d__law_glaisher
  g__law_glaisher : mg "_law_glaisher" = some (.ref f__law_glaisher)
  F_law : FnP K "law" s_law f_law d_law
  g_law : mg "law" = some (.ref f_law)
  c_GREATEST_LEVEL : mg "GREATEST_LEVEL" = some (.int 360 t_GREATEST_LEVEL)
  c_GREATEST_MOST : mg "GREATEST_MOST" = some (.int 3000 t_GREATEST_MOST)
  c_MOST_PARTS : mg "MOST_PARTS" = some (.int 200 t_MOST_PARTS)
  c_GREATEST_PART : mg "GREATEST_PART" = some (.int 1000000 t_GREATEST_PART)
  c_MOST_RULES : mg "MOST_RULES" = some (.int 6 t_MOST_RULES)
  c_GREATEST_MODULUS : mg "GREATEST_MODULUS" = some (.int 24 t_GREATEST_MODULUS)
  c_GREATEST_LESS : mg "GREATEST_LESS" = some (.int 9 t_GREATEST_LESS)
  c_LONGEST_PERIOD : mg "LONGEST_PERIOD" = some (.int 5040 t_LONGEST_PERIOD)
  c_GREATEST_EXPONENT : mg "GREATEST_EXPONENT" = some (.int 99 t_GREATEST_EXPONENT)
  c_GREATEST_SUM : mg "GREATEST_SUM" = some (.int 200 t_GREATEST_SUM)
  g_SeriesError : mg "SeriesError" = some (.ref a_SeriesError)
  g_BadFamily : mg "BadFamily" = some (.ref a_BadFamily)
  g_BadMost : mg "BadMost" = some (.ref a_BadMost)
  g_BadPartition : mg "BadPartition" = some (.ref a_BadPartition)
  g_NotPaired : mg "NotPaired" = some (.ref a_NotPaired)
  g_TooMany : mg "TooMany" = some (.ref a_TooMany)
  i_gcd : mg "gcd" = some (.builtin "math.gcd")
  i_lcm : mg "lcm" = some (.builtin "math.lcm")
  E_BadFamily : ErrT K a_BadFamily a_SeriesError
  E_BadMost : ErrT K a_BadMost a_SeriesError
  E_BadPartition : ErrT K a_BadPartition a_SeriesError
  E_NotPaired : ErrT K a_NotPaired a_SeriesError
  D_TooMany : FunD K "__init__" "TooMany.__init__" (defArgs s_init_TooMany) (defBody s_init_TooMany) (defScope s_init_TooMany) [] [] fi_TooMany di_TooMany
  U_TooMany : InitT K a_TooMany a_SeriesError fi_TooMany "most"
  abs0 : mg "abs" = none
  all0 : mg "all" = none
  bool0 : mg "bool" = none
  dict0 : mg "dict" = none
  enumerate0 : mg "enumerate" = none
  int0 : mg "int" = none
  isinstance0 : mg "isinstance" = none
  len0 : mg "len" = none
  list0 : mg "list" = none
  min0 : mg "min" = none
  range0 : mg "range" = none
  sorted0 : mg "sorted" = none
  sum0 : mg "sum" = none
  tuple0 : mg "tuple" = none
  zip0 : mg "zip" = none
namespace Mod
variable {P : Program} {w : World} {K : PySem.W.Frag} {mg : Str → Option Value} {base : Heap} (M : Mod P w K mg base)
theorem k_is_number : PySem.W.keepIn K (.ref M.f_is_number) = true := M.F_is_number.kp
theorem b_is_number : L2.Binds K M.d_is_number ["thing"] [] := M.F_is_number.bindsN fun _ _ _ _ _ _ us hl => match us, hl with | [_], _ => rfl
theorem k_is_within : PySem.W.keepIn K (.ref M.f_is_within) = true := M.F_is_within.kp
theorem b_is_within : L2.Binds K M.d_is_within ["thing", "least", "greatest"] [] := M.F_is_within.bindsN fun _ _ _ _ _ _ us hl => match us, hl with | [_, _, _], _ => rfl
theorem k_are_numbers : PySem.W.keepIn K (.ref M.f_are_numbers) = true := M.F_are_numbers.kp
theorem b_are_numbers : L2.Binds K M.d_are_numbers ["things"] [] := M.F_are_numbers.bindsN fun _ _ _ _ _ _ us hl => match us, hl with | [_], _ => rfl
theorem k_is_number_tuple : PySem.W.keepIn K (.ref M.f_is_number_tuple) = true := M.F_is_number_tuple.kp
theorem b_is_number_tuple : L2.Binds K M.d_is_number_tuple ["thing"] [] := M.F_is_number_tuple.bindsN fun _ _ _ _ _ _ us hl => match us, hl with | [_], _ => rfl
theorem k_check_most : PySem.W.keepIn K (.ref M.f_check_most) = true := M.F_check_most.kp
theorem b_check_most : L2.Binds K M.d_check_most ["most"] [] := M.F_check_most.bindsN fun _ _ _ _ _ _ us hl => match us, hl with | [_], _ => rfl
theorem k_lcm_of : PySem.W.keepIn K (.ref M.f_lcm_of) = true := M.F_lcm_of.kp
theorem b_lcm_of : L2.Binds K M.d_lcm_of ["numbers"] [] := M.F_lcm_of.bindsN fun _ _ _ _ _ _ us hl => match us, hl with | [_], _ => rfl
theorem k_is_partition : PySem.W.keepIn K (.ref M.f_is_partition) = true := M.F_is_partition.kp
theorem b_is_partition : L2.Binds K M.d_is_partition ["thing"] [] := M.F_is_partition.bindsN fun _ _ _ _ _ _ us hl => match us, hl with | [_], _ => rfl
theorem k_check_partition : PySem.W.keepIn K (.ref M.f_check_partition) = true := M.F_check_partition.kp
theorem b_check_partition : L2.Binds K M.d_check_partition ["partition"] [] := M.F_check_partition.bindsN fun _ _ _ _ _ _ us hl => match us, hl with | [_], _ => rfl
theorem k_row_from_sums : PySem.W.keepIn K (.ref M.f_row_from_sums) = true := M.F_row_from_sums.kp
theorem b_row_from_sums : L2.Binds K M.d_row_from_sums ["sums"] [] := M.F_row_from_sums.bindsN fun _ _ _ _ _ _ us hl => match us, hl with | [_], _ => rfl
theorem k_sums_over_divisors : PySem.W.keepIn K (.ref M.f_sums_over_divisors) = true := M.F_sums_over_divisors.kp
theorem b_sums_over_divisors : L2.Binds K M.d_sums_over_divisors ["powers", "size"] [] := M.F_sums_over_divisors.bindsN fun _ _ _ _ _ _ us hl => match us, hl with | [_, _], _ => rfl
theorem k_is_family : PySem.W.keepIn K (.ref M.f_is_family) = true := M.F_is_family.kp
theorem b_is_family : L2.Binds K M.d_is_family ["thing"] [] := M.F_is_family.bindsN fun _ _ _ _ _ _ us hl => match us, hl with | [_], _ => rfl
theorem k__is_rule : PySem.W.keepIn K (.ref M.f__is_rule) = true := M.F__is_rule.kp
theorem b__is_rule : L2.Binds K M.d__is_rule ["thing"] [] := M.F__is_rule.bindsN fun _ _ _ _ _ _ us hl => match us, hl with | [_], _ => rfl
theorem k_check_family : PySem.W.keepIn K (.ref M.f_check_family) = true := M.F_check_family.kp
theorem b_check_family : L2.Binds K M.d_check_family ["family"] [] := M.F_check_family.bindsN fun _ _ _ _ _ _ us hl => match us, hl with | [_], _ => rfl
theorem k_bound_of : PySem.W.keepIn K (.ref M.f_bound_of) = true := M.F_bound_of.kp
theorem b_bound_of : L2.Binds K M.d_bound_of ["family", "part"] [] := M.F_bound_of.bindsN fun _ _ _ _ _ _ us hl => match us, hl with | [_, _], _ => rfl
theorem k_times_of_parts : PySem.W.keepIn K (.ref M.f_times_of_parts) = true := M.F_times_of_parts.kp
theorem b_times_of_parts : L2.Binds K M.d_times_of_parts ["partition"] [] := M.F_times_of_parts.bindsN fun _ _ _ _ _ _ us hl => match us, hl with | [_], _ => rfl
theorem k_keeps_rules : PySem.W.keepIn K (.ref M.f_keeps_rules) = true := M.F_keeps_rules.kp
theorem b_keeps_rules : L2.Binds K M.d_keeps_rules ["family", "times"] [] := M.F_keeps_rules.bindsN fun _ _ _ _ _ _ us hl => match us, hl with | [_, _], _ => rfl
theorem k_bounded_parts : PySem.W.keepIn K (.ref M.f_bounded_parts) = true := M.F_bounded_parts.kp
theorem b_bounded_parts : L2.Binds K M.d_bounded_parts ["family", "n"] [] := M.F_bounded_parts.bindsN fun _ _ _ _ _ _ us hl => match us, hl with | [_, _], _ => rfl
theorem k_powers_up_to : PySem.W.keepIn K (.ref M.f_powers_up_to) = true := M.F_powers_up_to.kp
theorem b_powers_up_to : L2.Binds K M.d_powers_up_to ["family", "last"] [] := M.F_powers_up_to.bindsN fun _ _ _ _ _ _ us hl => match us, hl with | [_, _], _ => rfl
theorem k_family_row : PySem.W.keepIn K (.ref M.f_family_row) = true := M.F_family_row.kp
theorem b_family_row : L2.Binds K M.d_family_row ["family", "most"] [] := M.F_family_row.bindsN fun _ _ _ _ _ _ us hl => match us, hl with | [_, _], _ => rfl
theorem k_family_powers : PySem.W.keepIn K (.ref M.f_family_powers) = true := M.F_family_powers.kp
theorem b_family_powers : L2.Binds K M.d_family_powers ["family"] [] := M.F_family_powers.bindsN fun _ _ _ _ _ _ us hl => match us, hl with | [_], _ => rfl
theorem k_period_of : PySem.W.keepIn K (.ref M.f_period_of) = true := M.F_period_of.kp
theorem b_period_of : L2.Binds K M.d_period_of ["family"] [] := M.F_period_of.bindsN fun _ _ _ _ _ _ us hl => match us, hl with | [_], _ => rfl
theorem k__checked_period : PySem.W.keepIn K (.ref M.f__checked_period) = true := M.F__checked_period.kp
theorem b__checked_period : L2.Binds K M.d__checked_period ["period"] [] := M.F__checked_period.bindsN fun _ _ _ _ _ _ us hl => match us, hl with | [_], _ => rfl
theorem k_first_unlike_count : PySem.W.keepIn K (.ref M.f_first_unlike_count) = true := M.F_first_unlike_count.kp
theorem b_first_unlike_count : L2.Binds K M.d_first_unlike_count ["one", "other"] [] := M.F_first_unlike_count.bindsN fun _ _ _ _ _ _ us hl => match us, hl with | [_, _], _ => rfl
theorem k_bounded_quotient : PySem.W.keepIn K (.ref M.f_bounded_quotient) = true := M.F_bounded_quotient.kp
theorem b_bounded_quotient : L2.Binds K M.d_bounded_quotient ["exponents"] [] := M.F_bounded_quotient.bindsN fun _ _ _ _ _ _ us hl => match us, hl with | [_], _ => rfl
theorem k_paired : PySem.W.keepIn K (.ref M.f_paired) = true := M.F_paired.kp
theorem b_paired : L2.Binds K M.d_paired ["one", "other", "partition"] [] := M.F_paired.bindsN fun _ _ _ _ _ _ us hl => match us, hl with | [_, _, _], _ => rfl
theorem k__part_to_change : PySem.W.keepIn K (.ref M.f__part_to_change) = true := M.F__part_to_change.kp
theorem b__part_to_change : L2.Binds K M.d__part_to_change ["other", "times"] [] := M.F__part_to_change.bindsN fun _ _ _ _ _ _ us hl => match us, hl with | [_, _], _ => rfl
theorem k__mate_of : PySem.W.keepIn K (.ref M.f__mate_of) = true := M.F__mate_of.kp
theorem b__mate_of : L2.Binds K M.d__mate_of ["one", "other", "part", "bound"] [] := M.F__mate_of.bindsN fun _ _ _ _ _ _ us hl => match us, hl with | [_, _, _, _], _ => rfl
theorem k_family_quotient : PySem.W.keepIn K (.ref M.f_family_quotient) = true := M.F_family_quotient.kp
theorem b_family_quotient : L2.Binds K M.d_family_quotient ["family"] [] := M.F_family_quotient.bindsN fun _ _ _ _ _ _ us hl => match us, hl with | [_], _ => rfl
theorem k__law_begun : PySem.W.keepIn K (.ref M.f__law_begun) = true := M.F__law_begun.kp
theorem b__law_begun : L2.Binds K M.d__law_begun ["script"] [] := M.F__law_begun.bindsN fun _ _ _ _ _ _ us hl => match us, hl with | [_], _ => rfl
theorem k__law_blend : PySem.W.keepIn K (.ref M.f__law_blend) = true := M.F__law_blend.kp
theorem b__law_blend : L2.Binds K M.d__law_blend ["draw"] [] := M.F__law_blend.bindsN fun _ _ _ _ _ _ us hl => match us, hl with | [_], _ => rfl
theorem k__law_take : PySem.W.keepIn K (.ref M.f__law_take) = true := M.F__law_take.kp
theorem b__law_take : L2.Binds K M.d__law_take ["draw", "size"] [] := M.F__law_take.bindsN fun _ _ _ _ _ _ us hl => match us, hl with | [_, _], _ => rfl
theorem k__law_pick : PySem.W.keepIn K (.ref M.f__law_pick) = true := M.F__law_pick.kp
theorem b__law_pick : L2.Binds K M.d__law_pick ["draw", "some"] [] := M.F__law_pick.bindsN fun _ _ _ _ _ _ us hl => match us, hl with | [_, _], _ => rfl
theorem k__law_caught : PySem.W.keepIn K (.ref M.f__law_caught) = true := M.F__law_caught.kp
theorem b__law_caught : L2.Binds K M.d__law_caught ["work"] [] := M.F__law_caught.bindsN fun _ _ _ _ _ _ us hl => match us, hl with | [_], _ => rfl
theorem k__law_common : PySem.W.keepIn K (.ref M.f__law_common) = true := M.F__law_common.kp
theorem b__law_common : L2.Binds K M.d__law_common ["one", "other"] [] := M.F__law_common.bindsN fun _ _ _ _ _ _ us hl => match us, hl with | [_, _], _ => rfl
theorem k__law_sigmas : PySem.W.keepIn K (.ref M.f__law_sigmas) = true := M.F__law_sigmas.kp
theorem b__law_sigmas : L2.Binds K M.d__law_sigmas ["most"] [] := M.F__law_sigmas.bindsN fun _ _ _ _ _ _ us hl => match us, hl with | [_], _ => rfl
theorem k__law_row : PySem.W.keepIn K (.ref M.f__law_row) = true := M.F__law_row.kp
theorem b__law_row : L2.Binds K M.d__law_row ["quotient", "most"] [] := M.F__law_row.bindsN fun _ _ _ _ _ _ us hl => match us, hl with | [_, _], _ => rfl
theorem k__law_multiple : PySem.W.keepIn K (.ref M.f__law_multiple) = true := M.F__law_multiple.kp
theorem b__law_multiple : L2.Binds K M.d__law_multiple ["one", "other"] [] := M.F__law_multiple.bindsN fun _ _ _ _ _ _ us hl => match us, hl with | [_, _], _ => rfl
theorem k__law_family : PySem.W.keepIn K (.ref M.f__law_family) = true := M.F__law_family.kp
theorem b__law_family : L2.Binds K M.d__law_family ["draw"] [] := M.F__law_family.bindsN fun _ _ _ _ _ _ us hl => match us, hl with | [_], _ => rfl
theorem k__law_bound : PySem.W.keepIn K (.ref M.f__law_bound) = true := M.F__law_bound.kp
theorem b__law_bound : L2.Binds K M.d__law_bound ["family", "part"] [] := M.F__law_bound.bindsN fun _ _ _ _ _ _ us hl => match us, hl with | [_, _], _ => rfl
theorem k__law_period : PySem.W.keepIn K (.ref M.f__law_period) = true := M.F__law_period.kp
theorem b__law_period : L2.Binds K M.d__law_period ["family"] [] := M.F__law_period.bindsN fun _ _ _ _ _ _ us hl => match us, hl with | [_], _ => rfl
theorem k__law_mates : PySem.W.keepIn K (.ref M.f__law_mates) = true := M.F__law_mates.kp
theorem b__law_mates : L2.Binds K M.d__law_mates ["family", "n"] [] := M.F__law_mates.bindsN fun _ _ _ _ _ _ us hl => match us, hl with | [_, _], _ => rfl
theorem k__law_glaisher : PySem.W.keepIn K (.ref M.f__law_glaisher) = true := M.F__law_glaisher.kp
theorem b__law_glaisher : L2.Binds K M.d__law_glaisher ["d", "partition"] [] := M.F__law_glaisher.bindsN fun _ _ _ _ _ _ us hl => match us, hl with | [_, _], _ => rfl
theorem k_law : PySem.W.keepIn K (.ref M.f_law) = true := M.F_law.kp
theorem b_law : L2.Binds K M.d_law ["script"] [] := M.F_law.bindsN fun _ _ _ _ _ _ us hl => match us, hl with | [_], _ => rfl
theorem bi_TooMany : L2.Binds K M.di_TooMany (List.map Str.ofString ["self", "most"]) [] := M.D_TooMany.bindsN fun _ _ _ _ _ _ us hl => match us, hl with | [_, _], _ => rfl
theorem h_family_quotient : KBinds K M.d_family_quotient ["family"] ["family"] gR gR := kbR M.F_family_quotient (by decide) fun _ _ _ _ _ _ ws hl => match ws, hl with | [_], _ => rfl
end Mod
theorem ok_init_TooMany {P : Program} {w : World} {K : PySem.W.Frag} {mg : Str → Option Value} {base : Heap} (M : Mod P w K mg base) : FnOk P w K mg base CX0 1 M.fi_TooMany M.di_TooMany (List.map Str.ofString ["self", "most"]) (spInit M.a_TooMany "most") := by
  refine M.D_TooMany.ok sc_init_TooMany (fun vs H Q E h => ?_) (fun cdv A outer s H vs Q E hr h => ?_)
  · obtain ⟨a, v, rfl, _⟩ := h
    rfl
  · obtain ⟨a, v, rfl, ha, q⟩ := h
    refine ⟨_, PSs.nox (pss_cons (ps_expr (pe_sinit rfl M.g_SeriesError M.U_TooMany.kS M.U_TooMany.rS M.U_TooMany.sS M.U_TooMany.vS (pa_cons (pv 0) (pa_cons pe_str pa_nil)))) (pss_one (ps_ost (pv 0) (pv 1)))), ?_⟩
    refine ⟨_, rfl, a, M.a_TooMany, _, rfl, (by show 1 ≤ 1000; decide), M.U_TooMany.ox, ha, ?_⟩
    exact ⟨_, rfl, _, rfl, a, M.a_TooMany, rfl, M.U_TooMany.ox, M.U_TooMany.no, .inl ⟨ha, fun d hd nd => q d hd nd⟩⟩
section
variable {P : Program} {w : World} {K : PySem.W.Frag} {mg : Str → Option Value} {base : Heap}
theorem ok__law_begun (M : Mod P w K mg base) : FnOk P w K mg base CX0 1 M.f__law_begun M.d__law_begun ["script"] (spBegun K) := ok_begun M.F__law_begun M.abs0
theorem ok__law_take (M : Mod P w K mg base) : FnOk P w K mg base CX0 2 M.f__law_take M.d__law_take ["draw", "size"] spTake := ok_take M.F__law_take M.int0 M.F__law_blend M.g__law_blend
theorem ok__law_pick (M : Mod P w K mg base) : FnOk P w K mg base CX0 3 M.f__law_pick M.d__law_pick ["draw", "some"] (spPick K) := ok_pick M.F__law_pick M.len0 (ok__law_take M) M.b__law_take M.g__law_take M.k__law_take
def sp_is_number : Sp := fun vs H Q _ => ∃ x, vs = [x] ∧ PV H x ∧ Q (.bl (isNum x)) H
theorem ok_is_number (M : Mod P w K mg base) : FnOk P w K mg base CX0 1 M.f_is_number M.d_is_number ["thing"] sp_is_number := by
  refine M.F_is_number.ok sc_is_number (fun vs H Q E h => ?_) (fun cdv A outer s H vs Q E hr h => ?_)
  · obtain ⟨x, rfl, _⟩ := h
    rfl
  · obtain ⟨x, rfl, hx, q⟩ := h
    refine ⟨_, PSs.nox (pss_one (ps_ret (pe_and (pe_callB call_isi (by rfl) M.isinstance0 boot_isinstance (pa_cons (pv 0) (pa_cons (pe_bltn (v := .ty "int") rfl M.int0 (by decide +kernel) rfl) pa_nil))) (pe_one (pe_not (pe_callB call_isi (by rfl) M.isinstance0 boot_isinstance (pa_cons (pv 0) (pa_cons (pe_bltn (v := .ty "bool") rfl M.bool0 (by decide +kernel) rfl) pa_nil)))))))), ?_⟩
    obtain ⟨t, ty, k1, k2⟩ := hx.ty (K := K)
    refine ⟨_, rfl, x, _, t, _, _, rfl, .ty "int", ty, k1, kInt x, rfl, ?_⟩
    have e := kInt_num x
    cases hk : kInt x with
    | true =>
      refine iteT ⟨_, rfl, x, _, t, _, _, rfl, .ty "bool", ty, k2, kBool x, rfl, ?_⟩
      rw [hk, Bool.true_and] at e
      rw [e]
      exact q
    | false =>
      refine iteF ?_
      rw [hk, Bool.false_and] at e
      rw [e]
      exact q
def sp_is_within : Sp := fun vs H Q _ => ∃ (x : V) (lo hi : Int), vs = [x, .int lo, .int hi] ∧ PV H x ∧ Q (.bl (within x lo hi)) H
theorem ok_is_within (M : Mod P w K mg base) : FnOk P w K mg base CX0 2 M.f_is_within M.d_is_within ["thing", "least", "greatest"] sp_is_within := by
  refine M.F_is_within.ok sc_is_within (fun vs H Q E h => ?_) (fun cdv A outer s H vs Q E hr h => ?_)
  · obtain ⟨x, lo, hi, rfl, _⟩ := h
    rfl
  · obtain ⟨x, lo, hi, rfl, hx, q⟩ := h
    refine ⟨_, PSs.nox (pss_one (ps_ret (pe_and (pe_call (ok_is_number M) (hr.mono (by decide)) rfl M.g_is_number M.k_is_number M.b_is_number .nil pass0 (pa_cons (pv 0) pa_nil)) (pe_one (pe_chain op_le op_le (pv 1) (pv 0) (pv 2)))))), ?_⟩
    refine ⟨_, rfl, x, rfl, hx, isNum x, rfl, ?_⟩
    cases x with
    | int i =>
      refine iteT ⟨_, rfl, _, rfl, _, _, rfl, rfl, _, rfl, ?_⟩
      have e : within (.int i) lo hi = (decide (lo ≤ i) && decide (i ≤ hi)) := rfl
      rw [e] at q
      by_cases c : lo ≤ i
      · rw [decide_eq_true c, Bool.true_and] at q
        rw [decide_eq_true c]
        exact iteT ⟨_, rfl, _, _, rfl, rfl, q⟩
      · rw [decide_eq_false c, Bool.false_and] at q
        rw [decide_eq_false c]
        exact iteF q
    | _ => exact iteF q
def sp_are_numbers : Sp := fun vs H Q _ => ∃ (a : Addr) (xs : List V), vs = [.ref a] ∧ Items H (.ref a) (some xs) ∧ xs.length < sizeLine ∧ (∀ v ∈ xs, PV H v) ∧ ∀ H', Same H H' → Q (.bl (xs.all isNum)) H'
theorem ok_are_numbers (M : Mod P w K mg base) : FnOk P w K mg base CX0 2 M.f_are_numbers M.d_are_numbers ["things"] sp_are_numbers := by
  refine M.F_are_numbers.ok sc_are_numbers (fun vs H Q E h => ?_) (fun cdv A outer s H vs Q E hr h => ?_)
  · obtain ⟨a, xs, rfl, _⟩ := h
    rfl
  · obtain ⟨a, xs, rfl, hi, hl, hp, q⟩ := h
    cases hi with
    | lst e =>
      refine ⟨_, PSs.nox (pss_one (ps_ret (pe_callB (cr_all rfl) (by rfl) M.all0 (by decide +kernel) (pa_cons (pe_lc (own := [("thing", 1)]) (g := (gName 1)) (by rfl) sc_are_numbers.nd (pi_list (pv 0)) (blkOk_by (own := [("thing", 1)]) (N := N_are_numbers) (sc := defScope s_are_numbers) (by decide +kernel))
        (fun _ _ _ _ _ => (pg_name (i := 1) sc_are_numbers.nd rfl (Or.inl rfl))) (fun _ _ _ _ _ => pts_nil) (fun _ _ _ _ _ => (pe_call (ok_is_number M) (hr.mono (by decide)) rfl M.g_is_number M.k_is_number M.b_is_number .nil pass0 (pa_cons (pv 1) pa_nil)))) pa_nil)))), ?_⟩
      refine ⟨_, rfl, a, rfl, ⟨_, SqL.of e⟩, fun D hD => lc_list (K := K) (a := a) (xs := xs) (fun i H' => H' D = some (.lst ((xs.take i).map fun v => V.bl (isNum v))) ∧ Same H H')
        ⟨upd_same, same_new hD⟩ (fun i H' _ ⟨_, s⟩ => SqL.of (s _ _ e)) ?_ ?_⟩
      · rintro i x H' hi ⟨h1, s⟩
        refine ⟨rfl, yesT ⟨_, rfl, x, rfl, (hp x (List.mem_of_getElem? hi)).same s, _, h1, ?_, ?_, ?_⟩⟩
        · exact Nat.lt_of_le_of_lt take_len hl
        · rw [upd_same, take_snoc hi]
        · exact fun b o e => by rw [upd_ne (ne_of_none e hD)]; exact s b o e
      · rintro H1 ⟨h1, s⟩
        rw [List.take_length] at h1
        refine ⟨D, xs.map isNum, rfl, ?_, ?_⟩
        · rw [List.map_map]
          exact SqL.of h1
        · have e2 : (xs.map isNum).all id = xs.all isNum := by
            rw [List.all_map]
            rfl
          rw [e2]
          exact q _ s
    | tup e =>
      refine ⟨_, PSs.nox (pss_one (ps_ret (pe_callB (cr_all rfl) (by rfl) M.all0 (by decide +kernel) (pa_cons (pe_lc (own := [("thing", 1)]) (g := (gName 1)) (by rfl) sc_are_numbers.nd (pi_tup (pv 0)) (blkOk_by (own := [("thing", 1)]) (N := N_are_numbers) (sc := defScope s_are_numbers) (by decide +kernel))
        (fun _ _ _ _ _ => (pg_name (i := 1) sc_are_numbers.nd rfl (Or.inl rfl))) (fun _ _ _ _ _ => pts_nil) (fun _ _ _ _ _ => (pe_call (ok_is_number M) (hr.mono (by decide)) rfl M.g_is_number M.k_is_number M.b_is_number .nil pass0 (pa_cons (pv 1) pa_nil)))) pa_nil)))), ?_⟩
      refine ⟨_, rfl, a, rfl, ⟨_, SqT.of e⟩, fun D hD => lc_tup (K := K) (a := a) (xs := xs) (fun i H' => H' D = some (.lst ((xs.take i).map fun v => V.bl (isNum v))) ∧ Same H H')
        ⟨upd_same, same_new hD⟩ (fun i H' _ ⟨_, s⟩ => SqT.of (s _ _ e)) ?_ ?_⟩
      · rintro i x H' hi ⟨h1, s⟩
        refine ⟨rfl, yesT ⟨_, rfl, x, rfl, (hp x (List.mem_of_getElem? hi)).same s, _, h1, ?_, ?_, ?_⟩⟩
        · exact Nat.lt_of_le_of_lt take_len hl
        · rw [upd_same, take_snoc hi]
        · exact fun b o e => by rw [upd_ne (ne_of_none e hD)]; exact s b o e
      · rintro H1 ⟨h1, s⟩
        rw [List.take_length] at h1
        refine ⟨D, xs.map isNum, rfl, ?_, ?_⟩
        · rw [List.map_map]
          exact SqL.of h1
        · have e2 : (xs.map isNum).all id = xs.all isNum := by
            rw [List.all_map]
            rfl
          rw [e2]
          exact q _ s
def sp_check_most (cM : Addr) : Sp := fun vs H Q E => ∃ x : V, vs = [x] ∧ PV H x ∧ (within x 0 3000 = true → Q .non H) ∧ (within x 0 3000 = false → E (.ref cM) none H)
theorem ok_check_most (M : Mod P w K mg base) : FnOk P w K mg base (L2.CX P w) 3 M.f_check_most M.d_check_most ["most"] (sp_check_most M.a_BadMost) := by
  refine M.F_check_most.ok sc_check_most (fun vs H Q E h => ?_) (fun cdv A outer s H vs Q E hr h => ?_)
  · obtain ⟨x, rfl, _⟩ := h
    rfl
  · obtain ⟨x, rfl, hx, q1, q2⟩ := h
    refine ⟨_, (pss_one (ps_if (pt_not (pt_val (pe_call (ok_is_within M) (hr.mono (by decide)) rfl M.g_is_within M.k_is_within M.b_is_within .nil pass0 (pa_cons (pv 0) (pa_cons pe_int (pa_cons (pe_glob (v := .int 3000) rfl M.c_GREATEST_MOST ⟨_, rfl⟩) pa_nil)))))) 
        (pss_one (ps_raise rfl (takes_of rfl rfl rfl rfl) (pmk_own PySem.F.excBase_ValueError M.E_BadMost.x M.g_BadMost M.E_BadMost.k (raises_own M.E_BadMost.b M.E_BadMost.t) rfl))) pss_nil)), ?_⟩
    refine ⟨_, rfl, x, 0, 3000, rfl, hx, within x 0 3000, rfl, ?_⟩
    cases h : within x 0 3000 with
    | true => exact iteF (q1 h)
    | false => exact iteT (q2 h)

end
end K85

set_option Elab.async false
set_option linter.all false
set_option maxRecDepth 100000
set_option maxHeartbeats 4000000
set_option pp.maxSteps 3000
set_option exponentiation.threshold 500000
namespace K85
open PySem PySem.Spec PyProof.Rows L2 Dr Xv LamX Ps Gn Fm
section
variable {P : Program} {w : World} {K : PySem.W.Frag} {mg : Str → Option Value} {base : Heap}
def sp_is_number_tuple : Sp := fun vs H Q _ => ∃ (x : V) (o : Option (List V)), vs = [x] ∧ Tp H x o ∧ short o ∧ AllPV H o ∧ ∀ H', Same H H' → Q (.bl (itemsOk o)) H'
theorem ok_is_number_tuple (M : Mod P w K mg base) : FnOk P w K mg base CX0 3 M.f_is_number_tuple M.d_is_number_tuple ["thing"] sp_is_number_tuple := by
  refine M.F_is_number_tuple.ok sc_is_number_tuple (fun vs H Q E h => ?_) (fun cdv A outer s H vs Q E hr h => ?_)
  · obtain ⟨x, o, rfl, _⟩ := h
    rfl
  · obtain ⟨x, o, rfl, hx, hs, hp, q⟩ := h
    refine ⟨_, PSs.nox (pss_one (ps_ret (pe_and (pe_callB call_isi (by rfl) M.isinstance0 boot_isinstance (pa_cons (pv 0) (pa_cons (pe_bltn (v := .ty "tuple") rfl M.tuple0 (by decide +kernel) rfl) pa_nil))) (pe_one (pe_call (ok_are_numbers M) (hr.mono (by decide)) rfl M.g_are_numbers M.k_are_numbers M.b_are_numbers .nil pass0 (pa_cons (pv 0) pa_nil)))))), ?_⟩
    obtain ⟨t, ty, k1⟩ := hx.ty (K := K)
    refine ⟨_, rfl, x, _, t, _, _, rfl, .ty "tuple", ty, k1, _, rfl, ?_⟩
    cases o with
    | none => exact iteF (q H fun _ _ e => e)
    | some xs =>
      obtain ⟨a, rfl, e⟩ := hx.ref
      exact iteT ⟨_, rfl, a, xs, rfl, .tup e, hs xs rfl, hp xs rfl, q⟩

def okT : Option (List V) → Bool
  | none => false
  | some xs => xs.all isNum && Pt.isPt (numsV xs)
def sp_is_partition : Sp := fun vs H Q _ => ∃ (x : V) (o : Option (List V)), vs = [x] ∧ Tp H x o ∧ short o ∧ AllPV H o ∧ ∀ H', Same H H' → Q (.bl (okT o)) H'
theorem ok_is_partition (M : Mod P w K mg base) : FnOk P w K mg base CX0 4 M.f_is_partition M.d_is_partition ["thing"] sp_is_partition := by
  refine M.F_is_partition.ok sc_is_partition (fun vs H Q E h => ?_) (fun cdv A outer s H vs Q E hr h => ?_)
  · obtain ⟨x, o, rfl, _⟩ := h
    rfl
  · obtain ⟨x, o, rfl, hx, hs, hp, q⟩ := h
    refine ⟨_, PSs.nox (C8.pss_cut (ps_if (PW.pt (pw_or (pt_not (pt_val (pe_call (ok_is_number_tuple M) (hr.mono (by decide)) rfl M.g_is_number_tuple M.k_is_number_tuple M.b_is_number_tuple .nil pass0 (pa_cons (pv 0) pa_nil)))) (pw_or1 (pt_cmpR op_gt (pe_callB call_len (by rfl) M.len0 PySem.boot_len (pa_cons (pv 0) pa_nil)) (pe_glob (v := .int 200) rfl M.c_MOST_PARTS ⟨_, rfl⟩) (nomark _))))) 
        (pss_one (ps_ret pe_bl)) pss_nil)
      (C8.pss_cut (ps_if (pt_not (pt_val (pe_callB (cr_all rfl) (by rfl) M.all0 (by decide +kernel) (pa_cons (pe_lc (own := [("part", 1)]) (g := (gName 1)) (by rfl) sc_is_partition.nd (pi_tup (pv 0)) (blkOk_by (own := [("part", 1)]) (N := N_is_partition) (sc := defScope s_is_partition) (by decide +kernel))
        (fun _ _ _ _ _ => (pg_name (i := 1) sc_is_partition.nd rfl (Or.inl rfl))) (fun _ _ _ _ _ => pts_nil) (fun _ _ _ _ _ => (pe_chain op_le op_le pe_int (pv 1) (pe_glob (v := .int 1000000) rfl M.c_GREATEST_PART ⟨_, rfl⟩)))) pa_nil)))) 
        (pss_one (ps_ret pe_bl)) pss_nil)
      (pss_one (ps_ret (pe_callB (cr_all rfl) (by rfl) M.all0 (by decide +kernel) (pa_cons (pe_lc (own := [("one", 2), ("other", 3)]) (g := (gTup K 2 (gCons (gName 2) (gCons (gName 3) gNil)))) (by rfl) sc_is_partition.nd (RZ.pi_zipA (by rfl) M.zip0 (pa_cons (pv 0) (pa_cons (pe_slice sl_tupA (pv 0) (po_some pe_int) po_none) pa_nil))) (blkOk_by (own := [("one", 2), ("other", 3)]) (N := N_is_partition) (sc := defScope s_is_partition) (by decide +kernel))
        (fun _ _ _ _ _ => (pg_tup rfl (pgs_cons (pg_name (i := 2) sc_is_partition.nd rfl (Or.inl rfl)) (pgs_cons (pg_name (i := 3) sc_is_partition.nd rfl (Or.inl rfl)) pgs_nil)))) (fun _ _ _ _ _ => pts_nil) (fun _ _ _ _ _ => (pe_cmpR op_ge (pv 2) (pv 3) (nomark _)))) pa_nil)))))), ?_⟩
    refine ⟨fun σ' H' => ∃ (a : Addr) (ns : List Int), σ' = [some (.ref a), none, none, none] ∧ Same H H' ∧ x = .ref a ∧ o = some (ns.map V.int) ∧ H' a = some (.tup (ns.map V.int)) ∧ ns.length ≤ 200, ?_, ?_⟩
    · refine ⟨_, rfl, x, o, rfl, hx, hs, hp, fun H1 s1 => ?_⟩
      refine ⟨_, rfl, ?_⟩
      cases hk : itemsOk o with
      | false =>
        refine iteT (iteT ?_)
        show Q (.bl false) H1
        have e : okT o = false := by
          cases o with
          | none => rfl
          | some xs =>
            have z : xs.all isNum = false := hk
            show (xs.all isNum && _) = false
            rw [z, Bool.false_and]
        rw [← e]
        exact q H1 s1
      | true =>
        cases o with
        | none => cases hk
        | some xs =>
          obtain ⟨ns, rfl⟩ := nums_of (xs := xs) hk
          obtain ⟨a, rfl, e⟩ := hx.ref
          refine iteF ⟨_, rfl, _, _, rfl, .inr ⟨_, SqT.of (s1 _ _ e), rfl⟩, _, _, rfl, rfl, _, rfl, ?_⟩
          rw [List.length_map]
          by_cases c : (200 : Int) < (ns.length : Int)
          · refine iteT' (decide_eq_true c) ?_
            show Q (.bl false) H1
            have e2 : okT (some (ns.map V.int)) = false := by
              show ((ns.map V.int).all isNum && Pt.isPt (numsV (ns.map V.int))) = false
              rw [numsV_map]
              unfold Pt.isPt
              rw [decide_eq_false (by omega : ¬ ns.length ≤ 200), Bool.false_and, Bool.and_false]
            rw [← e2]
            exact q H1 s1
          · exact iteF' (decide_eq_false c) ⟨a, ns, rfl, s1, rfl, rfl, s1 _ _ e, by omega⟩
    · rintro σ H1 ⟨a, ns, rfl, s1, rfl, rfl, e1, l1⟩
      have eok : okT (some (ns.map V.int)) = (Pt.small ns 1 1000000 && (List.zip ns (ns.drop 1)).all fun p => decide (p.2 ≤ p.1)) := by
        show ((ns.map V.int).all isNum && Pt.isPt (numsV (ns.map V.int))) = _
        rw [numsV_map, all_num, Bool.true_and]
        unfold Pt.isPt
        rw [decide_eq_true l1, Bool.true_and]
      refine ⟨fun σ' H' => σ' = [some (.ref a), none, none, none] ∧ Same H H' ∧ H' a = some (.tup (ns.map V.int)) ∧ Pt.small ns 1 1000000 = true, ?_, ?_⟩
      · refine ⟨_, rfl, a, rfl, ⟨_, SqT.of e1⟩, fun D hD => lc_tup (K := K) (a := a) (xs := ns.map V.int) (fun i H' => H' D = some (.lst ((ns.take i).map fun x => V.bl (decide (1 ≤ x) && decide (x ≤ 1000000)))) ∧ Same H1 H')
          ⟨upd_same, same_new hD⟩ (fun i H' _ ⟨_, s⟩ => SqT.of (s _ _ e1)) ?_ ?_⟩
        · rintro i x H' hi ⟨h1, s⟩
          obtain ⟨z, hz, rfl⟩ := int_at hi
          refine ⟨rfl, yesT ?_⟩
          have fin : ∀ b : Bool, b = (decide (1 ≤ z) && decide (z ≤ 1000000)) → ∃ acc, H' D = some (HO.lst acc) ∧ acc.length < sizeLine ∧ upd H' D (HO.lst (acc ++ [V.bl b])) D = some (HO.lst (List.map (fun x => V.bl (decide (1 ≤ x) && decide (x ≤ 1000000))) (List.take (i + 1) ns))) ∧ Same H1 (upd H' D (HO.lst (acc ++ [V.bl b]))) := fun b eb => by
            refine ⟨_, h1, ?_, ?_, fun b o e => by rw [upd_ne (ne_of_none e hD)]; exact s b o e⟩
            · have := take_len (f := fun x : Int => V.bl (decide (1 ≤ x) && decide (x ≤ 1000000))) (xs := ns) (i := i)
              rw [sizeLine_eq]
              omega
            · rw [upd_same, eb, take_snoc (f := fun x : Int => V.bl (decide (1 ≤ x) && decide (x ≤ 1000000))) hz]
          refine ⟨_, rfl, _, _, rfl, rfl, _, rfl, ?_⟩
          by_cases c : 1 ≤ z
          · refine iteT' (decide_eq_true c) ⟨_, _, rfl, rfl, fin _ ?_⟩
            rw [decide_eq_true c, Bool.true_and]
          · refine iteF' (decide_eq_false c) (fin _ ?_)
            rw [decide_eq_false c, Bool.false_and]
        · rintro H2 ⟨h2, s2⟩
          rw [List.length_map, List.take_length] at h2
          refine ⟨D, ns.map fun x => (decide (1 ≤ x) && decide (x ≤ 1000000)), rfl, ?_, ?_⟩
          · rw [List.map_map]
            exact SqL.of h2
          · have e3 : (ns.map fun x => (decide (1 ≤ x) && decide (x ≤ 1000000))).all id = Pt.small ns 1 1000000 := by
              rw [List.all_map]
              rfl
            rw [e3]
            refine ⟨_, rfl, ?_⟩
            cases hsm : Pt.small ns 1 1000000 with
            | true => exact iteF ⟨rfl, s1.trans s2, s2 _ _ e1, rfl⟩
            | false =>
              refine iteT ?_
              show Q (.bl false) H2
              rw [hsm, Bool.false_and] at eok
              rw [← eok]
              exact q H2 (s1.trans s2)
      · rintro σ H2 ⟨rfl, s2, e2, hsm⟩
        rw [hsm, Bool.true_and] at eok
        have pl : ∀ l : List (Int × Int), (l.map fun p => decide (p.2 ≤ p.1)).all id = l.all fun p => decide (p.2 ≤ p.1) := fun l => by
          rw [List.all_map]
          rfl
        by_cases n0 : ns = []
        · subst n0
          refine ⟨_, rfl, _, rfl, 1, rfl, a, _, rfl, SqT.of e2, fun hw => ?_, fun hw => absurd ⟨rfl, rfl⟩ hw⟩
          refine ⟨a, a, _, _, rfl, .inr ⟨SqT.of e2, SqT.of e2, fun D hD => lc_it (walk_zipT (n := 0) rfl) (fun i H' => H' D = some (.lst []) ∧ Same H2 H') ⟨upd_same, same_new hD⟩ (fun i H' _ ⟨_, s⟩ => ⟨SqT.of (s _ _ e2), SqT.of (s _ _ e2)⟩) (fun i x H3 H4 hi => absurd hi (Nat.not_lt_zero _)) ?_⟩⟩
          rintro H3 ⟨h3, s3⟩
          exact ⟨D, [], rfl, SqL.of h3, q _ (s2.trans s3)⟩
        · obtain ⟨n, en⟩ : ∃ n, ns.length = n + 1 := ⟨ns.length - 1, by
            have := List.length_pos_iff.mpr n0
            omega⟩
          refine ⟨_, rfl, _, rfl, 1, rfl, a, _, rfl, SqT.of e2, fun hw => ?_, fun hw p hp => ?_⟩
          · exfalso
            have z : HT.sIx (ns.map V.int).length 0 (some ((1 : Nat) : Int)) = 0 := hw.1
            rw [HT.sIx_nat, List.length_map] at z
            omega
          have s3 := same_new (o := .tup (cutV (ns.map V.int) (some 1) none)) hp
          have e3 : (upd H2 p (.tup (cutV (ns.map V.int) (some 1) none))) p = some (.tup ((ns.drop 1).map V.int)) := by
            rw [upd_same]
            congr 2
            exact cut_tail (i := 1)
          have e4 := s3 _ _ e2
          generalize upd H2 p (.tup (cutV (ns.map V.int) (some 1) none)) = H3 at s3 e3 e4 ⊢
          refine ⟨a, p, _, _, rfl, .inr ⟨SqT.of e4, SqT.of e3, fun D hD => lc_it (walk_zipT (n := n) (by rw [List.length_map, List.length_map, List.length_drop]; omega)) (fun i H' => H' D = some (.lst (((List.zip ns (ns.drop 1)).take i).map fun p => V.bl (decide (p.2 ≤ p.1)))) ∧ Same H3 H') ⟨upd_same, same_new hD⟩ (fun i H' _ ⟨_, s⟩ => ⟨SqT.of (s _ _ e4), SqT.of (s _ _ e3)⟩) ?_ ?_⟩⟩
          · rintro i x H4 H5 hi ⟨h4, s4⟩ ⟨T, y, z, rfl, hT, rfl, hy, hz⟩
            have i1 : i < ns.length := by omega
            have i2 : i + 1 < ns.length := by omega
            have g1 : y = .int ns[i] := by
              have w : (ns.map V.int)[i]? = some y := hy
              rw [List.getElem?_map, List.getElem?_eq_getElem i1] at w
              exact (Option.some.inj w).symm
            have g2 : z = .int ns[i + 1] := by
              have w : ((ns.drop 1).map V.int)[i]? = some z := hz
              rw [List.getElem?_map, List.getElem?_drop, Nat.add_comm 1 i, List.getElem?_eq_getElem i2] at w
              exact (Option.some.inj w).symm
            subst g1 g2
            have ez : (List.zip ns (ns.drop 1))[i]? = some (ns[i], ns[i + 1]) := by
              rw [List.getElem?_zip_eq_some]
              refine ⟨List.getElem?_eq_getElem i1, ?_⟩
              rw [List.getElem?_drop, Nat.add_comm 1 i, List.getElem?_eq_getElem i2]
            have sT := same_new (o := .tup [.int ns[i], .int ns[i + 1]]) hT
            refine ⟨T, _, rfl, SqT.of upd_same, rfl, _, _, rfl, _, _, rfl, rfl, rfl, yesT ?_⟩
            refine ⟨_, rfl, _, rfl, _, _, rfl, rfl, _, sT _ _ h4, ?_, ?_, fun b o e => ?_⟩
            · have := take_len (f := fun p : Int × Int => V.bl (decide (p.2 ≤ p.1))) (xs := List.zip ns (ns.drop 1)) (i := i)
              rw [List.length_zip] at this
              rw [sizeLine_eq]
              omega
            · rw [upd_same]
              have := take_snoc (f := fun p : Int × Int => V.bl (decide (p.2 ≤ p.1))) ez
              rw [← this]
            · rw [upd_ne (ne_of_none e hD)]
              exact sT _ _ (s4 _ _ e)
          · rintro H4 ⟨h4, s4⟩
            have el : (List.zip ns (ns.drop 1)).length = n := by
              rw [List.length_zip, List.length_drop]
              omega
            rw [List.take_of_length_le (by omega)] at h4
            refine ⟨D, (List.zip ns (ns.drop 1)).map fun p => decide (p.2 ≤ p.1), rfl, ?_, ?_⟩
            · rw [List.map_map]
              exact SqL.of h4
            · rw [pl, ← eok]
              exact q _ (s2.trans (s3.trans s4))

def sp_check_partition (cP : Addr) : Sp := fun vs H Q E => ∃ (x : V) (o : Option (List V)), vs = [x] ∧ Tp H x o ∧ short o ∧ AllPV H o ∧ (okT o = false → ∀ H', Same H H' → E (.ref cP) none H') ∧ (okT o = true → ∀ H', Same H H' → Q .non H')
theorem ok_check_partition (M : Mod P w K mg base) : FnOk P w K mg base (L2.CX P w) 5 M.f_check_partition M.d_check_partition ["partition"] (sp_check_partition M.a_BadPartition) := by
  refine M.F_check_partition.ok sc_check_partition (fun vs H Q E h => ?_) (fun cdv A outer s H vs Q E hr h => ?_)
  · obtain ⟨x, o, rfl, _⟩ := h
    rfl
  · obtain ⟨x, o, rfl, hx, hs, hp, q1, q2⟩ := h
    refine ⟨_, (pss_one (ps_if (pt_not (pt_val (pe_call (ok_is_partition M) (hr.mono (by decide)) rfl M.g_is_partition M.k_is_partition M.b_is_partition .nil pass0 (pa_cons (pv 0) pa_nil)))) 
        (pss_one (ps_raise rfl (takes_of rfl rfl rfl rfl) (pmk_own PySem.F.excBase_ValueError M.E_BadPartition.x M.g_BadPartition M.E_BadPartition.k (raises_own M.E_BadPartition.b M.E_BadPartition.t) rfl))) pss_nil)), ?_⟩
    refine ⟨_, rfl, x, o, rfl, hx, hs, hp, fun H1 s1 => ⟨_, rfl, ?_⟩⟩
    cases hk : okT o with
    | true => exact iteF (q2 hk H1 s1)
    | false => exact iteT (q1 hk H1 s1)

/-- the head of a row within which k < size -/
theorem sS_head (p : S) {ns : List Int} (hp : p = fnL ns) {N : Nat} (h : 1 ≤ N) : ∀ k, k < N → sS p (min (N - 1) ns.length) k = sS p (N - 1) k := fun k hk => by
  subst hp
  by_cases c : N - 1 ≤ ns.length
  · rw [Nat.min_eq_left c]
  · rw [Nat.min_eq_right (by omega)]
    obtain ⟨j, e⟩ : ∃ j, N - 1 = ns.length + j := ⟨N - 1 - ns.length, by omega⟩
    rw [e, sS_tail (fun i hi => fnL_out hi)]
def sp_sums_over_divisors : Sp := fun vs H Q _ => ∃ (a : Addr) (ns : List Int) (N : Nat), vs = [.ref a, .int (N : Int)] ∧ SeqI H a ns ∧ 1 ≤ N ∧ N ≤ 3001 ∧ ns.length ≤ 4000 ∧
  ∀ (p : Addr) (H' : Hp), H p = none → Same H H' → H' p = some (.lst (rowOf N (sS (fnL ns) (N - 1)))) → Q (.ref p) H'
theorem ok_sums_over_divisors (M : Mod P w K mg base) : FnOk P w K mg base CX0 1 M.f_sums_over_divisors M.d_sums_over_divisors ["powers", "size"] sp_sums_over_divisors := by
  refine M.F_sums_over_divisors.ok sc_sums_over_divisors (fun vs H Q E h => ?_) (fun cdv A outer s H vs Q E hr h => ?_)
  · obtain ⟨a, ns, N, rfl, _⟩ := h
    rfl
  · obtain ⟨a, ns, N, rfl, ha, N1, N2, hl, q⟩ := h
    refine ⟨_, PSs.nox (pss_cons (ps_set (i := 2) sc_sums_over_divisors.nd rfl (Or.inl rfl) (pe_op op_rep (pe_lst (pa_cons pe_int pa_nil)) (pv 1)))
      (pss_cons (ps_for PassesOwn.never rfl (pi_enumK (by rfl) M.enumerate0 (pa_cons (pe_slice sl_head (pv 0) po_none (po_some (pe_op op_sub (pv 1) pe_int))) pa_nil) (pk_cons pe_int pk_nil)) (pg_tup rfl (pgs_cons (pg_name (i := 3) sc_sums_over_divisors.nd rfl (Or.inl rfl)) (pgs_cons (pg_name (i := 4) sc_sums_over_divisors.nd rfl (Or.inl rfl)) pgs_nil))) 
        (pss_one (ps_if (pt_cmpR op_ne (pv 4) pe_int (nomark _)) 
          (pss_one (ps_for PassesOwn.never rfl (pi_range3 (by rfl) M.range0 (pa_cons (pv 3) (pa_cons (pv 1) (pa_cons (pv 3) pa_nil)))) (pg_name (i := 5) sc_sums_over_divisors.nd rfl (Or.inl rfl)) 
            (pss_one (ps_augS (pv 2) (pv 5) get_list (pe_op op_mul (pv 3) (pv 4)) ip_add set_list)))) pss_nil)))
      (pss_one (ps_ret (pv 2))))), ?_⟩
    refine ⟨(by show 1 ≤ sizeLine; decide), fun p1 h1 => ?_⟩
    refine ⟨_, rfl, p1, _, _, rfl, rfl, upd_same, by omega, by omega, ?_, fun p2 h2 => ?_⟩
    · show 1 * _ ≤ sizeLine
      rw [sizeLine_eq]
      omega
    have s1 := (same_new (o := .lst [V.int 0]) h1).trans (same_new (o := .lst (List.replicate (N : Int).toNat [V.int 0]).flatten) h2)
    have hp2 : H p2 = none := (same_new (o := .lst [V.int 0]) h1).free h2
    have e0 : (upd (upd H p1 (.lst [V.int 0])) p2 (.lst (List.replicate (N : Int).toNat [V.int 0]).flatten)) p2 = some (.lst (rowOf N (sS (fnL ns) 0))) := by
      rw [upd_same, rep1, row_zero (b := sS (fnL ns) 0) (fun _ _ => rfl)]
      rfl
    generalize upd (upd H p1 (.lst [V.int 0])) p2 (.lst (List.replicate (N : Int).toNat [V.int 0]).flatten) = H1 at s1 e0 ⊢
    clear h1 h2
    have eN : (N : Int) - 1 = ((N - 1 : Nat) : Int) := by omega
    have ha1 := ha.same s1
    have hpn : H1 p2 ≠ none := fun z => by rw [e0] at z; cases z
    refine ⟨_, rfl, _, rfl, _, _, rfl, rfl, _, rfl, a, ns, N - 1, rfl, rfl, congrArg some eN, ha1, fun tup b H2 nb s2 hb => ?_⟩
    refine ⟨b, _, 1, tup, rfl, rfl, by decide, by decide, sqx hb, ?_⟩
    have hb2 : b ≠ p2 := by
      rcases nb with rfl | nb
      · exact ha.ne hp2
      · exact (ne_of_none e0 nb).symm
    have e2 := s2 _ _ e0
    have lt : ((ns.take (N - 1)).map V.int).length = min (N - 1) ns.length := by rw [List.length_map, List.length_take]
    refine for_it walk_enumS (fun i σ H' => ∃ x3 x4 x5, σ = [some (.ref a), some (.int (N : Int)), some (.ref p2), x3, x4, x5] ∧ H' p2 = some (.lst (rowOf N (sS (fnL ns) i))) ∧ SameO p2 H2 H') ⟨_, _, _, rfl, e2, SameO.refl⟩
      (fun i σ H' _ ⟨_, _, _, _, _, so⟩ => sqx (so _ _ hb hb2)) ?_ ?_
    · rintro i v σ H3 H4 hi ⟨x3, x4, x5, rfl, h3, so⟩ ⟨T, y1, y2, rfl, hT, rfl, g1, g2⟩
      cases Option.some.inj g1
      have g3 := take_at (ns := ns) (m := N - 1) (i := i) (by rw [List.length_map] at hi; exact hi)
      have g4 : ((ns.take (N - 1)).map V.int)[i]? = some y2 := g2
      rw [g3] at g4
      cases Option.some.inj g4
      have hiN : i < N - 1 := by omega
      have nT : p2 ≠ T := ne_of_none h3 hT
      have sT := same_new (o := .tup [.int (1 + (i : Nat)), .int (fnL ns i)]) hT
      refine ⟨T, _, rfl, SqT.of upd_same, rfl, _, _, rfl, _, _, rfl, rfl, ?_⟩
      have h4 := sT _ _ h3
      have so4 : SameO p2 H2 (upd H3 T (.tup [.int (1 + (i : Nat)), .int (fnL ns i)])) := so.trans (.of sT)
      generalize upd H3 T (.tup [.int (1 + (i : Nat)), .int (fnL ns i)]) = H4 at h4 so4 ⊢
      have ec : (1 + (i : Int)) = ((i + 1 : Nat) : Int) := by omega
      rw [ec]
      refine ⟨_, rfl, rfl, _, rfl, ?_⟩
      by_cases c : fnL ns i = 0
      · refine iteF' (by rw [c]; rfl) ⟨_, _, _, rfl, ?_, so4⟩
        rw [h4]
        congr 2
        refine row_ext fun k _ => ?_
        show _ = sS (fnL ns) i k + ((i + 1 : Nat) : Int) * fnL ns i * Ev (i + 1) k
        rw [c, Int.mul_zero, Int.zero_mul, Int.add_zero]
      · refine iteT' (by
          rw [decide_eq_false (fun z => c (by injection z))]
          rfl) ?_
        refine ⟨_, rfl, _, rfl, _, rfl, _, _, _, _, rfl, rg_up (a := i + 1) (b := N) (d := i + 1) (by omega) (by omega) (by omega) (by omega), ?_⟩
        refine for_rangeC (fun j σ H' => ∃ x5, σ = [some (.ref a), some (.int (N : Int)), some (.ref p2), some (.int ((i + 1 : Nat) : Int)), some (.int (fnL ns i)), x5] ∧
          H' p2 = some (.lst (rowOf N fun k => sS (fnL ns) i k + (if k < (i + 1) + j * (i + 1) then ((i + 1 : Nat) : Int) * fnL ns i * Ev (i + 1) k else 0))) ∧ SameO p2 H2 H') ⟨_, rfl, ?_, so4⟩ ?_ ?_
        · rw [h4]
          congr 2
          refine row_ext fun k _ => ?_
          split
          · rename_i hk
            have z : Ev (i + 1) k = 0 := by
              unfold Ev
              rw [if_neg]
              intro z
              have := Nat.le_of_dvd (by omega) z.2
              omega
            rw [z, Int.mul_zero, Int.add_zero]
          · rw [Int.add_zero]
        · rintro j σ H5 hj ⟨x5, rfl, h5, so5⟩
          have hj2 := (lt_upN (by omega)).mp hj
          obtain ⟨n, en⟩ : ∃ n, n = (i + 1) + j * (i + 1) := ⟨_, rfl⟩
          have ei : ((i + 1 : Nat) : Int) + (j : Int) * ((i + 1 : Nat) : Int) = (n : Int) := by
            rw [en]
            push_cast
            rfl
          rw [ei]
          rw [← en] at hj2
          refine ⟨_, rfl, _, rfl, p2, _, _, _, rfl, rfl, SqL.of h5, row_val hj2, _, rfl, _, rfl, _, _, rfl, rfl, .inl ⟨by omega, by omega⟩, _, _, rfl, rfl, p2, _, _, _, rfl, rfl, h5, row_at hj2, _, rfl, ?_, so5.trans .put⟩
          rw [upd_same]
          congr 2
          have dn : (i + 1) ∣ n := ⟨1 + j, by rw [en, Nat.add_comm 1 j, Nat.mul_comm (i + 1) (j + 1), Nat.add_mul j 1, Nat.one_mul]; exact Nat.add_comm _ _⟩
          refine row_set hj2 ?_ fun k hk hne => ?_
          · show _ + (if n < (i + 1) + (j + 1) * (i + 1) then _ else 0) = _
            rw [if_pos (by rw [Nat.add_mul]; omega), ← en, if_neg (Nat.lt_irrefl _)]
            have z : Ev (i + 1) n = 1 := by
              unfold Ev
              rw [if_pos ⟨by omega, dn⟩]
            rw [z, Int.mul_one, Int.add_zero]
          · show _ + (if k < (i + 1) + (j + 1) * (i + 1) then _ else 0) = _ + (if k < (i + 1) + j * (i + 1) then _ else 0)
            by_cases q1 : k < (i + 1) + j * (i + 1)
            · rw [if_pos q1, if_pos (by rw [Nat.add_mul]; omega)]
            · rw [if_neg q1]
              by_cases q2 : k < (i + 1) + (j + 1) * (i + 1)
              · rw [if_pos q2]
                have z : Ev (i + 1) k = 0 := by
                  unfold Ev
                  rw [if_neg]
                  rintro ⟨_, dk⟩
                  have d2 := Nat.dvd_sub dk dn
                  have := Nat.le_of_dvd (by omega) d2
                  rw [Nat.add_mul] at q2
                  omega
                rw [z, Int.mul_zero]
              · rw [if_neg q2]
        · rintro σ H5 ⟨x5, rfl, h5, so5⟩
          refine ⟨_, _, _, rfl, ?_, so5⟩
          rw [h5]
          congr 2
          refine row_ext fun k hk => ?_
          show _ = sS (fnL ns) i k + ((i + 1 : Nat) : Int) * fnL ns i * Ev (i + 1) k
          rw [if_pos]
          have z : ¬ (i + 1 + upN (i + 1) N (i + 1) * (i + 1) < N) := fun z => Nat.lt_irrefl _ ((lt_upN (by omega)).mpr z)
          omega
    · rintro σ H3 ⟨x3, x4, x5, rfl, h3, so⟩
      refine ⟨_, rfl, q p2 H3 hp2 (so.back (s1.trans s2) hp2) ?_⟩
      rw [h3, lt]
      congr 2
      exact row_ext fun k hk => sS_head _ rfl N1 k hk

def sp_row_from_sums : Sp := fun vs H Q _ => ∃ (a : Addr) (N B : Nat) (s A : S), vs = [.ref a] ∧ H a = some (.lst (rowOf N s)) ∧ 1 ≤ N ∧ N ≤ 3001 ∧ Lg s A ∧ A 0 = 1 ∧ 0 < B ∧ B ≤ 400000 ∧ (∀ k, k < N → (s k).natAbs < 2 ^ B) ∧ (∀ k, k < N → (A k).natAbs < 2 ^ B) ∧
  ∀ (p : Addr) (H' : Hp), H p = none → Same H H' → H' p = some (.lst (rowOf N A)) → Q (.ref p) H'
theorem row_rev {n : Nat} {b : S} : (rowOf n b).reverse = rowOf n fun i => b (n - 1 - i) := by
  refine List.ext_getElem (by rw [List.length_reverse, row_len, row_len]) fun i h1 h2 => ?_
  rw [row_len] at h2
  have e1 : (rowOf n b).reverse[i]? = some (.int (b (n - 1 - i))) := by
    rw [List.getElem?_reverse (by rw [row_len]; exact h2), row_len, row_get (by omega)]
  have e2 := row_get (n := n) (i := i) (b := fun i => b (n - 1 - i)) h2
  rw [List.getElem?_eq_getElem h1] at e1
  rw [List.getElem?_eq_getElem (by rw [row_len]; exact h2)] at e2
  exact Option.some.inj (e1.trans e2.symm)
theorem row_tail {n : Nat} {b : S} : cutV (rowOf n b) (some 1) none = rowOf (n - 1) fun i => b (i + 1) := by
  have e : cutV (rowOf n b) (some 1) none = (rowOf n b).drop 1 := by
    unfold cutV
    have e1 : HT.sIx (rowOf n b).length 0 (some 1) = min 1 (rowOf n b).length := HT.sIx_nat _ 0 1
    rw [HT.sIx_none, e1]
    by_cases h : 1 ≤ (rowOf n b).length
    · rw [Nat.min_eq_left h]
      exact List.take_of_length_le (by rw [List.length_drop]; exact Nat.le_refl _)
    · have z : rowOf n b = [] := List.length_eq_zero_iff.mp (by omega)
      rw [z]
      rfl
  rw [e]
  refine List.ext_getElem (by rw [List.length_drop, row_len, row_len]) fun i h1 h2 => ?_
  rw [row_len] at h2
  rw [List.getElem_drop]
  have e1 := row_get (n := n) (i := 1 + i) (b := b) (by omega)
  have e2 := row_get (n := n - 1) (i := i) (b := fun i => b (i + 1)) h2
  rw [List.getElem?_eq_getElem (by rw [row_len]; omega)] at e1
  rw [List.getElem?_eq_getElem (by rw [row_len]; exact h2)] at e2
  rw [Option.some.inj e1, Option.some.inj e2, Nat.add_comm]
theorem ok_row_from_sums (M : Mod P w K mg base) : FnOk P w K mg base CX0 1 M.f_row_from_sums M.d_row_from_sums ["sums"] sp_row_from_sums := by
  refine M.F_row_from_sums.ok sc_row_from_sums (fun vs H Q E h => ?_) (fun cdv A outer s H vs Q E hr h => ?_)
  · obtain ⟨a, N, B, s, A, rfl, _⟩ := h
    rfl
  · obtain ⟨a, N, B, sf, Af, rfl, ha, N1, N2, L, A0, B0, B1, bs, bA, q⟩ := h
    refine ⟨_, PSs.nox (pss_cons (ps_set (i := 1) sc_row_from_sums.nd rfl (Or.inl rfl) (pe_slice sl_list (pv 0) (po_some pe_int) po_none))
      (pss_cons (ps_set (i := 2) sc_row_from_sums.nd rfl (Or.inl rfl) (pe_lst (pa_cons pe_int pa_nil)))
      (pss_cons (ps_for PassesOwn.never rfl (pi_range2 (by rfl) M.range0 (pa_cons pe_int (pa_cons (pe_callB call_len (by rfl) M.len0 PySem.boot_len (pa_cons (pv 0) pa_nil)) pa_nil))) (pg_name (i := 3) sc_row_from_sums.nd rfl (Or.inl rfl)) 
        (pss_cons (ps_set (i := 4) sc_row_from_sums.nd rfl (Or.inl rfl) (pe_callB (cr_sum rfl) (by rfl) M.sum0 (by decide +kernel) (pa_cons (pe_lc (own := [("x", 5), ("y", 6)]) (g := (gTup K 2 (gCons (gName 5) (gCons (gName 6) gNil)))) (by rfl) sc_row_from_sums.nd (pi_zip (by rfl) M.zip0 (pa_cons (pv 1) (pa_cons (pe_revL (pv 2)) pa_nil))) (blkOk_by (own := [("x", 5), ("y", 6)]) (N := N_row_from_sums) (sc := defScope s_row_from_sums) (by decide +kernel))
        (fun _ _ _ _ _ => (pg_tup rfl (pgs_cons (pg_name (i := 5) sc_row_from_sums.nd rfl (Or.inl rfl)) (pgs_cons (pg_name (i := 6) sc_row_from_sums.nd rfl (Or.inl rfl)) pgs_nil)))) (fun _ _ _ _ _ => pts_nil) (fun _ _ _ _ _ => (pe_op op_mulW (pv 5) (pv 6)))) pa_nil)))
        (pss_one (ps_expr (pe_bm PySem.F.plainAttrs_list PySem.F.slot_list_append PySem.F.type_list_append mt_append (pv 2) (pa_cons (pe_op op_fdivB (pv 4) (pv 3)) pa_nil))))))
      (pss_one (ps_ret (pv 2)))))), ?_⟩
    refine ⟨_, rfl, 1, rfl, a, _, rfl, SqL.of ha, fun p1 h1 => ?_⟩
    rw [row_tail]
    have hp1 : (upd H p1 (.lst (rowOf (N - 1) fun i => sf (i + 1)))) p1 = some (.lst (rowOf (N - 1) fun i => sf (i + 1))) := upd_same
    have s1 := same_new (o := .lst (rowOf (N - 1) fun i => sf (i + 1))) h1
    generalize upd H p1 (.lst (rowOf (N - 1) fun i => sf (i + 1))) = H1 at hp1 s1 ⊢
    clear h1
    refine ⟨(by show 1 ≤ sizeLine; decide), fun p2 h2 => ?_⟩
    have s2 := same_new (o := .lst [V.int 1]) h2
    have hp2 : H p2 = none := s1.free h2
    have e2 : (upd H1 p2 (.lst [V.int 1])) p2 = some (.lst (rowOf 1 Af)) := by
      rw [upd_same]
      show _ = some (HO.lst [V.int (Af 0)])
      rw [A0]
    have np : p1 ≠ p2 := ne_of_none hp1 h2
    have hp1' := s2 _ _ hp1
    have ha1 := s2 _ _ (s1 _ _ ha)
    have S2 := s1.trans s2
    generalize upd H1 p2 (.lst [V.int 1]) = H2 at e2 hp1' ha1 S2 ⊢
    clear h2 s2 hp1 s1
    have na : a ≠ p2 := ne_of_none ha hp2
    refine ⟨_, rfl, _, _, rfl, .inl ⟨_, SqL.of ha1, rfl⟩, 1, _, rfl, ⟨by decide, by decide, by omega, by rw [row_len]; omega⟩, ?_⟩
    refine for_range (lo := 1) (n := (((rowOf N sf).length : Int) - 1).toNat) (fun j σ H' => ∃ x3 x4, σ = [some (.ref a), some (.ref p1), some (.ref p2), x3, x4, none, none] ∧ H' p2 = some (.lst (rowOf (j + 1) Af)) ∧ SameO p2 H2 H') ⟨_, _, rfl, e2, SameO.refl⟩ ?_ ?_
    · rintro j σ H3 hj ⟨x3, x4, rfl, h3, so⟩
      rw [row_len] at hj
      have ec : (1 + (j : Int)) = ((j + 1 : Nat) : Int) := by omega
      rw [ec]
      have hp13 := so _ _ hp1' np
      refine ⟨_, rfl, _, rfl, p2, _, rfl, SqL.of h3, fun p4 h4 => ?_⟩
      rw [row_rev]
      have s4 := same_new (o := .lst (rowOf (j + 1) fun i => Af (j + 1 - 1 - i))) h4
      have e4 : (upd H3 p4 (.lst (rowOf (j + 1) fun i => Af (j + 1 - 1 - i)))) p4 = some (.lst (rowOf (j + 1) fun i => Af (j + 1 - 1 - i))) := upd_same
      have n4 : p2 ≠ p4 := ne_of_none h3 h4
      generalize upd H3 p4 (.lst (rowOf (j + 1) fun i => Af (j + 1 - 1 - i))) = H4 at s4 e4 ⊢
      clear h4
      refine ⟨p1, p4, _, _, rfl, SqL.of (s4 _ _ hp13), SqL.of e4, fun D hD => lc_it (walk_zip (n := j + 1) (by rw [row_len, row_len]; omega)) (fun i H' => H' D = some (.lst (rowOf i fun i => sf (i + 1) * Af (j - i))) ∧ Same H4 H') ⟨by rw [upd_same]; rfl, same_new hD⟩
        (fun i H' _ ⟨_, sb⟩ => ⟨SqL.of (sb _ _ (s4 _ _ hp13)), SqL.of (sb _ _ e4)⟩) ?_ ?_⟩
      · rintro i v H5 H6 hi ⟨h5, sb⟩ ⟨T', y1, y2, rfl, hT, rfl, g1, g2⟩
        have f1 : y1 = .int (sf (i + 1)) := by
          have z : (rowOf (N - 1) fun i => sf (i + 1))[i]? = some y1 := g1
          rw [row_get (by omega)] at z
          exact (Option.some.inj z).symm
        have f2 : y2 = .int (Af (j - i)) := by
          have z : (rowOf (j + 1) fun i => Af (j + 1 - 1 - i))[i]? = some y2 := g2
          rw [row_get (by omega)] at z
          have e : j + 1 - 1 - i = j - i := by omega
          rw [e] at z
          exact (Option.some.inj z).symm
        subst f1 f2
        have sT := same_new (o := .tup [.int (sf (i + 1)), .int (Af (j - i))]) hT
        refine ⟨T', _, rfl, SqT.of upd_same, rfl, _, _, rfl, _, _, rfl, rfl, rfl, yesT ?_⟩
        refine ⟨_, rfl, _, rfl, _, _, rfl, rfl, wide_mul (bs (i + 1) (by omega)) (bA (j - i) (by omega)) B0 B0 (by omega), _, sT _ _ h5, ?_, ?_, ?_⟩
        · rw [row_len, sizeLine_eq]
          omega
        · rw [upd_same, row_succ]
        · intro b' o' e'
          rw [upd_ne (ne_of_none e' hD)]
          exact sT _ _ (sb _ _ e')
      · rintro H5 ⟨h5, sb⟩
        refine ⟨D, (List.range (j + 1)).map fun i => sf (i + 1) * Af (j - i), rfl, SqL.of h5, ?_⟩
        rw [sum_sm]
        have hA := L.at_ (j + 1)
        have e5 : sm (fun i => sf (i + 1) * Af (j + 1 - (i + 1))) (j + 1) = sm (fun i => sf (i + 1) * Af (j - i)) (j + 1) := sm_congr _ fun i hi => by
          have e : j + 1 - (i + 1) = j - i := by omega
          rw [e]
        rw [e5] at hA
        rw [← hA]
        have h6 := sb _ _ (s4 _ _ h3)
        refine ⟨_, rfl, .inl ⟨rfl, _, SqL.of h6⟩, _, rfl, _, rfl, _, _, rfl, rfl, ⟨by omega, log_small2 (by omega)⟩, ?_⟩
        refine ⟨p2, _, _, rfl, rfl, h6, ?_, _, _, rfl, ?_, ?_⟩
        · rw [row_len, sizeLine_eq]
          omega
        · have ef : (((j + 1 : Nat) : Int) * Af (j + 1)).fdiv ((j + 1 : Nat) : Int) = Af (j + 1) := Int.mul_fdiv_cancel_left _ (by omega)
          rw [upd_same, row_succ (n := j + 1)]
          show some (HO.lst (_ ++ [V.int ((((j + 1 : Nat) : Int) * Af (j + 1)).fdiv ((j + 1 : Nat) : Int))])) = _
          rw [ef]
        · exact so.trans ((SameO.of (s4.trans sb)).trans .put)
    · rintro σ H3 ⟨x3, x4, rfl, h3, so⟩
      rw [row_len] at h3
      have e9 : ((N : Int) - 1).toNat + 1 = N := by omega
      rw [e9] at h3
      exact ⟨_, rfl, q p2 H3 hp2 (so.back S2 hp2) h3⟩

end
end K85

set_option Elab.async false
set_option linter.all false
set_option maxRecDepth 100000
set_option maxHeartbeats 4000000
set_option pp.maxSteps 3000
set_option exponentiation.threshold 500000
namespace K85
open PySem PySem.Spec PyProof.Rows L2 Dr Xv LamX Ps Gn Fm
section
variable {P : Program} {w : World} {K : PySem.W.Frag} {mg : Str → Option Value} {base : Heap}
def sp__is_rule : Sp := fun vs H Q _ => ∃ (x : V) (b : Bool), vs = [x] ∧ RlV H x b ∧ ∀ H', Same H H' → Q (.bl b) H'
theorem ok__is_rule (M : Mod P w K mg base) : FnOk P w K mg base CX0 4 M.f__is_rule M.d__is_rule ["thing"] sp__is_rule := by
  refine M.F__is_rule.ok sc__is_rule (fun vs H Q E h => ?_) (fun cdv A outer s H vs Q E hr h => ?_)
  · obtain ⟨x, b, rfl, _⟩ := h
    rfl
  · obtain ⟨x, b, rfl, hx, q⟩ := h
    refine ⟨_, PSs.nox (C8.pss_cut (ps_if (PW.pt (pw_or (pt_not (pt_val (pe_callB call_isi (by rfl) M.isinstance0 boot_isinstance (pa_cons (pv 0) (pa_cons (pe_bltn (v := .ty "tuple") rfl M.tuple0 (by decide +kernel) rfl) pa_nil))))) (pw_or1 (pt_cmpR op_ne (pe_callB call_len (by rfl) M.len0 PySem.boot_len (pa_cons (pv 0) pa_nil)) pe_int (nomark _))))) 
        (pss_one (ps_ret pe_bl)) pss_nil)
      (pss_cons (ps_asg (pv 0) (pg_tup rfl (pgs_cons (pg_name (i := 1) sc__is_rule.nd rfl (Or.inr rfl)) (pgs_cons (pg_name (i := 2) sc__is_rule.nd rfl (Or.inl rfl)) (pgs_cons (pg_name (i := 3) sc__is_rule.nd rfl (Or.inl rfl)) pgs_nil)))))
      (C8.pss_cut (ps_if (PW.pt (pw_or (pt_not (pt_val (pe_call (ok_is_within M) (hr.mono (by decide)) rfl M.g_is_within M.k_is_within M.b_is_within .nil pass0 (pa_cons (pv 1) (pa_cons pe_int (pa_cons (pe_glob (v := .int 24) rfl M.c_GREATEST_MODULUS ⟨_, rfl⟩) pa_nil)))))) (pw_or1 (pt_not (pt_val (pe_call (ok_is_within M) (hr.mono (by decide)) rfl M.g_is_within M.k_is_within M.b_is_within .nil pass0 (pa_cons (pv 3) (pa_cons pe_int (pa_cons (pe_glob (v := .int 9) rfl M.c_GREATEST_LESS ⟨_, rfl⟩) pa_nil))))))))) 
        (pss_one (ps_ret pe_bl)) pss_nil)
      (C8.pss_cut (ps_if (PW.pt (pw_or (pt_not (pt_val (pe_call (ok_is_number_tuple M) (hr.mono (by decide)) rfl M.g_is_number_tuple M.k_is_number_tuple M.b_is_number_tuple .nil pass0 (pa_cons (pv 2) pa_nil)))) (pw_or1 (pt_cmpR op_eq (pe_callB call_len (by rfl) M.len0 PySem.boot_len (pa_cons (pv 2) pa_nil)) pe_int (nomark _))))) 
        (pss_one (ps_ret pe_bl)) pss_nil)
      (C8.pss_cut (ps_if (pt_not (pt_val (pe_callB (cr_all rfl) (by rfl) M.all0 (by decide +kernel) (pa_cons (pe_lc (own := [("rest", 4)]) (g := (gName 4)) (by rfl) sc__is_rule.nd (pi_tup (pv 2)) (blkOk_by (own := [("rest", 4)]) (N := N__is_rule) (sc := defScope s__is_rule) (by decide +kernel))
        (fun _ _ _ _ _ => (pg_name (i := 4) sc__is_rule.nd rfl (Or.inl rfl))) (fun _ _ _ _ _ => pts_nil) (fun _ _ _ _ _ => (pe_chain op_le op_lt pe_int (pv 4) (pv 1)))) pa_nil)))) 
        (pss_one (ps_ret pe_bl)) pss_nil)
      (pss_one (ps_ret (pe_callB (cr_all rfl) (by rfl) M.all0 (by decide +kernel) (pa_cons (pe_lc (own := [("one", 5), ("other", 6)]) (g := (gTup K 2 (gCons (gName 5) (gCons (gName 6) gNil)))) (by rfl) sc__is_rule.nd (RZ.pi_zipA (by rfl) M.zip0 (pa_cons (pv 2) (pa_cons (pe_slice sl_tupA (pv 2) (po_some pe_int) po_none) pa_nil))) (blkOk_by (own := [("one", 5), ("other", 6)]) (N := N__is_rule) (sc := defScope s__is_rule) (by decide +kernel))
        (fun _ _ _ _ _ => (pg_tup rfl (pgs_cons (pg_name (i := 5) sc__is_rule.nd rfl (Or.inl rfl)) (pgs_cons (pg_name (i := 6) sc__is_rule.nd rfl (Or.inl rfl)) pgs_nil)))) (fun _ _ _ _ _ => pts_nil) (fun _ _ _ _ _ => (pe_cmpR op_lt (pv 5) (pv 6) (nomark _)))) pa_nil))))))))), ?_⟩
    refine ⟨fun σ' H' => ∃ (a : Addr) (m r l : V) (o : Option (List V)), σ' = [some (.ref a), none, none, none, none, none, none] ∧ H' = H ∧ H a = some (.tup [m, r, l]) ∧ PV H m ∧ PV H l ∧ Tp H r o ∧ short o ∧ AllPV H o ∧ b = ruleOk m o l, ?_, ?_⟩
    · cases hx with
      | no hx hs hn =>
        rename_i o
        obtain ⟨t, ty, k1⟩ := hx.ty (K := K)
        refine ⟨_, rfl, x, _, t, _, _, rfl, .ty "tuple", ty, k1, _, rfl, ?_⟩
        cases o with
        | none => exact iteT (iteT (q H fun _ _ e => e))
        | some xs =>
          obtain ⟨a, rfl, e⟩ := hx.ref
          refine iteF ⟨_, rfl, _, _, rfl, .inr ⟨_, SqT.of e, rfl⟩, rfl, _, rfl, ?_⟩
          refine iteT' ?_ (q H fun _ _ e => e)
          have := hn xs rfl
          simp only [Bool.not_eq_true', decide_eq_false_iff_not]
          intro z
          injection z with z
          omega
      | tri hx hm hl hr2 hs hp =>
        rename_i m r l o
        obtain ⟨t, ty, k1⟩ := hx.ty (K := K)
        obtain ⟨a, rfl, e⟩ := hx.ref
        refine ⟨_, rfl, _, _, t, _, _, rfl, .ty "tuple", ty, k1, _, rfl, ?_⟩
        refine iteF ⟨_, rfl, _, _, rfl, .inr ⟨_, SqT.of e, rfl⟩, rfl, _, rfl, ?_⟩
        exact iteF ⟨a, m, r, l, o, rfl, rfl, e, hm, hl, hr2, hs, hp, rfl⟩
    · rintro σ' H' ⟨a, m, r, l, o, rfl, rfl, e, hm, hl, hr2, hs, hp, rfl⟩
      refine ⟨_, rfl, a, _, rfl, SqT.of e, rfl, ?_⟩
      refine ⟨_, _, rfl, _, _, rfl, _, _, rfl, rfl, ?_⟩
      show C8.tCut _ _ _ [some (V.ref a), some m, some r, some l, none, none, none] H'
      refine ⟨fun σ2 H2 => ∃ i : Int, σ2 = [some (V.ref a), some m, some r, some l, none, none, none] ∧ H2 = H' ∧ m = .int i ∧ within (.int i) 1 24 = true ∧ within l 1 9 = true, ?_, ?_⟩
      · refine ⟨_, rfl, m, 1, 24, rfl, hm, _, rfl, ?_⟩
        cases hw : within m 1 24 with
        | false =>
          have e2 : ruleOk m o l = false := by
            cases m with
            | int i =>
              show (within (.int i) 1 24 && _) = false
              rw [hw, Bool.false_and]
            | _ => rfl
          refine iteT (iteT ?_)
          show Q (.bl false) H'
          rw [← e2]
          exact q H' fun _ _ e => e
        | true =>
          obtain ⟨i, rfl, i1, i2⟩ := within_int hw
          refine iteF ⟨_, rfl, l, 1, 9, rfl, hl, _, rfl, ?_⟩
          cases hw2 : within l 1 9 with
          | false =>
            have e2 : ruleOk (.int i) o l = false := by
              show (within (.int i) 1 24 && (within l 1 9 && _)) = false
              rw [hw2, Bool.false_and, Bool.and_false]
            refine iteT ?_
            show Q (.bl false) H'
            rw [← e2]
            exact q H' fun _ _ e => e
          | true => exact iteF ⟨i, rfl, rfl, rfl, hw, rfl⟩
      rintro σ2 H2 ⟨i, rfl, rfl, rfl, hw, hw2⟩
      have eR : ruleOk (.int i) o l = resOk o i := by
        show (within (.int i) 1 24 && (within l 1 9 && resOk o i)) = _
        rw [hw, hw2]
        rfl
      rw [eR] at q
      refine ⟨fun σ3 H3 => ∃ (b : Addr) (ns : List Int), σ3 = [some (V.ref a), some (.int i), some (.ref b), some l, none, none, none] ∧ Same H2 H3 ∧ r = .ref b ∧ H3 b = some (.tup (ns.map V.int)) ∧ o = some (ns.map V.int) ∧ ns ≠ [], ?_, ?_⟩
      · refine ⟨_, rfl, r, o, rfl, hr2, hs, hp, fun H3 s3 => ?_⟩
        refine ⟨_, rfl, ?_⟩
        cases hk : itemsOk o with
        | false =>
          have e2 : resOk o i = false := by
            cases o with
            | none => rfl
            | some xs =>
              show (xs.all isNum && _) = false
              rw [show xs.all isNum = false from hk, Bool.false_and]
          refine iteT (iteT ?_)
          show Q (.bl false) H3
          rw [← e2]
          exact q H3 s3
        | true =>
          cases o with
          | none => cases hk
          | some xs =>
            obtain ⟨ns, rfl⟩ := nums_of (xs := xs) hk
            obtain ⟨b, rfl, eb⟩ := hr2.ref
            refine iteF ⟨_, rfl, _, _, rfl, .inr ⟨_, SqT.of (s3 _ _ eb), rfl⟩, rfl, _, rfl, ?_⟩
            rw [List.length_map]
            by_cases c : ns = []
            · subst c
              refine iteT ?_
              exact q H3 s3
            · refine iteF' (decide_eq_false fun z => ?_) ⟨b, ns, rfl, s3, rfl, s3 _ _ eb, rfl, c⟩
              injection z with z
              exact c (List.eq_nil_of_length_eq_zero (by omega))
      rintro σ3 H3 ⟨b, ns, rfl, s3, rfl, e3, rfl, n0⟩
      have eR2 : resOk (some (ns.map V.int)) i = (inR ns i && asc ns) := by
        show ((ns.map V.int).all isNum && (!(ns.map V.int).isEmpty && (inR (numsV (ns.map V.int)) i && asc (numsV (ns.map V.int))))) = _
        rw [all_num, numsV_map]
        cases ns with
        | nil => exact absurd rfl n0
        | cons _ _ => rfl
      rw [eR2] at q
      have nl : (ns.map V.int).length < sizeLine := hs _ rfl
      rw [List.length_map] at nl
      refine ⟨fun σ4 H4 => σ4 = [some (V.ref a), some (.int i), some (.ref b), some l, none, none, none] ∧ Same H2 H4 ∧ H4 b = some (.tup (ns.map V.int)) ∧ inR ns i = true, ?_, ?_⟩
      · refine ⟨_, rfl, b, rfl, ⟨_, SqT.of e3⟩, fun D hD => lc_tup (K := K) (a := b) (xs := ns.map V.int) (fun j H' => H' D = some (.lst ((ns.take j).map fun x => V.bl (decide (0 ≤ x) && decide (x < i)))) ∧ Same H3 H')
          ⟨upd_same, same_new hD⟩ (fun i H' _ ⟨_, s⟩ => SqT.of (s _ _ e3)) ?_ ?_⟩
        · rintro j x H4 hj ⟨h1, s⟩
          obtain ⟨z, hz, rfl⟩ := int_at hj
          refine ⟨rfl, yesT ?_⟩
          have fin : ∀ t : Bool, t = (decide (0 ≤ z) && decide (z < i)) → ∃ acc, H4 D = some (HO.lst acc) ∧ acc.length < sizeLine ∧ upd H4 D (HO.lst (acc ++ [V.bl t])) D = some (HO.lst (List.map (fun x => V.bl (decide (0 ≤ x) && decide (x < i))) (List.take (j + 1) ns))) ∧ Same H3 (upd H4 D (HO.lst (acc ++ [V.bl t]))) := fun t et => by
            refine ⟨_, h1, ?_, ?_, fun b o e => by rw [upd_ne (ne_of_none e hD)]; exact s b o e⟩
            · have := take_len (f := fun x : Int => V.bl (decide (0 ≤ x) && decide (x < i))) (xs := ns) (i := j)
              omega
            · rw [upd_same, et, take_snoc (f := fun x : Int => V.bl (decide (0 ≤ x) && decide (x < i))) hz]
          refine ⟨_, rfl, _, _, rfl, rfl, _, rfl, ?_⟩
          by_cases c : 0 ≤ z
          · refine iteT' (decide_eq_true c) ⟨_, rfl, _, _, rfl, rfl, fin _ ?_⟩
            rw [decide_eq_true c, Bool.true_and]
          · refine iteF' (decide_eq_false c) (fin _ ?_)
            rw [decide_eq_false c, Bool.false_and]
        · rintro H4 ⟨h4, s4⟩
          rw [List.length_map, List.take_length] at h4
          refine ⟨D, ns.map fun x => (decide (0 ≤ x) && decide (x < i)), rfl, ?_, ?_⟩
          · rw [List.map_map]
            exact SqL.of h4
          · have e5 : (ns.map fun x => (decide (0 ≤ x) && decide (x < i))).all id = inR ns i := by
              rw [List.all_map]
              rfl
            rw [e5]
            refine ⟨_, rfl, ?_⟩
            cases hsm : inR ns i with
            | true => exact iteF ⟨rfl, s3.trans s4, s4 _ _ e3, rfl⟩
            | false =>
              refine iteT ?_
              show Q (.bl false) H4
              rw [hsm, Bool.false_and] at q
              exact q H4 (s3.trans s4)
      rintro σ4 H4 ⟨rfl, s4, e4, hsm⟩
      rw [hsm, Bool.true_and] at q
      obtain ⟨n, en⟩ : ∃ n, ns.length = n + 1 := ⟨ns.length - 1, by
        have := List.length_pos_iff.mpr n0
        omega⟩
      refine ⟨_, rfl, _, rfl, 1, rfl, b, _, rfl, SqT.of e4, fun hw => ?_, fun hw p hp => ?_⟩
      · exfalso
        have z : HT.sIx (ns.map V.int).length 0 (some ((1 : Nat) : Int)) = 0 := hw.1
        rw [HT.sIx_nat, List.length_map] at z
        omega
      have s5 := same_new (o := .tup (cutV (ns.map V.int) (some 1) none)) hp
      have e5 : (upd H4 p (.tup (cutV (ns.map V.int) (some 1) none))) p = some (.tup ((ns.drop 1).map V.int)) := by
        rw [upd_same]
        congr 2
        exact cut_tail (i := 1)
      have e6 := s5 _ _ e4
      generalize upd H4 p (.tup (cutV (ns.map V.int) (some 1) none)) = H5 at s5 e5 e6 ⊢
      refine ⟨b, p, _, _, rfl, .inr ⟨SqT.of e6, SqT.of e5, fun D hD => lc_it (walk_zipT (n := n) (by rw [List.length_map, List.length_map, List.length_drop]; omega)) (fun i H' => H' D = some (.lst (((List.zip ns (ns.drop 1)).take i).map fun p => V.bl (decide (p.1 < p.2)))) ∧ Same H5 H') ⟨upd_same, same_new hD⟩ (fun i H' _ ⟨_, s⟩ => ⟨SqT.of (s _ _ e6), SqT.of (s _ _ e5)⟩) ?_ ?_⟩⟩
      · rintro j x H6 H7 hj ⟨h4, s6⟩ ⟨T, y, z, rfl, hT, rfl, hy, hz⟩
        have i1 : j < ns.length := by omega
        have i2 : j + 1 < ns.length := by omega
        have g1 : y = .int ns[j] := by
          have w : (ns.map V.int)[j]? = some y := hy
          rw [List.getElem?_map, List.getElem?_eq_getElem i1] at w
          exact (Option.some.inj w).symm
        have g2 : z = .int ns[j + 1] := by
          have w : ((ns.drop 1).map V.int)[j]? = some z := hz
          rw [List.getElem?_map, List.getElem?_drop, Nat.add_comm 1 j, List.getElem?_eq_getElem i2] at w
          exact (Option.some.inj w).symm
        subst g1 g2
        have ez : (List.zip ns (ns.drop 1))[j]? = some (ns[j], ns[j + 1]) := by
          rw [List.getElem?_zip_eq_some]
          refine ⟨List.getElem?_eq_getElem i1, ?_⟩
          rw [List.getElem?_drop, Nat.add_comm 1 j, List.getElem?_eq_getElem i2]
        have sT := same_new (o := .tup [.int ns[j], .int ns[j + 1]]) hT
        refine ⟨T, _, rfl, SqT.of upd_same, rfl, _, _, rfl, _, _, rfl, rfl, rfl, yesT ?_⟩
        refine ⟨_, rfl, _, rfl, _, _, rfl, rfl, _, sT _ _ h4, ?_, ?_, fun b o e => ?_⟩
        · have := take_len (f := fun p : Int × Int => V.bl (decide (p.1 < p.2))) (xs := List.zip ns (ns.drop 1)) (i := j)
          rw [List.length_zip] at this
          omega
        · rw [upd_same]
          have := take_snoc (f := fun p : Int × Int => V.bl (decide (p.1 < p.2))) ez
          rw [← this]
        · rw [upd_ne (ne_of_none e hD)]
          exact sT _ _ (s6 _ _ e)
      · rintro H6 ⟨h4, s6⟩
        have el : (List.zip ns (ns.drop 1)).length = n := by
          rw [List.length_zip, List.length_drop]
          omega
        rw [List.take_of_length_le (by omega)] at h4
        refine ⟨D, (List.zip ns (ns.drop 1)).map fun p => decide (p.1 < p.2), rfl, ?_, ?_⟩
        · rw [List.map_map]
          exact SqL.of h4
        · have pl : ((List.zip ns (ns.drop 1)).map fun p => decide (p.1 < p.2)).all id = asc ns := by
            rw [List.all_map]
            rfl
          rw [pl]
          exact q _ (s4.trans (s5.trans s6))
def sp_is_family : Sp := fun vs H Q _ => ∃ (x : V) (o : Option (List Bool)), vs = [x] ∧ FmV H x o ∧ ∀ H', Same H H' → Q (.bl (fmOk o)) H'
theorem ok_is_family (M : Mod P w K mg base) : FnOk P w K mg base CX0 5 M.f_is_family M.d_is_family ["thing"] sp_is_family := by
  refine M.F_is_family.ok sc_is_family (fun vs H Q E h => ?_) (fun cdv A outer s H vs Q E hr h => ?_)
  · obtain ⟨x, o, rfl, _⟩ := h
    rfl
  · obtain ⟨x, o, rfl, ⟨qo, hi, hsh, hx⟩, q⟩ := h
    have fin : ∀ (xs : List V) (bs : List Bool) (H2 : Hp) (D : Addr) (a : Addr), (xs.length = bs.length) → o = some bs → bs.length ≤ 6 → Same H H2 → H2 D = some (.lst (bs.map V.bl)) → ∃ (a : Addr) (cs : List Bool), [V.ref D] = [V.ref a] ∧ SqL K H2 a (cs.map V.bl) ∧ Q (.bl (cs.all id)) H2 := fun xs bs H2 D a el eo hb s2 hD => by
      refine ⟨D, bs, rfl, SqL.of hD, ?_⟩
      have z := q H2 s2
      rw [eo] at z
      have e2 : fmOk (some bs) = bs.all id := by
        show (decide (bs.length ≤ 6) && bs.all id) = _
        rw [decide_eq_true hb, Bool.true_and]
      rw [e2] at z
      exact z
    have ht : (∃ a xs, x = .ref a ∧ qo = some xs ∧ H a = some (.tup xs)) ∨ (∀ xs, qo = some xs → ∃ a, x = .ref a ∧ H a = some (.lst xs)) := by
      cases hi with
      | tup e => exact .inl ⟨_, _, rfl, rfl, e⟩
      | lst e => exact .inr (fun xs z => ⟨_, rfl, by cases z; exact e⟩)
      | non => exact .inr (fun xs z => nomatch z)
      | bl b => exact .inr (fun xs z => nomatch z)
      | int i => exact .inr (fun xs z => nomatch z)
      | str i => exact .inr (fun xs z => nomatch z)
      | dK e => exact .inr (fun xs z => nomatch z)
    rcases ht with ⟨a, xs, rfl, rfl, e⟩ | ht
    ·
      refine ⟨_, PSs.nox (pss_one (ps_ret (pe_and (pe_callB call_isiT (by rfl) M.isinstance0 boot_isinstance (pa_cons (pv 0) (pa_cons (pe_tup (pa_cons (pe_bltn (v := .ty "list") rfl M.list0 (by decide +kernel) rfl) (pa_cons (pe_bltn (v := .ty "tuple") rfl M.tuple0 (by decide +kernel) rfl) pa_nil))) pa_nil))) (pe_and (pe_cmpR op_le (pe_callB call_len (by rfl) M.len0 PySem.boot_len (pa_cons (pv 0) pa_nil)) (pe_glob (v := .int 6) rfl M.c_MOST_RULES ⟨_, rfl⟩) (nomark _)) (pe_one (pe_callB (cr_all rfl) (by rfl) M.all0 (by decide +kernel) (pa_cons (pe_lc (own := [("rule", 1)]) (g := (gName 1)) (by rfl) sc_is_family.nd (pi_tup (pv 0)) (blkOk_by (own := [("rule", 1)]) (N := N_is_family) (sc := defScope s_is_family) (by decide +kernel))
        (fun _ _ _ _ _ => (pg_name (i := 1) sc_is_family.nd rfl (Or.inl rfl))) (fun _ _ _ _ _ => pts_nil) (fun _ _ _ _ _ => (pe_call (ok__is_rule M) (hr.mono (by decide)) rfl M.g__is_rule M.k__is_rule M.b__is_rule .nil pass0 (pa_cons (pv 1) pa_nil)))) pa_nil))))))), ?_⟩
      refine ⟨_, rfl, (by show 2 ≤ sizeLine; decide), fun tp htp => ?_⟩
      have s1 : Same H (upd H tp (.tup [.ty "list", .ty "tuple"])) := same_new htp
      obtain ⟨t, ty, k1⟩ := isi_seq (K := K) (hi.same s1)
      refine ⟨_, tp, _, t, _, true, rfl, upd_same, .cons (.ty "list") (.cons (.ty "tuple") .nil), ty, k1, true, rfl, ?_⟩
      generalize upd H tp (.tup [.ty "list", .ty "tuple"]) = H1 at s1 ⊢
      obtain ⟨h, _⟩ | ⟨xs2, bs, h, rfl, hel, hb⟩ := hx
      · cases h
      cases h
      replace e := s1 _ _ e
      refine iteT ⟨_, rfl, _, _, rfl, .inr ⟨_, SqT.of e, rfl⟩, _, _, rfl, rfl, _, rfl, ?_⟩
      rw [hel]
      by_cases c : bs.length ≤ 6
      · refine iteT' (decide_eq_true (by omega)) ?_
        refine ⟨_, rfl, a, rfl, ⟨_, SqT.of e⟩, fun D hD => lc_tup (K := K) (a := a) (xs := xs) (fun i H' => H' D = some (.lst ((bs.take i).map V.bl)) ∧ Same H1 H')
          ⟨upd_same, same_new hD⟩ (fun i H' _ ⟨_, s⟩ => SqT.of (s _ _ e)) ?_ ?_⟩
        · rintro i v H' hv ⟨h1, s⟩
          have hi2 := (List.getElem?_eq_some_iff.mp hv).1
          have eb := List.getElem?_eq_getElem (l := bs) (i := i) (by omega)
          refine ⟨rfl, yesT ⟨_, rfl, v, bs[i], rfl, (hb i v _ hv eb).same (s1.trans s), fun H3 s3 => ⟨_, s3 _ _ h1, ?_, ?_, ?_⟩⟩⟩
          · have := take_len (f := V.bl) (xs := bs) (i := i)
            rw [sizeLine_eq]
            omega
          · rw [upd_same, take_snoc eb]
          · exact fun b o e => by rw [upd_ne (ne_of_none e hD)]; exact s3 _ _ (s b o e)
        · rintro H2 ⟨h2, s2⟩
          rw [hel, List.take_length] at h2
          exact fin xs bs H2 D a hel rfl c (s1.trans s2) h2
      · refine iteF' (decide_eq_false (by omega)) ?_
        have z := q H1 s1
        have e2 : fmOk (some bs) = false := by
          show (decide (bs.length ≤ 6) && bs.all id) = false
          rw [decide_eq_false c, Bool.false_and]
        rw [e2] at z
        exact z
    ·
      refine ⟨_, PSs.nox (pss_one (ps_ret (pe_and (pe_callB call_isiT (by rfl) M.isinstance0 boot_isinstance (pa_cons (pv 0) (pa_cons (pe_tup (pa_cons (pe_bltn (v := .ty "list") rfl M.list0 (by decide +kernel) rfl) (pa_cons (pe_bltn (v := .ty "tuple") rfl M.tuple0 (by decide +kernel) rfl) pa_nil))) pa_nil))) (pe_and (pe_cmpR op_le (pe_callB call_len (by rfl) M.len0 PySem.boot_len (pa_cons (pv 0) pa_nil)) (pe_glob (v := .int 6) rfl M.c_MOST_RULES ⟨_, rfl⟩) (nomark _)) (pe_one (pe_callB (cr_all rfl) (by rfl) M.all0 (by decide +kernel) (pa_cons (pe_lc (own := [("rule", 1)]) (g := (gName 1)) (by rfl) sc_is_family.nd (pi_list (pv 0)) (blkOk_by (own := [("rule", 1)]) (N := N_is_family) (sc := defScope s_is_family) (by decide +kernel))
        (fun _ _ _ _ _ => (pg_name (i := 1) sc_is_family.nd rfl (Or.inl rfl))) (fun _ _ _ _ _ => pts_nil) (fun _ _ _ _ _ => (pe_call (ok__is_rule M) (hr.mono (by decide)) rfl M.g__is_rule M.k__is_rule M.b__is_rule .nil pass0 (pa_cons (pv 1) pa_nil)))) pa_nil))))))), ?_⟩
      refine ⟨_, rfl, (by show 2 ≤ sizeLine; decide), fun tp htp => ?_⟩
      have s1 : Same H (upd H tp (.tup [.ty "list", .ty "tuple"])) := same_new htp
      obtain ⟨t, ty, k1⟩ := isi_seq (K := K) (hi.same s1)
      refine ⟨x, tp, _, t, _, qo.isSome, rfl, upd_same, .cons (.ty "list") (.cons (.ty "tuple") .nil), ty, k1, qo.isSome, rfl, ?_⟩
      generalize upd H tp (.tup [.ty "list", .ty "tuple"]) = H1 at s1 ⊢
      obtain ⟨rfl, rfl⟩ | ⟨xs, bs, rfl, rfl, hel, hb⟩ := hx
      · exact iteF (q H1 s1)
      obtain ⟨a, rfl, e⟩ := ht xs rfl
      replace e := s1 _ _ e
      refine iteT ⟨_, rfl, _, _, rfl, .inl ⟨_, SqL.of e, rfl⟩, _, _, rfl, rfl, _, rfl, ?_⟩
      rw [hel]
      by_cases c : bs.length ≤ 6
      · refine iteT' (decide_eq_true (by omega)) ?_
        refine ⟨_, rfl, a, rfl, ⟨_, SqL.of e⟩, fun D hD => lc_list (K := K) (a := a) (xs := xs) (fun i H' => H' D = some (.lst ((bs.take i).map V.bl)) ∧ Same H1 H')
          ⟨upd_same, same_new hD⟩ (fun i H' _ ⟨_, s⟩ => SqL.of (s _ _ e)) ?_ ?_⟩
        · rintro i v H' hv ⟨h1, s⟩
          have hi2 := (List.getElem?_eq_some_iff.mp hv).1
          have eb := List.getElem?_eq_getElem (l := bs) (i := i) (by omega)
          refine ⟨rfl, yesT ⟨_, rfl, v, bs[i], rfl, (hb i v _ hv eb).same (s1.trans s), fun H3 s3 => ⟨_, s3 _ _ h1, ?_, ?_, ?_⟩⟩⟩
          · have := take_len (f := V.bl) (xs := bs) (i := i)
            rw [sizeLine_eq]
            omega
          · rw [upd_same, take_snoc eb]
          · exact fun b o e => by rw [upd_ne (ne_of_none e hD)]; exact s3 _ _ (s b o e)
        · rintro H2 ⟨h2, s2⟩
          rw [hel, List.take_length] at h2
          exact fin xs bs H2 D a hel rfl c (s1.trans s2) h2
      · refine iteF' (decide_eq_false (by omega)) ?_
        have z := q H1 s1
        have e2 : fmOk (some bs) = false := by
          show (decide (bs.length ≤ 6) && bs.all id) = false
          rw [decide_eq_false c, Bool.false_and]
        rw [e2] at z
        exact z
def sp_check_family (cF : Addr) : Sp := fun vs H Q E => ∃ (x : V) (o : Option (List Bool)), vs = [x] ∧ FmV H x o ∧ (fmOk o = false → ∀ H', Same H H' → E (.ref cF) none H') ∧ (fmOk o = true → ∀ H', Same H H' → Q .non H')
theorem ok_check_family (M : Mod P w K mg base) : FnOk P w K mg base (L2.CX P w) 6 M.f_check_family M.d_check_family ["family"] (sp_check_family M.a_BadFamily) := by
  refine M.F_check_family.ok sc_check_family (fun vs H Q E h => ?_) (fun cdv A outer s H vs Q E hr h => ?_)
  · obtain ⟨x, o, rfl, _⟩ := h
    rfl
  · obtain ⟨x, o, rfl, hx, q1, q2⟩ := h
    refine ⟨_, (pss_one (ps_if (pt_not (pt_val (pe_call (ok_is_family M) (hr.mono (by decide)) rfl M.g_is_family M.k_is_family M.b_is_family .nil pass0 (pa_cons (pv 0) pa_nil)))) 
        (pss_one (ps_raise rfl (takes_of rfl rfl rfl rfl) (pmk_own PySem.F.excBase_ValueError M.E_BadFamily.x M.g_BadFamily M.E_BadFamily.k (raises_own M.E_BadFamily.b M.E_BadFamily.t) rfl))) pss_nil)), ?_⟩
    refine ⟨_, rfl, x, o, rfl, hx, fun H1 s1 => ⟨_, rfl, ?_⟩⟩
    cases hk : fmOk o with
    | true => exact iteF (q2 hk H1 s1)
    | false => exact iteT (q1 hk H1 s1)
def sp_bound_of : Sp := fun vs H Q _ => ∃ (a : Addr) (fam : List Rule) (p : Int), vs = [.ref a, .int p] ∧ FamAt H a fam ∧ Good fam ∧ ∀ H', Same H H' → Q (bndV fam p) H'
theorem ok_bound_of (M : Mod P w K mg base) : FnOk P w K mg base CX0 1 M.f_bound_of M.d_bound_of ["family", "part"] sp_bound_of := by
  refine M.F_bound_of.ok sc_bound_of (fun vs H Q E h => ?_) (fun cdv A outer s H vs Q E hr h => ?_)
  · obtain ⟨a, fam, p, rfl, _⟩ := h
    rfl
  · obtain ⟨a, fam, p, rfl, ⟨ts, rs, e, R⟩, G, q⟩ := h
    refine ⟨_, PSs.nox (pss_one (ps_ret (pe_callBK (cr_minD rfl) (by rfl) M.min0 (by decide +kernel) (pa_cons (pe_lc (own := [("modulus", 2), ("residues", 3), ("less", 4)]) (g := (gTup K 3 (gCons (gName 2) (gCons (gName 3) (gCons (gName 4) gNil))))) (by rfl) sc_bound_of.nd (pi_list (pv 0)) (blkOk_by (own := [("modulus", 2), ("residues", 3), ("less", 4)]) (N := N_bound_of) (sc := defScope s_bound_of) (by decide +kernel))
        (fun _ _ _ _ _ => (pg_tup rfl (pgs_cons (pg_name (i := 2) sc_bound_of.nd rfl (Or.inl rfl)) (pgs_cons (pg_name (i := 3) sc_bound_of.nd rfl (Or.inl rfl)) (pgs_cons (pg_name (i := 4) sc_bound_of.nd rfl (Or.inl rfl)) pgs_nil))))) (fun _ _ _ _ _ => (pts_one (pt_cmpR (r := rIn K false) op_in_seq (pe_op op_modN (pv 1) (pv 2)) (pv 3) (by rfl)))) (fun _ _ _ _ _ => (pv 4))) pa_nil) (pk_cons pe_non pk_nil)))), ?_⟩
    refine ⟨_, rfl, a, rfl, ⟨_, SqL.of e⟩, fun D hD => lc_list (K := K) (a := a) (xs := ts.map V.ref) (fun i H' => H' D = some (.lst ((hits (fam.take i) p).map V.int)) ∧ Same H H')
      ⟨upd_same, same_new hD⟩ (fun i H' _ ⟨_, s⟩ => SqL.of (s _ _ e)) ?_ ?_⟩
    · rintro i v H' hv ⟨h1, s⟩
      obtain ⟨t, r, f, rfl, et, er, ef, g1, g2⟩ := R.get hv
      have gf := G.r f (List.mem_of_getElem? ef)
      have hs : hits (fam.take (i + 1)) p = hits (fam.take i) p ++ if f.2.1.contains (p.fmod f.1) then [f.2.2] else [] := by
        unfold hits
        rw [List.take_succ, ef, List.filter_append, List.map_append]
        show _ ++ ([f].filter _).map _ = _
        cases hc : f.2.1.contains (p.fmod f.1) with
        | true => rw [List.filter_cons_of_pos (by exact hc)]; rfl
        | false => rw [List.filter_cons_of_neg (by rw [hc]; exact Bool.false_ne_true)]; rfl
      refine ⟨t, _, rfl, SqT.of (s _ _ g1), rfl, _, _, rfl, _, _, rfl, _, _, rfl, rfl, rfl, ?_⟩
      have hm : f.1 ≠ 0 := by
        have := gf.m1
        omega
      have fl : (f.2.1.map V.int).all flatV = true := by
        rw [List.all_map]
        exact List.all_eq_true.mpr fun _ _ => rfl
      refine ⟨_, rfl, _, rfl, _, _, rfl, rfl, hm, _, rfl, r, _, rfl, .inr (SqT.of (s _ _ g2)), rfl, fl, _, rfl, ?_⟩
      rw [in_ints]
      rw [hs]
      cases hc : f.2.1.contains (p.fmod f.1) with
      | true =>
        refine iteT ⟨_, rfl, _, h1, ?_, ?_, ?_⟩
        · rw [List.length_map, sizeLine_eq]
          have := hits_len (fam := fam.take i) p
          have h6 := G.ln
          rw [List.length_take] at this
          omega
        · rw [upd_same, if_pos rfl, List.map_append]
          rfl
        · exact fun b o e => by rw [upd_ne (ne_of_none e hD)]; exact s b o e
      | false =>
        refine iteF ⟨?_, s⟩
        rw [if_neg Bool.false_ne_true, List.append_nil]
        exact h1
    · rintro H2 ⟨h2, s2⟩
      rw [List.length_map, R.l1, List.take_length] at h2
      refine tn <| ?_
      refine ⟨D, hits fam p, .non, rfl, rfl, SqL.of h2, fun z => ?_, fun m h1 h3 => ?_⟩
      · have w := q H2 s2
        unfold bndV at w
        rw [if_pos (bnd_zero z)] at w
        exact w
      · have w := q H2 s2
        have e1 := bnd_eq h1 h3
        have p1 := (hits_pos G h1).1
        unfold bndV at w
        rw [if_neg (by omega), e1] at w
        exact w

end
end K85

set_option Elab.async false
set_option linter.all false
set_option maxRecDepth 100000
set_option maxHeartbeats 4000000
set_option pp.maxSteps 3000
set_option exponentiation.threshold 500000
namespace K85
open PySem PySem.Spec PyProof.Rows L2 Dr Xv LamX Ps Gn Fm
section
variable {P : Program} {w : World} {K : PySem.W.Frag} {mg : Str → Option Value} {base : Heap}
def sp_bounded_parts : Sp := fun vs H Q _ => ∃ (a : Addr) (fam : List Rule) (n : Int), vs = [.ref a, .int n] ∧ FamAt H a fam ∧ Good fam ∧ ∀ (p : Addr) (H' : Hp), H p = none → Same H H' → H' p = some (.lst ((mates fam n).map V.int)) → Q (.ref p) H'
theorem ok_bounded_parts (M : Mod P w K mg base) : FnOk P w K mg base CX0 2 M.f_bounded_parts M.d_bounded_parts ["family", "n"] sp_bounded_parts := by
  refine M.F_bounded_parts.ok sc_bounded_parts (fun vs H Q E h => ?_) (fun cdv A outer s H vs Q E hr h => ?_)
  · obtain ⟨a, fam, n, rfl, _⟩ := h
    rfl
  · obtain ⟨a, fam, n, rfl, hF, G, q⟩ := h
    refine ⟨_, PSs.nox (pss_cons (ps_set (i := 2) sc_bounded_parts.nd rfl (Or.inl rfl) (pe_callTy cr_range3 (by rfl) M.range0 (by decide +kernel) (pa_cons (pe_glob (v := .int 9) rfl M.c_GREATEST_LESS ⟨_, rfl⟩) (pa_cons pe_int (pa_cons (pe_un un_neg pe_int) pa_nil)))))
      (pss_one (ps_ret (pe_lc (own := [("bound", 3)]) (g := (gName 3)) (by rfl) sc_bounded_parts.nd (pi_rgv (pv 2)) (blkOk_by (own := [("bound", 3)]) (N := N_bounded_parts) (sc := defScope s_bounded_parts) (by decide +kernel))
        (fun _ _ _ _ _ => (pg_name (i := 3) sc_bounded_parts.nd rfl (Or.inl rfl))) (fun _ _ _ _ _ => (pts_one (PW.pt (pw_and (pt_cmpR op_eq (pe_op op_modN (pv 1) (pv 3)) pe_int (nomark _)) (pw_and1 (pt_cmpR op_eq (pe_call (ok_bound_of M) (hr.mono (by decide)) rfl M.g_bound_of M.k_bound_of M.b_bound_of .nil pass0 (pa_cons (pv 0) (pa_cons (pe_op op_fdivB (pv 1) (pv 3)) pa_nil))) (pv 3) (nomark _))))))) (fun _ _ _ _ _ => (pe_op op_fdivB (pv 1) (pv 3))))))), ?_⟩
    refine ⟨_, rfl, 9, 0, -1, rfl, by decide, by decide, fun p0 h0 => ?_⟩
    have s0 := same_new (o := RgX p0 9 0 (-1)) h0
    have e0 : (upd H p0 (RgX p0 9 0 (-1))) p0 = some (RgX p0 9 0 (-1)) := upd_same
    generalize upd H p0 (RgX p0 9 0 (-1)) = H1 at s0 e0 ⊢
    have hF1 := hF.same s0
    refine ⟨_, rfl, p0, 9, 0, -1, 9, rfl, e0, RgC.neg (by decide) (by decide) (by decide) (by decide), fun D hD => lc_it (walk_rangeC (lo := 9) (c := -1) (n := 9)) (fun i H' => H' D = some (.lst ((((nines.take i).filter (mTest fam n)).map fun b => n.fdiv b).map V.int)) ∧ Same H1 H') ⟨upd_same, same_new hD⟩ (fun _ _ _ _ => trivial) ?_ ?_⟩
    · rintro i v H2 H3 hi ⟨h1, s⟩ ⟨rfl, rfl⟩
      have hz := nines_at hi
      obtain ⟨z, ez⟩ : ∃ z : Int, z = 9 + (i : Int) * (-1) := ⟨_, rfl⟩
      rw [← ez] at hz
      have z1 : 1 ≤ z ∧ z ≤ 9 := by omega
      have cd : CDivB n z := ⟨by omega, log_small2 (n := z.toNat) (by omega) |> fun h => by
        have e : ((z.toNat : Nat) : Int) = z := by omega
        rwa [e] at h⟩
      show gName 3 (V.int (9 + (i : Int) * (-1))) _ _ _
      rw [← ez]
      refine ⟨rfl, ?_⟩
      have et := mates_take (fam := fam) (n := n) hz
      have no : mTest fam n z = false → H3 D = some (HO.lst (List.map V.int (List.map (fun b => n.fdiv b) (List.filter (mTest fam n) (List.take (i + 1) nines))))) ∧ Same H1 H3 := fun hc => by
        rw [et, hc, if_neg Bool.false_ne_true, List.append_nil]
        exact ⟨h1, s⟩
      refine ⟨_, rfl, _, rfl, _, _, rfl, rfl, by omega, rfl, _, rfl, ?_⟩
      by_cases c1 : n.fmod z = 0
      · refine iteT' (decide_eq_true (by show V.int (n.fmod z) = V.int 0; rw [c1])) ?_
        refine ⟨_, rfl, _, rfl, _, rfl, _, _, rfl, rfl, cd, a, fam, n.fdiv z, rfl, hF1.same s, G, fun H4 s4 => ?_⟩
        have em : mTest fam n z = decide (bnd fam (n.fdiv z) = z) := by
          unfold mTest
          rw [decide_eq_true c1, Bool.true_and]
        refine ⟨_, rfl, scal_bndV fam _ z, _, rfl, ?_⟩
        show (fun b H3 => if b = true then _ else _) (decide (bndV fam (n.fdiv z) = V.int z)) H4
        have e8 := eq_bndV fam (n.fdiv z) z (by omega)
        rw [← em] at e8
        rw [e8]
        cases hc : mTest fam n z with
        | false =>
          refine iteF ?_
          have w := no hc
          exact ⟨s4 _ _ w.1, w.2.trans s4⟩
        | true =>
          refine iteT ⟨_, rfl, _, rfl, _, _, rfl, rfl, cd, _, s4 _ _ h1, ?_, ?_, fun b o e => ?_⟩
          · rw [List.length_map, List.length_map, sizeLine_eq]
            have h5 := List.length_filter_le (mTest fam n) (nines.take i)
            rw [List.length_take] at h5
            have h6 : nines.length = 9 := rfl
            omega
          · rw [upd_same, et, hc, if_pos rfl, List.map_append]
            rfl
          · rw [upd_ne (ne_of_none e hD)]
            exact s4 _ _ (s _ _ e)
      · refine iteF' (decide_eq_false (fun e => c1 (by injection e))) ?_
        refine iteF ?_
        exact no (by unfold mTest; rw [decide_eq_false c1, Bool.false_and])
    · rintro H2 ⟨h2, s2⟩
      exact q D H2 (s0.free hD) (s0.trans s2) h2
def sp_powers_up_to : Sp := fun vs H Q _ => ∃ (a : Addr) (fam : List Rule) (m : Nat), vs = [.ref a, .int (m : Int)] ∧ FamAt H a fam ∧ Good fam ∧ m ≤ 6000 ∧ ∀ (p : Addr) (H' : Hp), H p = none → Same H H' → H' p = some (.lst (rowOf m (pS fam))) → Q (.ref p) H'
theorem ok_powers_up_to (M : Mod P w K mg base) : FnOk P w K mg base CX0 3 M.f_powers_up_to M.d_powers_up_to ["family", "last"] sp_powers_up_to := by
  refine M.F_powers_up_to.ok sc_powers_up_to (fun vs H Q E h => ?_) (fun cdv A outer s H vs Q E hr h => ?_)
  · obtain ⟨a, fam, m, rfl, _⟩ := h
    rfl
  · obtain ⟨a, fam, m, rfl, hF, G, hm, q⟩ := h
    refine ⟨_, PSs.nox (pss_one (ps_ret (pe_lc (own := [("n", 2)]) (g := (gName 2)) (by rfl) sc_powers_up_to.nd (pi_range2 (by rfl) M.range0 (pa_cons pe_int (pa_cons (pe_op op_add (pv 1) pe_int) pa_nil))) (blkOk_by (own := [("n", 2)]) (N := N_powers_up_to) (sc := defScope s_powers_up_to) (by decide +kernel))
        (fun _ _ _ _ _ => (pg_name (i := 2) sc_powers_up_to.nd rfl (Or.inl rfl))) (fun _ _ _ _ _ => pts_nil) (fun _ _ _ _ _ => (pe_op op_sub pe_int (pe_callB (r := rLenK K) call_len (by rfl) M.len0 PySem.boot_len (pa_cons (pe_call (ok_bounded_parts M) (hr.mono (by decide)) rfl M.g_bounded_parts M.k_bounded_parts M.b_bounded_parts .nil pass0 (pa_cons (pv 0) (pa_cons (pv 2) pa_nil))) pa_nil))))))), ?_⟩
    refine ⟨_, rfl, _, _, rfl, rfl, 1, _, rfl, ⟨by decide, by decide, by omega, by omega⟩, fun D hD => lc_range (lo := 1) (n := ((m : Int) + 1 - 1).toNat) (fun i H' => H' D = some (.lst (rowOf i (pS fam))) ∧ Same H H') ⟨by rw [upd_same]; rfl, same_new hD⟩ ?_ ?_⟩
    · rintro i H1 hi ⟨h1, s1⟩
      refine ⟨rfl, yesT ?_⟩
      have en : (1 : Int) + (i : Int) = (i : Int) + 1 := by omega
      refine ⟨_, rfl, _, rfl, a, fam, (i : Int) + 1, (by show [V.ref a, V.int (1 + (i : Int))] = _; rw [en]), hF.same s1, G, fun p H2 hp s2 e2 => ?_⟩
      refine ⟨_, _, rfl, .inl ⟨_, SqL.of e2, rfl⟩, ?_⟩
      refine ⟨_, _, rfl, rfl, _, s2 _ _ h1, ?_, ?_, fun b o e => ?_⟩
      · rw [row_len, sizeLine_eq]
        omega
      · rw [upd_same, row_succ, List.length_map]
        rfl
      · rw [upd_ne (ne_of_none e hD)]
        exact s2 _ _ (s1 _ _ e)
    · rintro H1 ⟨h1, s1⟩
      have e : ((m : Int) + 1 - 1).toNat = m := by omega
      rw [e] at h1
      exact q D H1 hD s1 h1
def sp_family_row (cF cM : Addr) : Sp := fun vs H Q E => ∃ (x y : V) (o : Option (List Bool)), vs = [x, y] ∧ FmV H x o ∧ PV H y ∧ (fmOk o = false → ∀ H', Same H H' → E (.ref cF) none H') ∧ (fmOk o = true → within y 0 3000 = false → ∀ H', Same H H' → E (.ref cM) none H') ∧
  (fmOk o = true → within y 0 3000 = true → ∃ (a : Addr) (fam : List Rule) (m : Nat), x = .ref a ∧ y = .int (m : Int) ∧ FamAt H a fam ∧ Good fam ∧ m ≤ 100 ∧ ∀ (p : Addr) (H' : Hp), H p = none → Same H H' → H' p = some (.lst (rowOf (m + 1) (prA (pS fam) m))) → Q (.ref p) H')
theorem ok_family_row (M : Mod P w K mg base) : FnOk P w K mg base (L2.CX P w) 7 M.f_family_row M.d_family_row ["family", "most"] (sp_family_row M.a_BadFamily M.a_BadMost) := by
  refine M.F_family_row.ok sc_family_row (fun vs H Q E h => ?_) (fun cdv A outer s H vs Q E hr h => ?_)
  · obtain ⟨x, y, o, rfl, _⟩ := h
    rfl
  · obtain ⟨x, y, o, rfl, hx, hy, q1, q2, q3⟩ := h
    refine ⟨_, (pss_cons (ps_expr (pe_call (ok_check_family M) (hr.mono (by decide)) rfl M.g_check_family M.k_check_family M.b_check_family .nil (passes_call (takes_of rfl rfl rfl rfl) (fun _ _ _ _ h => h)) (pa_cons (pv 0) pa_nil)))
      (pss_cons (ps_expr (pe_call (ok_check_most M) (hr.mono (by decide)) rfl M.g_check_most M.k_check_most M.b_check_most .nil (passes_call (takes_of rfl rfl rfl rfl) (fun _ _ _ _ h => h)) (pa_cons (pv 1) pa_nil)))
      (PSs.nox 
      (pss_one (ps_ret (pe_call (ok_row_from_sums M) (hr.mono (by decide)) rfl M.g_row_from_sums M.k_row_from_sums M.b_row_from_sums .nil pass0 (pa_cons (pe_call (ok_sums_over_divisors M) (hr.mono (by decide)) rfl M.g_sums_over_divisors M.k_sums_over_divisors M.b_sums_over_divisors .nil pass0 (pa_cons (pe_call (ok_powers_up_to M) (hr.mono (by decide)) rfl M.g_powers_up_to M.k_powers_up_to M.b_powers_up_to .nil pass0 (pa_cons (pv 0) (pa_cons (pv 1) pa_nil))) (pa_cons (pe_op op_add (pv 1) pe_int) pa_nil))) pa_nil))))))), ?_⟩
    refine ⟨_, rfl, x, o, rfl, hx, fun hk H1 s1 => q1 hk H1 s1, fun hk H1 s1 => ?_⟩
    refine ⟨_, rfl, y, rfl, hy.same s1, fun hw => ?_, fun hw => q2 hk hw H1 s1⟩
    obtain ⟨a, fam, m, rfl, rfl, hF, G, hm, q⟩ := q3 hk hw
    refine ⟨_, rfl, _, rfl, a, fam, m, rfl, hF.same s1, G, by omega, fun p H2 hp s2 e2 => ?_⟩
    have eN : sS (fnL ((List.range m).map (pS fam))) m = sS (pS fam) m := sS_congr m fun i hi => by
      rw [fnL_row, if_pos hi]
    refine ⟨_, rfl, _, _, rfl, rfl, p, _, m + 1, rfl, .inl e2, by omega, by omega, ?_, fun p3 H3 h3 s3 e3 => ?_⟩
    · rw [List.length_map, List.length_range]
      omega
    have e4 : m + 1 - 1 = m := by omega
    rw [e4, eN] at e3
    obtain ⟨B, b0, b1, b2, b3⟩ := row_pow fam m hm
    refine tn <| ⟨p3, m + 1, B, _, _, rfl, e3, by omega, by omega, lg_prA (pS fam) m, prA_zero _ _, b0, b1, b2, b3, fun r H4 h4 s4 e5 => ?_⟩
    exact q r H4 (s1.free (s2.free (s3.free h4))) (s1.trans (s2.trans (s3.trans s4))) e5

def sp__law_bound : Sp := fun vs H Q _ => ∃ (a : Addr) (fam : List Rule) (p : Int), vs = [.ref a, .int p] ∧ FamAt H a fam ∧ Good fam ∧ ∀ H', Same H H' → Q (.int (bnd fam p)) H'
theorem ok__law_bound (M : Mod P w K mg base) : FnOk P w K mg base CX0 1 M.f__law_bound M.d__law_bound ["family", "part"] sp__law_bound := by
  refine M.F__law_bound.ok sc__law_bound (fun vs H Q E h => ?_) (fun cdv A outer s H vs Q E hr h => ?_)
  · obtain ⟨a, fam, p, rfl, _⟩ := h
    rfl
  · obtain ⟨a, fam, p, rfl, ⟨ts, rs, e, R⟩, G, q⟩ := h
    refine ⟨_, PSs.nox (pss_cons (ps_setLc (i := 2) (own := [("modulus", 3), ("residues", 4), ("less", 5)]) (g := (gTup K 3 (gCons (gName 3) (gCons (gName 4) (gCons (gName 5) gNil))))) (by rfl) sc__law_bound.nd rfl rfl (sw_true rfl rfl rfl (by decide +kernel)) (pi_list (pv 0)) (blkOk_by (own := [("modulus", 3), ("residues", 4), ("less", 5)]) (N := N__law_bound) (sc := defScope s__law_bound) (by decide +kernel))
        (fun _ _ _ _ _ => (pg_tup rfl (pgs_cons (pg_name (i := 3) sc__law_bound.nd rfl (Or.inl rfl)) (pgs_cons (pg_name (i := 4) sc__law_bound.nd rfl (Or.inl rfl)) (pgs_cons (pg_name (i := 5) sc__law_bound.nd rfl (Or.inl rfl)) pgs_nil))))) (fun _ _ _ _ _ => (pts_one (pt_cmpR (r := rIn K false) op_in_seq (pe_op op_modN (pv 1) (pv 3)) (pv 4) (by rfl)))) (fun _ _ _ _ _ => (pv 5)))
      (pss_one (ps_ret (pe_ifExp (pt_cmpR (op_neD hr.units) (pv 2) (pe_lst pa_nil) (nomark _)) (pe_callB (cr_min rfl) (by rfl) M.min0 (by decide +kernel) (pa_cons (pv 2) pa_nil)) pe_int)))), ?_⟩
    refine ⟨_, rfl, a, rfl, ⟨_, SqL.of e⟩, fun D hD => lc_list (K := K) (a := a) (xs := ts.map V.ref) (fun i H' => H' D = some (.lst ((hits (fam.take i) p).map V.int)) ∧ Same H H')
      ⟨upd_same, same_new hD⟩ (fun i H' _ ⟨_, s⟩ => SqL.of (s _ _ e)) ?_ ?_⟩
    · rintro i v H' hv ⟨h1, s⟩
      obtain ⟨t, r, f, rfl, et, er, ef, g1, g2⟩ := R.get hv
      have gf := G.r f (List.mem_of_getElem? ef)
      have hs : hits (fam.take (i + 1)) p = hits (fam.take i) p ++ if f.2.1.contains (p.fmod f.1) then [f.2.2] else [] := by
        unfold hits
        rw [List.take_succ, ef, List.filter_append, List.map_append]
        show _ ++ ([f].filter _).map _ = _
        cases hc : f.2.1.contains (p.fmod f.1) with
        | true => rw [List.filter_cons_of_pos (by exact hc)]; rfl
        | false => rw [List.filter_cons_of_neg (by rw [hc]; exact Bool.false_ne_true)]; rfl
      refine ⟨t, _, rfl, SqT.of (s _ _ g1), rfl, _, _, rfl, _, _, rfl, _, _, rfl, rfl, rfl, ?_⟩
      have hm : f.1 ≠ 0 := by
        have := gf.m1
        omega
      have fl : (f.2.1.map V.int).all flatV = true := by
        rw [List.all_map]
        exact List.all_eq_true.mpr fun _ _ => rfl
      refine ⟨_, rfl, _, rfl, _, _, rfl, rfl, hm, _, rfl, r, _, rfl, .inr (SqT.of (s _ _ g2)), rfl, fl, _, rfl, ?_⟩
      rw [in_ints]
      rw [hs]
      cases hc : f.2.1.contains (p.fmod f.1) with
      | true =>
        refine iteT ⟨_, rfl, _, h1, ?_, ?_, ?_⟩
        · rw [List.length_map, sizeLine_eq]
          have := hits_len (fam := fam.take i) p
          have h6 := G.ln
          rw [List.length_take] at this
          omega
        · rw [upd_same, if_pos rfl, List.map_append]
          rfl
        · exact fun b o e => by rw [upd_ne (ne_of_none e hD)]; exact s b o e
      | false =>
        refine iteF ⟨?_, s⟩
        rw [if_neg Bool.false_ne_true, List.append_nil]
        exact h1
    · rintro H2 ⟨h2, s2⟩
      rw [List.length_map, R.l1, List.take_length] at h2
      refine ⟨_, rfl, (by show 0 ≤ sizeLine; decide), fun y hy => ?_⟩
      have s3 := same_new (o := .lst []) hy
      have e3 : (upd H2 y (.lst [])) y = some (.lst (List.map V.int [])) := upd_same
      have e4 := s3 _ _ h2
      generalize upd H2 y (.lst []) = H3 at s3 e3 e4 ⊢
      refine ⟨.list (intsD (hits fam p)), .list (intsD []), .lst (SqL.of e4) (ints_dp _), .lst (SqL.of e3) (ints_dp _), ints_shaped _, ints_shaped _, _, rfl, ?_⟩
      rw [ints_ne]
      have w := q H3 (s2.trans s3)
      by_cases c : hits fam p = []
      · rw [bnd_zero c] at w
        exact iteF' (decide_eq_false (fun h => h c)) w
      · refine iteT' (decide_eq_true c) ⟨_, rfl, D, hits fam p, rfl, SqL.of e4, List.length_pos_iff.mpr c, fun m h1 h3 => ?_⟩
        rw [bnd_eq h1 h3] at w
        exact w
end
end K85

set_option Elab.async false
set_option linter.all false
set_option maxRecDepth 100000
set_option maxHeartbeats 4000000
set_option pp.maxSteps 3000
set_option exponentiation.threshold 500000
namespace K85
open PySem PySem.Spec PyProof.Rows L2 Dr Xv LamX Ps Gn Fm
section
variable {P : Program} {w : World} {K : PySem.W.Frag} {mg : Str → Option Value} {base : Heap}
def sp_lcm_of : Sp := fun vs H Q _ => ∃ (a : Addr) (ns : List Int), vs = [.ref a] ∧ H a = some (.lst (ns.map V.int)) ∧ (∀ x ∈ ns, 1 ≤ x ∧ x ≤ ((24 : Nat) : Int)) ∧ ns.length ≤ 6 ∧ Q (.int (lcmL ns : Int)) H
theorem ok_lcm_of (M : Mod P w K mg base) : FnOk P w K mg base CX0 1 M.f_lcm_of M.d_lcm_of ["numbers"] sp_lcm_of := by
  refine M.F_lcm_of.ok sc_lcm_of (fun vs H Q E h => ?_) (fun cdv A outer s H vs Q E hr h => ?_)
  · obtain ⟨a, ns, rfl, _⟩ := h
    rfl
  · obtain ⟨a, ns, rfl, e, hb, hl, q⟩ := h
    refine ⟨_, PSs.nox (pss_cons (ps_set (i := 1) sc_lcm_of.nd rfl (Or.inl rfl) pe_int)
      (pss_cons (ps_for PassesOwn.never rfl (pi_list (pv 0)) (pg_name (i := 2) sc_lcm_of.nd rfl (Or.inl rfl)) 
        (pss_one (ps_set (i := 1) sc_lcm_of.nd rfl (Or.inl rfl) (pe_callBfun cr_lcm rfl M.i_lcm (pa_cons (pv 1) (pa_cons (pv 2) pa_nil))))))
      (pss_one (ps_ret (pv 1))))), ?_⟩
    refine ⟨_, rfl, a, rfl, ⟨_, SqL.of e⟩, for_list (K := K) (a := a) (xs := ns.map V.int) (fun i σ H' => ∃ x, σ = [some (.ref a), some (.int (lcmL (ns.take i) : Int)), x] ∧ H' = H) ⟨_, rfl, rfl⟩ (fun i σ H' _ ⟨_, _, z⟩ => by rw [z]; exact SqL.of e) ?_ ?_⟩
    · rintro i x σ H1 hi ⟨x2, rfl, rfl⟩
      obtain ⟨z, hz, rfl⟩ := int_at hi
      have zb := hb z (List.mem_of_getElem? hz)
      have et : ns.take (i + 1) = ns.take i ++ [z] := by
        rw [List.take_succ, hz]
        rfl
      have h1 := lcm24 (ns := ns.take i) (fun x hx => hb x (List.mem_of_mem_take hx)) (by rw [List.length_take]; omega)
      refine ⟨_, rfl, _, rfl, lcmL (ns.take i), z.natAbs, ?_, ?_, ?_, some (.int z), ?_, rfl⟩
      · have e2 : ((z.natAbs : Nat) : Int) = z := by omega
        rw [e2]
      · have : (191102976 : Nat) < 2 ^ 64 := by decide
        omega
      · have : (24 : Nat) < 2 ^ 64 := by decide
        omega
      · rw [et, lcmL_snoc]
        rfl
    · rintro σ H1 ⟨x2, rfl, rfl⟩
      rw [List.length_map, List.take_length]
      exact ⟨_, rfl, q⟩
def sp_period_of : Sp := fun vs H Q _ => ∃ (a : Addr) (fam : List Rule), vs = [.ref a] ∧ FamAt H a fam ∧ Good fam ∧ ∀ H', Same H H' → Q (.int (per fam : Int)) H'
theorem ok_period_of (M : Mod P w K mg base) : FnOk P w K mg base CX0 2 M.f_period_of M.d_period_of ["family"] sp_period_of := by
  refine M.F_period_of.ok sc_period_of (fun vs H Q E h => ?_) (fun cdv A outer s H vs Q E hr h => ?_)
  · obtain ⟨a, fam, rfl, _⟩ := h
    rfl
  · obtain ⟨a, fam, rfl, ⟨ts, rs, e, R⟩, G, q⟩ := h
    refine ⟨_, PSs.nox (pss_one (ps_ret (pe_op op_mul (pe_call (ok_lcm_of M) (hr.mono (by decide)) rfl M.g_lcm_of M.k_lcm_of M.b_lcm_of .nil pass0 (pa_cons (pe_lc (own := [("modulus", 1), ("_", 2)]) (g := (gTup K 3 (gCons (gName 1) (gCons (gName 2) (gCons (gName 2) gNil))))) (by rfl) sc_period_of.nd (pi_list (pv 0)) (blkOk_by (own := [("modulus", 1), ("_", 2)]) (N := N_period_of) (sc := defScope s_period_of) (by decide +kernel))
        (fun _ _ _ _ _ => (pg_tup rfl (pgs_cons (pg_name (i := 1) sc_period_of.nd rfl (Or.inl rfl)) (pgs_cons (pg_name (i := 2) sc_period_of.nd rfl (Or.inl rfl)) (pgs_cons (pg_name (i := 2) sc_period_of.nd rfl (Or.inl rfl)) pgs_nil))))) (fun _ _ _ _ _ => pts_nil) (fun _ _ _ _ _ => (pv 1))) pa_nil)) (pe_call (ok_lcm_of M) (hr.mono (by decide)) rfl M.g_lcm_of M.k_lcm_of M.b_lcm_of .nil pass0 (pa_cons (pe_lc (own := [("_", 2), ("less", 3)]) (g := (gTup K 3 (gCons (gName 2) (gCons (gName 2) (gCons (gName 3) gNil))))) (by rfl) sc_period_of.nd (pi_list (pv 0)) (blkOk_by (own := [("_", 2), ("less", 3)]) (N := N_period_of) (sc := defScope s_period_of) (by decide +kernel))
        (fun _ _ _ _ _ => (pg_tup rfl (pgs_cons (pg_name (i := 2) sc_period_of.nd rfl (Or.inl rfl)) (pgs_cons (pg_name (i := 2) sc_period_of.nd rfl (Or.inl rfl)) (pgs_cons (pg_name (i := 3) sc_period_of.nd rfl (Or.inl rfl)) pgs_nil))))) (fun _ _ _ _ _ => pts_nil) (fun _ _ _ _ _ => (pv 3))) pa_nil))))), ?_⟩
    have ln := G.ln
    refine ⟨_, rfl, a, rfl, ⟨_, SqL.of e⟩, fun D hD => lc_list (K := K) (a := a) (xs := ts.map V.ref) (fun i H' => H' D = some (.lst ((mods (fam.take i)).map V.int)) ∧ Same H H')
      ⟨upd_same, same_new hD⟩ (fun i H' _ ⟨_, s⟩ => SqL.of (s _ _ e)) ?_ ?_⟩
    · rintro i v H' hv ⟨h1, s⟩
      obtain ⟨t, r, f, rfl, et, er, ef, g1, g2⟩ := R.get hv
      refine ⟨t, _, rfl, SqT.of (s _ _ g1), rfl, _, _, rfl, _, _, rfl, _, _, rfl, rfl, rfl, yesT ⟨_, rfl, _, h1, ?_, ?_, ?_⟩⟩
      · unfold mods
        rw [List.length_map, List.length_map, List.length_take, sizeLine_eq]
        omega
      · unfold mods
        rw [upd_same, List.take_succ, ef, List.map_append, List.map_append]
        rfl
      · exact fun b o e => by rw [upd_ne (ne_of_none e hD)]; exact s b o e
    rintro H1 ⟨h1, s1⟩
    rw [List.length_map, R.l1, List.take_length] at h1
    refine tn <| ⟨D, mods fam, rfl, h1, mods_b G, by rw [mods, List.length_map]; exact ln, ?_⟩
    refine ⟨_, rfl, a, rfl, ⟨_, SqL.of (s1 _ _ e)⟩, fun D2 hD2 => lc_list (K := K) (a := a) (xs := ts.map V.ref) (fun i H' => H' D2 = some (.lst ((less (fam.take i)).map V.int)) ∧ Same H1 H')
      ⟨upd_same, same_new hD2⟩ (fun i H' _ ⟨_, s⟩ => SqL.of (s _ _ (s1 _ _ e))) ?_ ?_⟩
    · rintro i v H' hv ⟨h2, s⟩
      obtain ⟨t, r, f, rfl, et, er, ef, g1, g2⟩ := R.get hv
      refine ⟨t, _, rfl, SqT.of (s _ _ (s1 _ _ g1)), rfl, _, _, rfl, _, _, rfl, _, _, rfl, rfl, rfl, yesT ⟨_, rfl, _, h2, ?_, ?_, ?_⟩⟩
      · unfold less
        rw [List.length_map, List.length_map, List.length_take, sizeLine_eq]
        omega
      · unfold less
        rw [upd_same, List.take_succ, ef, List.map_append, List.map_append]
        rfl
      · exact fun b o e => by rw [upd_ne (ne_of_none e hD2)]; exact s b o e
    rintro H2 ⟨h2, s2⟩
    rw [List.length_map, R.l1, List.take_length] at h2
    refine tn <| ⟨D2, less fam, rfl, h2, less_b G, by rw [less, List.length_map]; exact ln, ?_⟩
    have b1 := lcm24 (mods_b G) (by rw [mods, List.length_map]; exact ln)
    refine ⟨_, _, rfl, rfl, .inl ⟨by omega, ?_⟩, ?_⟩
    · have : (191102976 : Int) < 2 ^ 64 := by decide
      omega
    · have w := q H2 (s1.trans s2)
      unfold per at w
      rw [Int.natCast_mul] at w
      exact w
def sp__checked_period (cT : Addr) : Sp := fun vs H Q E => ∃ n : Nat, vs = [.int (n : Int)] ∧ (n ≤ 5040 → Q (.int (n : Int)) H) ∧ (5040 < n → ∀ d H', H d = none → Same H H' → H' d = some (.xd [(("most" : Str), .int 5040)]) → E (.ref cT) (some d) H')
theorem ok__checked_period (M : Mod P w K mg base) : FnOk P w K mg base (L2.CX P w) 3 M.f__checked_period M.d__checked_period ["period"] (sp__checked_period M.a_TooMany) := by
  refine M.F__checked_period.ok sc__checked_period (fun vs H Q E h => ?_) (fun cdv A outer s H vs Q E hr h => ?_)
  · obtain ⟨n, rfl, _⟩ := h
    rfl
  · obtain ⟨n, rfl, q1, q2⟩ := h
    refine ⟨_, (C8.pss_cut (ps_if (pt_cmpR op_gt (pv 0) (pe_glob (v := .int 5040) rfl M.c_LONGEST_PERIOD ⟨_, rfl⟩) (nomark _)) 
        (pss_one (ps_raise rfl (takes_of rfl rfl rfl rfl) (pmk_oex M.U_TooMany.ox M.U_TooMany.iC M.U_TooMany.tI (ok_init_TooMany M) (hr.mono (by decide)) M.bi_TooMany .nil pass0 rfl M.g_TooMany (pa_cons (pe_glob (v := .int 5040) rfl M.c_LONGEST_PERIOD ⟨_, rfl⟩) pa_nil)))) pss_nil)
      (PSs.nox 
      (pss_one (ps_ret (pv 0))))), ?_⟩
    refine ⟨fun σ' H' => σ' = [some (.int (n : Int))] ∧ H' = H ∧ n ≤ 5040, ?_, ?_⟩
    · refine ⟨_, rfl, _, _, rfl, rfl, _, rfl, ?_⟩
      by_cases c : n ≤ 5040
      · exact iteF' (decide_eq_false (by omega)) ⟨rfl, rfl, c⟩
      · exact iteT' (decide_eq_true (by omega)) (mk_init fun d H' h1 h2 h3 => q2 (by omega) d H' h1 h2 h3)
    · rintro σ1 H1 ⟨rfl, rfl, c⟩
      exact ⟨_, rfl, q1 c⟩
def sp_family_powers (cF cT : Addr) : Sp := fun vs H Q E => ∃ (x : V) (o : Option (List Bool)), vs = [x] ∧ FmV H x o ∧ (fmOk o = false → ∀ H', Same H H' → E (.ref cF) none H') ∧
  (fmOk o = true → ∃ (a : Addr) (fam : List Rule), x = .ref a ∧ FamAt H a fam ∧ Good fam ∧ (5040 < per fam → ∀ d H', H d = none → Same H H' → H' d = some (.xd [(("most" : Str), .int 5040)]) → E (.ref cT) (some d) H') ∧
    (per fam ≤ 5040 → ∀ (p : Addr) (H' : Hp), H p = none → Same H H' → H' p = some (.lst (rowOf (per fam) (pS fam))) → Q (.ref p) H'))
theorem ok_family_powers (M : Mod P w K mg base) : FnOk P w K mg base (L2.CX P w) 7 M.f_family_powers M.d_family_powers ["family"] (sp_family_powers M.a_BadFamily M.a_TooMany) := by
  refine M.F_family_powers.ok sc_family_powers (fun vs H Q E h => ?_) (fun cdv A outer s H vs Q E hr h => ?_)
  · obtain ⟨x, o, rfl, _⟩ := h
    rfl
  · obtain ⟨x, o, rfl, hx, q1, q2⟩ := h
    refine ⟨_, (pss_cons (ps_expr (pe_call (ok_check_family M) (hr.mono (by decide)) rfl M.g_check_family M.k_check_family M.b_check_family .nil (passes_call (takes_of rfl rfl rfl rfl) (fun _ _ _ _ h => h)) (pa_cons (pv 0) pa_nil)))
      (pss_one (ps_ret (pe_call (ok_powers_up_to M) (hr.mono (by decide)) rfl M.g_powers_up_to M.k_powers_up_to M.b_powers_up_to .nil pass0 (pa_cons (pv 0) (pa_cons (pe_call (ok__checked_period M) (hr.mono (by decide)) rfl M.g__checked_period M.k__checked_period M.b__checked_period .nil (passes_call (takes_of rfl rfl rfl rfl) (fun _ _ _ _ h => h)) (pa_cons (pe_call (ok_period_of M) (hr.mono (by decide)) rfl M.g_period_of M.k_period_of M.b_period_of .nil pass0 (pa_cons (pv 0) pa_nil)) pa_nil)) pa_nil)))))), ?_⟩
    refine ⟨_, rfl, x, o, rfl, hx, fun hk H1 s1 => q1 hk H1 s1, fun hk H1 s1 => ?_⟩
    obtain ⟨a, fam, rfl, hF, G, k1, k2⟩ := q2 hk
    refine ⟨_, rfl, _, rfl, a, fam, rfl, hF.same s1, G, fun H2 s2 => ?_⟩
    have s12 := s1.trans s2
    refine tn <| ⟨per fam, rfl, fun c => ?_, fun c d H3 h1 s3 h3 => k1 c d H3 (s12.free h1) (s12.trans s3) h3⟩
    refine tn <| ⟨a, fam, per fam, rfl, hF.same s12, G, by omega, fun p H3 hp s3 e3 => k2 c p H3 (s12.free hp) (s12.trans s3) e3⟩
def sp_first_unlike_count (cF cT : Addr) : Sp := fun vs H Q E => ∃ (x y : V) (o u : Option (List Bool)), vs = [x, y] ∧ FmV H x o ∧ FmV H y u ∧ (fmOk o = false → ∀ H', Same H H' → E (.ref cF) none H') ∧ (fmOk o = true → fmOk u = false → ∀ H', Same H H' → E (.ref cF) none H') ∧
  (fmOk o = true → fmOk u = true → ∃ (a b : Addr) (fa fb : List Rule), x = .ref a ∧ y = .ref b ∧ FamAt H a fa ∧ Good fa ∧ FamAt H b fb ∧ Good fb ∧
    (5040 < Nat.lcm (per fa) (per fb) → ∀ d H', H d = none → Same H H' → H' d = some (.xd [(("most" : Str), .int 5040)]) → E (.ref cT) (some d) H') ∧
    (Nat.lcm (per fa) (per fb) ≤ 5040 → ∀ H', Same H H' → Q (dueV (pS fa) (pS fb) (Nat.lcm (per fa) (per fb))) H'))
theorem ok_first_unlike_count (M : Mod P w K mg base) : FnOk P w K mg base (L2.CX P w) 7 M.f_first_unlike_count M.d_first_unlike_count ["one", "other"] (sp_first_unlike_count M.a_BadFamily M.a_TooMany) := by
  refine M.F_first_unlike_count.ok sc_first_unlike_count (fun vs H Q E h => ?_) (fun cdv A outer s H vs Q E hr h => ?_)
  · obtain ⟨x, y, o, u, rfl, _⟩ := h
    rfl
  · obtain ⟨x, y, o, u, rfl, hx, hy, q1, q2, q3⟩ := h
    refine ⟨_, (pss_cons (ps_expr (pe_call (ok_check_family M) (hr.mono (by decide)) rfl M.g_check_family M.k_check_family M.b_check_family .nil (passes_call (takes_of rfl rfl rfl rfl) (fun _ _ _ _ h => h)) (pa_cons (pv 0) pa_nil)))
      (pss_cons (ps_expr (pe_call (ok_check_family M) (hr.mono (by decide)) rfl M.g_check_family M.k_check_family M.b_check_family .nil (passes_call (takes_of rfl rfl rfl rfl) (fun _ _ _ _ h => h)) (pa_cons (pv 1) pa_nil)))
      (pss_cons (ps_set (i := 2) sc_first_unlike_count.nd rfl (Or.inl rfl) (pe_call (ok__checked_period M) (hr.mono (by decide)) rfl M.g__checked_period M.k__checked_period M.b__checked_period .nil (passes_call (takes_of rfl rfl rfl rfl) (fun _ _ _ _ h => h)) (pa_cons (pe_callBfun cr_lcm rfl M.i_lcm (pa_cons (pe_call (ok_period_of M) (hr.mono (by decide)) rfl M.g_period_of M.k_period_of M.b_period_of .nil pass0 (pa_cons (pv 0) pa_nil)) (pa_cons (pe_call (ok_period_of M) (hr.mono (by decide)) rfl M.g_period_of M.k_period_of M.b_period_of .nil pass0 (pa_cons (pv 1) pa_nil)) pa_nil))) pa_nil)))
      (PSs.nox 
      (pss_cons (ps_for PassesOwn.never rfl (pi_range2 (by rfl) M.range0 (pa_cons pe_int (pa_cons (pe_op op_add (pv 2) pe_int) pa_nil))) (pg_name (i := 3) sc_first_unlike_count.nd rfl (Or.inl rfl)) 
        (pss_one (ps_if (pt_cmpR op_ne (pe_callB call_len (by rfl) M.len0 PySem.boot_len (pa_cons (pe_call (ok_bounded_parts M) (hr.mono (by decide)) rfl M.g_bounded_parts M.k_bounded_parts M.b_bounded_parts .nil pass0 (pa_cons (pv 0) (pa_cons (pv 3) pa_nil))) pa_nil)) (pe_callB call_len (by rfl) M.len0 PySem.boot_len (pa_cons (pe_call (ok_bounded_parts M) (hr.mono (by decide)) rfl M.g_bounded_parts M.k_bounded_parts M.b_bounded_parts .nil pass0 (pa_cons (pv 1) (pa_cons (pv 3) pa_nil))) pa_nil)) (nomark _)) 
          (pss_one (ps_ret (pv 3))) pss_nil)))
      (pss_one (ps_ret pe_non))))))), ?_⟩
    refine ⟨_, rfl, x, o, rfl, hx, fun hk H1 s1 => q1 hk H1 s1, fun hk H1 s1 => ?_⟩
    refine ⟨_, rfl, y, u, rfl, hy.same s1, fun hw H2 s2 => q2 hk hw H2 (s1.trans s2), fun hw H2 s2 => ?_⟩
    obtain ⟨a, b, fa, fb, rfl, rfl, hF, G, hF2, G2, k1, k2⟩ := q3 hk hw
    have s12 := s1.trans s2
    refine ⟨_, rfl, a, fa, rfl, hF.same s12, G, fun H3 s3 => ?_⟩
    have s13 := s12.trans s3
    refine ⟨_, rfl, tn <| ⟨b, fb, rfl, hF2.same s13, G2, fun H4 s4 => ?_⟩⟩
    have s14 := s13.trans s4
    refine tn <| ⟨per fa, per fb, rfl, per_lt G, per_lt G2, ?_⟩
    refine tn <| ⟨Nat.lcm (per fa) (per fb), rfl, fun c => ?_, fun c d H5 h1 s5 h3 => k1 c d H5 (s14.free h1) (s14.trans s5) h3⟩
    refine ⟨_, rfl, _, _, rfl, rfl, 1, _, rfl, ⟨by decide, by decide, by omega, by omega⟩, ?_⟩
    refine for_range (lo := 1) (n := (((Nat.lcm (per fa) (per fb) : Nat) : Int) + 1 - 1).toNat) (fun i σ H' => ∃ x, σ = [some (.ref a), some (.ref b), some (.int ((Nat.lcm (per fa) (per fb) : Nat) : Int)), x] ∧ Same H H' ∧ ∀ j, j < i → pS fa j = pS fb j) ⟨_, rfl, s14, fun j h => absurd h (Nat.not_lt_zero j)⟩ ?_ ?_
    · rintro i σ H5 hi ⟨x, rfl, s5, heq⟩
      have en : (1 : Int) + (i : Int) = (i : Int) + 1 := by omega
      rw [en]
      refine ⟨_, rfl, _, rfl, a, fa, (i : Int) + 1, rfl, hF.same s5, G, fun p H6 hp s6 e6 => ?_⟩
      refine tn <| ⟨_, _, rfl, .inl ⟨_, SqL.of e6, rfl⟩, ?_⟩
      refine ⟨_, rfl, _, rfl, b, fb, (i : Int) + 1, rfl, hF2.same (s5.trans s6), G2, fun p2 H7 hp2 s7 e7 => ?_⟩
      refine tn <| ⟨_, _, rfl, .inl ⟨_, SqL.of e7, rfl⟩, rfl, _, rfl, ?_⟩
      have s57 := s5.trans (s6.trans s7)
      rw [List.length_map, List.length_map]
      by_cases d : pS fa i = pS fb i
      · have d2 : 1 - ((mates fa ((i : Int) + 1)).length : Int) = 1 - ((mates fb ((i : Int) + 1)).length : Int) := d
        have d3 : ((mates fa ((i : Int) + 1)).length : Int) = ((mates fb ((i : Int) + 1)).length : Int) := by omega
        refine iteF' (by rw [d3]; simp) ⟨_, rfl, s57, fun j hj => ?_⟩
        by_cases e : j = i
        · rw [e, d]
        · exact heq j (by omega)
      · have d3 : ((mates fa ((i : Int) + 1)).length : Int) ≠ ((mates fb ((i : Int) + 1)).length : Int) := fun z => d (by
          show 1 - ((mates fa ((i : Int) + 1)).length : Int) = 1 - ((mates fb ((i : Int) + 1)).length : Int)
          rw [z])
        refine iteT' (by
          rw [Bool.not_eq_true', decide_eq_false_iff_not]
          exact fun z => d3 (by injection z)) ?_
        have w := k2 c H7 s57
        unfold dueV at w
        rw [due_some (by omega) heq d] at w
        exact ⟨_, rfl, w⟩
    · rintro σ H5 ⟨x, rfl, s5, heq⟩
      have w := k2 c H5 s5
      unfold dueV at w
      rw [due_none (fun j hj => heq j (by omega))] at w
      exact w

def sp__law_common : Sp := fun vs H Q _ => ∃ a b : Nat, vs = [.int (a : Int), .int (b : Int)] ∧ Q (.int ((Nat.gcd a b : Nat) : Int)) H
theorem ok__law_common (M : Mod P w K mg base) : FnOk P w K mg base CX0 1 M.f__law_common M.d__law_common ["one", "other"] sp__law_common := by
  refine M.F__law_common.ok sc__law_common (fun vs H Q E h => ?_) (fun cdv A outer s H vs Q E hr h => ?_)
  · obtain ⟨a, b, rfl, _⟩ := h
    rfl
  · obtain ⟨a, b, rfl, q⟩ := h
    refine ⟨_, PSs.nox (pss_cons (ps_while PassesOwn.never (pt_cmpR op_ne (pv 1) pe_int (nomark _)) 
        (pss_one (ps_par (i := 0) (j := 1) (by rfl) sc__law_common.nd rfl rfl (by decide) rfl rfl (pa_cons (pv 1) (pa_cons (pe_op op_modN (pv 0) (pv 1)) pa_nil)) (by rfl))))
      (pss_one (ps_ret (pe_callB call_abs (by rfl) M.abs0 boot_abs (pa_cons (pv 0) pa_nil))))), ?_⟩
    refine ⟨fun m σ' H' => ∃ x : Nat, σ' = [some (.int (x : Int)), some (.int (m : Int))] ∧ Nat.gcd x m = Nat.gcd a b ∧ H' = H, ⟨b, a, rfl, rfl, rfl⟩, ?_⟩
    rintro m σ H1 ⟨x, rfl, hg, rfl⟩
    refine ⟨_, rfl, rfl, _, rfl, ?_⟩
    by_cases c : m = 0
    · subst c
      refine iteF' (by simp) ?_
      refine ⟨_, rfl, _, rfl, ?_⟩
      have e : Nat.gcd x 0 = x := Nat.gcd_zero_right x
      rw [e] at hg
      rw [hg]
      exact q
    · refine iteT' (by
        rw [Bool.not_eq_true', decide_eq_false_iff_not]
        exact fun z => c (by injection z with z; omega)) ?_
      have e1 : ((x : Int)).fmod (m : Int) = ((x % m : Nat) : Int) := by
        rw [Int.fmod_eq_emod_of_nonneg _ (by omega)]
        exact (Int.natCast_emod x m).symm
      refine ⟨fun σ' H' => σ' = [some (.int (m : Int)), some (.int ((x % m : Nat) : Int))] ∧ H' = H1, ?_, ?_⟩
      · rintro σ' H' ⟨rfl, rfl⟩
        exact ⟨x % m, Nat.mod_lt _ (by omega), m, rfl, by rw [← hg, Nat.gcd_comm m, ← Nat.gcd_rec, Nat.gcd_comm], rfl⟩
      · refine ⟨_, rfl, _, rfl, _, rfl, _, _, rfl, rfl, by omega, tn <| ⟨_, _, rfl, ?_, rfl⟩⟩
        show [some (V.int (m : Int)), some (V.int (((x : Int)).fmod (m : Int)))] = _
        rw [e1]
def sp__law_multiple : Sp := fun vs H Q _ => ∃ a b : Nat, vs = [.int (a : Int), .int (b : Int)] ∧ 0 < a ∧ a < 2 ^ 64 ∧ b < 2 ^ 64 ∧ Q (.int ((Nat.lcm a b : Nat) : Int)) H
theorem ok__law_multiple (M : Mod P w K mg base) : FnOk P w K mg base CX0 2 M.f__law_multiple M.d__law_multiple ["one", "other"] sp__law_multiple := by
  refine M.F__law_multiple.ok sc__law_multiple (fun vs H Q E h => ?_) (fun cdv A outer s H vs Q E hr h => ?_)
  · obtain ⟨a, b, rfl, _⟩ := h
    rfl
  · obtain ⟨a, b, rfl, a0, ha, hb, q⟩ := h
    refine ⟨_, PSs.nox (pss_one (ps_ret (pe_op op_mul (pe_op op_fdivB (pv 0) (pe_call (ok__law_common M) (hr.mono (by decide)) rfl M.g__law_common M.k__law_common M.b__law_common .nil pass0 (pa_cons (pv 0) (pa_cons (pv 1) pa_nil)))) (pv 1)))), ?_⟩
    have g0 : 0 < Nat.gcd a b := Nat.gcd_pos_of_pos_left _ a0
    have g1 : Nat.gcd a b ≤ a := Nat.le_of_dvd a0 (Nat.gcd_dvd_left a b)
    have e1 : ((a : Int)).fdiv ((Nat.gcd a b : Nat) : Int) = ((a / Nat.gcd a b : Nat) : Int) := by
      rw [Int.fdiv_eq_ediv_of_nonneg _ (by omega)]
      exact (Int.natCast_ediv a _).symm
    have e2 : a / Nat.gcd a b * b = Nat.lcm a b := by
      unfold Nat.lcm
      exact Nat.div_mul_right_comm (Nat.gcd_dvd_left a b) b
    refine ⟨_, rfl, _, rfl, _, rfl, tn <| ⟨a, b, rfl, _, _, rfl, rfl, ⟨by omega, ?_⟩, _, rfl, _, _, rfl, rfl, .inr ⟨by omega, by omega⟩, ?_⟩⟩
    · rw [Int.natAbs_natCast]
      have : (Nat.gcd a b).log2 < 64 := (Nat.log2_lt (by omega)).mpr (by omega)
      omega
    · show Q (V.int (((a : Int)).fdiv ((Nat.gcd a b : Nat) : Int) * (b : Int))) H
      rw [e1, ← Int.natCast_mul, e2]
      exact q
def sp__law_period : Sp := fun vs H Q _ => ∃ (a : Addr) (fam : List Rule), vs = [.ref a] ∧ FamAt H a fam ∧ Good fam ∧ ∀ H', Same H H' → Q (.int (per fam : Int)) H'
theorem ok__law_period (M : Mod P w K mg base) : FnOk P w K mg base CX0 3 M.f__law_period M.d__law_period ["family"] sp__law_period := by
  refine M.F__law_period.ok sc__law_period (fun vs H Q E h => ?_) (fun cdv A outer s H vs Q E hr h => ?_)
  · obtain ⟨a, fam, rfl, _⟩ := h
    rfl
  · obtain ⟨a, fam, rfl, ⟨ts, rs, e, R⟩, G, q⟩ := h
    refine ⟨_, PSs.nox (pss_cons (ps_asg (pe_tup (pa_cons pe_int (pa_cons pe_int pa_nil))) (pg_tup rfl (pgs_cons (pg_name (i := 1) sc__law_period.nd rfl (Or.inl rfl)) (pgs_cons (pg_name (i := 2) sc__law_period.nd rfl (Or.inl rfl)) pgs_nil))))
      (pss_cons (ps_for PassesOwn.never rfl (pi_list (pv 0)) (pg_tup rfl (pgs_cons (pg_name (i := 3) sc__law_period.nd rfl (Or.inl rfl)) (pgs_cons (pg_name (i := 4) sc__law_period.nd rfl (Or.inl rfl)) (pgs_cons (pg_name (i := 5) sc__law_period.nd rfl (Or.inl rfl)) pgs_nil)))) 
        (pss_one (ps_par (i := 1) (j := 2) (by rfl) sc__law_period.nd rfl rfl (by decide) rfl rfl (pa_cons (pe_call (ok__law_multiple M) (hr.mono (by decide)) rfl M.g__law_multiple M.k__law_multiple M.b__law_multiple .nil pass0 (pa_cons (pv 1) (pa_cons (pv 3) pa_nil))) (pa_cons (pe_call (ok__law_multiple M) (hr.mono (by decide)) rfl M.g__law_multiple M.k__law_multiple M.b__law_multiple .nil pass0 (pa_cons (pv 2) (pa_cons (pv 5) pa_nil))) pa_nil)) (by rfl))))
      (pss_one (ps_ret (pe_op op_mul (pv 1) (pv 2)))))), ?_⟩
    have ln := G.ln
    refine ⟨(by show 2 ≤ sizeLine; decide), fun T hT => ⟨T, _, rfl, SqT.of upd_same, rfl, _, _, rfl, _, _, rfl, rfl, ?_⟩⟩
    have s1 := same_new (o := .tup [.int 1, .int 1]) hT
    generalize upd H T (.tup [.int 1, .int 1]) = H1 at s1 ⊢
    refine ⟨_, rfl, a, rfl, ⟨_, SqL.of (s1 _ _ e)⟩, for_list (K := K) (a := a) (xs := ts.map V.ref) (fun i σ H' => ∃ x3 x4 x5, σ = [some (.ref a), some (.int (lcmL (mods (fam.take i)) : Int)), some (.int (lcmL (less (fam.take i)) : Int)), x3, x4, x5] ∧ H' = H1) ⟨_, _, _, rfl, rfl⟩ (fun i σ H' _ ⟨_, _, _, _, z⟩ => by rw [z]; exact SqL.of (s1 _ _ e)) ?_ ?_⟩
    · rintro i v σ H2 hv ⟨x3, x4, x5, rfl, rfl⟩
      obtain ⟨t, r, f, rfl, et, er, ef, g1, g2⟩ := R.get hv
      have g := G.r f (List.mem_of_getElem? ef)
      have em : mods (fam.take (i + 1)) = mods (fam.take i) ++ [f.1] := by
        unfold mods
        rw [List.take_succ, ef, List.map_append]
        rfl
      have el : less (fam.take (i + 1)) = less (fam.take i) ++ [f.2.2] := by
        unfold less
        rw [List.take_succ, ef, List.map_append]
        rfl
      have sub : ∀ f ∈ fam.take i, f ∈ fam := fun f hf => List.mem_of_mem_take hf
      have G' : Good (fam.take i) := ⟨by rw [List.length_take]; omega, fun f hf => G.r f (sub f hf)⟩
      have b1 := lcm24 (mods_b G') (by rw [mods, List.length_map]; exact G'.ln)
      have b2 := lcm24 (less_b G') (by rw [less, List.length_map]; exact G'.ln)
      have p1 := lcmL_pos (ns := mods (fam.take i)) fun x hx => (mods_b G' x hx).1
      have p2 := lcmL_pos (ns := less (fam.take i)) fun x hx => (less_b G' x hx).1
      have bb : (191102976 : Nat) < 2 ^ 64 := by decide
      have b24 : (24 : Nat) < 2 ^ 64 := by decide
      have i1 := g.m1
      have i2 := g.m2
      have i3 := g.l1
      have i4 := g.l2
      refine ⟨t, _, rfl, SqT.of (s1 _ _ g1), rfl, _, _, rfl, _, _, rfl, _, _, rfl, rfl, ?_⟩
      refine ⟨_, rfl, _, rfl, tn <| ⟨lcmL (mods (fam.take i)), f.1.natAbs, ?_, p1, by omega, by omega, ?_⟩⟩
      · have : ((f.1.natAbs : Nat) : Int) = f.1 := by omega
        rw [this]
        rfl
      refine ⟨_, rfl, _, rfl, tn <| ⟨lcmL (less (fam.take i)), f.2.2.natAbs, ?_, p2, by omega, by omega, ?_⟩⟩
      · have : ((f.2.2.natAbs : Nat) : Int) = f.2.2 := by omega
        rw [this]
        rfl
      refine tn <| ⟨_, _, rfl, some (.int f.1), some (.ref r), some (.int f.2.2), ?_, rfl⟩
      rw [em, el, lcmL_snoc, lcmL_snoc]
      rfl
    · rintro σ H2 ⟨x3, x4, x5, rfl, rfl⟩
      rw [List.length_map, R.l1, List.take_length]
      have b1 := lcm24 (mods_b G) (by rw [mods, List.length_map]; exact ln)
      refine ⟨_, rfl, _, rfl, _, _, rfl, rfl, .inl ⟨by omega, ?_⟩, ?_⟩
      · have : (191102976 : Int) < 2 ^ 64 := by decide
        omega
      · have w := q H2 s1
        unfold per at w
        rw [Int.natCast_mul] at w
        exact w
def sp__law_mates : Sp := fun vs H Q _ => ∃ (a : Addr) (fam : List Rule) (n : Int), vs = [.ref a, .int n] ∧ FamAt H a fam ∧ Good fam ∧ ∀ (p : Addr) (H' : Hp), H p = none → Same H H' → H' p = some (.lst ((mates fam n).map V.int)) → Q (.ref p) H'
theorem ok__law_mates (M : Mod P w K mg base) : FnOk P w K mg base CX0 2 M.f__law_mates M.d__law_mates ["family", "n"] sp__law_mates := by
  refine M.F__law_mates.ok sc__law_mates (fun vs H Q E h => ?_) (fun cdv A outer s H vs Q E hr h => ?_)
  · obtain ⟨a, fam, n, rfl, _⟩ := h
    rfl
  · obtain ⟨a, fam, n, rfl, hF1, G, q⟩ := h
    refine ⟨_, PSs.nox (pss_one (ps_ret (pe_lc (own := [("less", 2)]) (g := (gName 2)) (by rfl) sc__law_mates.nd (pi_range3 (by rfl) M.range0 (pa_cons pe_int (pa_cons pe_int (pa_cons (pe_un un_neg pe_int) pa_nil)))) (blkOk_by (own := [("less", 2)]) (N := N__law_mates) (sc := defScope s__law_mates) (by decide +kernel))
        (fun _ _ _ _ _ => (pg_name (i := 2) sc__law_mates.nd rfl (Or.inl rfl))) (fun _ _ _ _ _ => (pts_one (PW.pt (pw_and (pt_cmpR op_eq (pe_op op_modN (pv 1) (pv 2)) pe_int (nomark _)) (pw_and1 (pt_cmpR op_eq (pe_call (ok__law_bound M) (hr.mono (by decide)) rfl M.g__law_bound M.k__law_bound M.b__law_bound .nil pass0 (pa_cons (pv 0) (pa_cons (pe_op op_fdivB (pv 1) (pv 2)) pa_nil))) (pv 2) (nomark _))))))) (fun _ _ _ _ _ => (pe_op op_fdivB (pv 1) (pv 2)))))), ?_⟩
    refine ⟨_, rfl, 9, 0, -1, 9, rfl, RgC.neg (by decide) (by decide) (by decide) (by decide), fun D hD => lc_it (walk_rangeC (lo := 9) (c := -1) (n := 9)) (fun i H' => H' D = some (.lst ((((nines.take i).filter (mTest fam n)).map fun b => n.fdiv b).map V.int)) ∧ Same H H') ⟨upd_same, same_new hD⟩ (fun _ _ _ _ => trivial) ?_ ?_⟩
    · rintro i v H2 H3 hi ⟨h1, s⟩ ⟨rfl, rfl⟩
      have hz := nines_at hi
      obtain ⟨z, ez⟩ : ∃ z : Int, z = 9 + (i : Int) * (-1) := ⟨_, rfl⟩
      rw [← ez] at hz
      have z1 : 1 ≤ z ∧ z ≤ 9 := by omega
      have cd : CDivB n z := ⟨by omega, log_small2 (n := z.toNat) (by omega) |> fun h => by
        have e : ((z.toNat : Nat) : Int) = z := by omega
        rwa [e] at h⟩
      show gName 2 (V.int (9 + (i : Int) * (-1))) _ _ _
      rw [← ez]
      refine ⟨rfl, ?_⟩
      have et := mates_take (fam := fam) (n := n) hz
      have no : mTest fam n z = false → H3 D = some (HO.lst (List.map V.int (List.map (fun b => n.fdiv b) (List.filter (mTest fam n) (List.take (i + 1) nines))))) ∧ Same H H3 := fun hc => by
        rw [et, hc, if_neg Bool.false_ne_true, List.append_nil]
        exact ⟨h1, s⟩
      refine ⟨_, rfl, _, rfl, _, _, rfl, rfl, by omega, rfl, _, rfl, ?_⟩
      by_cases c1 : n.fmod z = 0
      · refine iteT' (decide_eq_true (by show V.int (n.fmod z) = V.int 0; rw [c1])) ?_
        refine ⟨_, rfl, _, rfl, _, rfl, _, _, rfl, rfl, cd, a, fam, n.fdiv z, rfl, hF1.same s, G, fun H4 s4 => ?_⟩
        have em : mTest fam n z = decide (bnd fam (n.fdiv z) = z) := by
          unfold mTest
          rw [decide_eq_true c1, Bool.true_and]
        refine ⟨_, rfl, rfl, _, rfl, ?_⟩
        by_cases c2 : bnd fam (n.fdiv z) = z
        · rw [decide_eq_true c2] at em
          refine iteT' (decide_eq_true (by rw [c2])) ⟨_, rfl, _, rfl, _, _, rfl, rfl, cd, _, s4 _ _ h1, ?_, ?_, fun b o e => ?_⟩
          · rw [List.length_map, List.length_map, sizeLine_eq]
            have h5 := List.length_filter_le (mTest fam n) (nines.take i)
            rw [List.length_take] at h5
            have h6 : nines.length = 9 := rfl
            omega
          · rw [upd_same, et, em, if_pos rfl, List.map_append]
            rfl
          · rw [upd_ne (ne_of_none e hD)]
            exact s4 _ _ (s _ _ e)
        · rw [decide_eq_false c2] at em
          refine iteF' (decide_eq_false (fun h => c2 (by injection h))) ?_
          have w := no em
          exact ⟨s4 _ _ w.1, w.2.trans s4⟩
      · refine iteF' (decide_eq_false (fun e => c1 (by injection e))) ?_
        refine iteF ?_
        exact no (by unfold mTest; rw [decide_eq_false c1, Bool.false_and])
    · rintro H2 ⟨h2, s2⟩
      exact q D H2 hD s2 h2
end
end K85

set_option Elab.async false
set_option linter.all false
set_option maxRecDepth 100000
set_option maxHeartbeats 4000000
set_option pp.maxSteps 3000
set_option exponentiation.threshold 500000
namespace K85
open PySem PySem.Spec PyProof.Rows L2 Dr Xv LamX Ps Gn Fm
section
variable {P : Program} {w : World} {K : PySem.W.Frag} {mg : Str → Option Value} {base : Heap}
def sp_times_of_parts : Sp := fun vs H Q _ => ∃ (a : Addr) (ns : List Int), vs = [.ref a] ∧ H a = some (.tup (ns.map V.int)) ∧ ns.length < sizeLine ∧ ∀ (p : Addr) (H' : Hp) (kvs : List (Key × V)), H p = none → Same H H' → H' p = some (.dK kvs) → TimesOf kvs ns → Q (.ref p) H'
theorem ok_times_of_parts (M : Mod P w K mg base) : FnOk P w K mg base CX0 1 M.f_times_of_parts M.d_times_of_parts ["partition"] sp_times_of_parts := by
  refine M.F_times_of_parts.ok sc_times_of_parts (fun vs H Q E h => ?_) (fun cdv A outer s H vs Q E hr h => ?_)
  · obtain ⟨a, ns, rfl, _⟩ := h
    rfl
  · obtain ⟨a, ns, rfl, e, hl, q⟩ := h
    have hu : (A.deeper (envOfC (Str.ofString "times_of_parts") (defScope s_times_of_parts) s.heap.objs.size M.f_times_of_parts cdv)).units + 1 < cLine := by
      have := hu65 hr
      omega
    refine ⟨_, PSs.nox (pss_cons (ps_set (i := 1) sc_times_of_parts.nd rfl (Or.inl rfl) pe_dnewK)
      (pss_cons (ps_for PassesOwn.never rfl (pi_tup (pv 0)) (pg_name (i := 2) sc_times_of_parts.nd rfl (Or.inl rfl)) 
        (pss_one (ps_dput hu (pv 1) (pv 2) (pe_op op_add (pe_dget2 hu (pv 1) (pv 2) pe_int ⟨rfl, rfl, rfl, rfl⟩) pe_int) rfl)))
      (pss_one (ps_ret (pv 1))))), ?_⟩
    refine fun p hp => ?_
    have s0 := same_new (o := .dK []) hp
    have e0 : (upd H p (.dK [])) p = some (.dK []) := upd_same
    generalize upd H p (.dK []) = H1 at s0 e0 ⊢
    refine ⟨_, rfl, a, rfl, ⟨_, SqT.of (s0 _ _ e)⟩, ?_⟩
    refine for_tup (K := K) (a := a) (xs := ns.map V.int) (fun i σ H' => ∃ x kvs, σ = [some (.ref a), some (.ref p), x] ∧ SameO p H1 H' ∧ H' p = some (.dK kvs) ∧ TimesOf kvs (ns.take i)) ⟨_, [], rfl, .refl, e0, .nil⟩ ?_ ?_ ?_
    · rintro i σ H2 _ ⟨x, kvs, rfl, s2, e2, T⟩
      exact SqT.of (s2 _ _ (s0 _ _ e) (ne_of_none e hp))
    · rintro i x σ H2 hi ⟨x3, kvs, rfl, s2, e2, T⟩
      obtain ⟨z, hz, rfl⟩ := int_at hi
      have et : ns.take (i + 1) = ns.take i ++ [z] := by
        rw [List.take_succ, hz]
        rfl
      have hl2 := T.ln
      rw [List.length_take] at hl2
      refine ⟨_, rfl, p, rfl, .inl ⟨_, .inl e2⟩, _, rfl, valV kvs (kI z), DGet.k (k := kI z) e2, ?_⟩
      refine ⟨_, _, T.getD z, rfl, ?_⟩
      refine ⟨_, rfl, _, rfl, p, _, rfl, DPut.k (k := kI z) e2 (by rw [sizeLine_eq] at hl ⊢; omega), ?_⟩
      refine ⟨_, _, rfl, s2.trans .put, upd_same, ?_⟩
      rw [et]
      exact T.step
    · rintro σ H2 ⟨x, kvs, rfl, s2, e2, T⟩
      rw [List.length_map, List.take_length] at T
      exact ⟨_, rfl, q p H2 kvs hp (s2.back s0 hp) e2 T⟩
def sp_keeps_rules : Sp := fun vs H Q _ => ∃ (a t : Addr) (fam : List Rule) (ns : List Int) (kvs : List (Key × V)), vs = [.ref a, .ref t] ∧ FamAt H a fam ∧ Good fam ∧ H t = some (.dK kvs) ∧ TimesOf kvs ns ∧ ns.length < 1000 ∧ ∀ H', Same H H' → Q (.bl (kp fam ns)) H'
theorem ok_keeps_rules (M : Mod P w K mg base) : FnOk P w K mg base CX0 2 M.f_keeps_rules M.d_keeps_rules ["family", "times"] sp_keeps_rules := by
  refine M.F_keeps_rules.ok sc_keeps_rules (fun vs H Q E h => ?_) (fun cdv A outer s H vs Q E hr h => ?_)
  · obtain ⟨a, t, fam, ns, kvs, rfl, _⟩ := h
    rfl
  · obtain ⟨a, t, fam, ns, kvs, rfl, hF, G, e, T, hl, q⟩ := h
    have hu : (A.deeper (envOfC (Str.ofString "keeps_rules") (defScope s_keeps_rules) s.heap.objs.size M.f_keeps_rules cdv)).units + 1 < cLine := by
      have := hu65 hr
      omega
    refine ⟨_, PSs.nox (pss_cons (ps_set (i := 2) sc_keeps_rules.nd rfl (Or.inr rfl) (pe_lock (pe_dc (own := [("part", 3)]) (g := (gName 3)) (by rfl) sc_keeps_rules.nd (pi_keys (pv 1)) (blkOk_by (own := [("part", 3)]) (N := N_keeps_rules) (sc := defScope s_keeps_rules) (by decide +kernel))
        (fun _ _ _ _ _ => (pg_name (i := 3) sc_keeps_rules.nd rfl (Or.inl rfl))) (fun _ _ _ _ _ => pts_nil) (fun _ _ _ _ _ => (pv 3)) (fun _ _ _ _ _ => (pe_call (ok_bound_of M) (hr.mono (by decide)) rfl M.g_bound_of M.k_bound_of M.b_bound_of .nil pass0 (pa_cons (pv 0) (pa_cons (pv 3) pa_nil)))))))
      (pss_one (ps_ret (pe_callB (cr_all rfl) (by rfl) M.all0 (by decide +kernel) (pa_cons (pe_lock (pe_lc (own := [("part", 3)]) (g := (gName 3)) (by rfl) sc_keeps_rules.nd (pi_keys (pv 1)) (blkOk_by (own := [("part", 3)]) (N := N_keeps_rules) (sc := defScope s_keeps_rules) (by decide +kernel))
        (fun _ _ _ _ _ => (pg_name (i := 3) sc_keeps_rules.nd rfl (Or.inl rfl))) (fun _ _ _ _ _ => pts_nil) (fun _ _ _ _ _ => (pe_or (pe_cmpR op_isN (pe_dget hu (pv 2) (pv 3) (fun _ _ => rfl)) pe_non (nomark _)) (pe_one (pe_cmpR op_lt (pe_dget hu (pv 1) (pv 3) (fun _ _ => rfl)) (pe_dget hu (pv 2) (pv 3) (fun _ _ => rfl)) (nomark _))))))) pa_nil))))), ?_⟩
    have hl2 := T.ln
    refine ⟨t, _, e, trivial, fun od => ?_⟩
    have e1 : (upd H t (.frz od (.dK kvs))) t = some (.frz od (.dK kvs)) := upd_same
    have hF1 : FamAt (upd H t (.frz od (.dK kvs))) a fam := hF.lock e
    have nt : ∀ {o2 : Obj} {H2 : Hp} {D : Addr}, (upd H2 t (.frz o2 (.dK kvs))) D = none → D ≠ t := fun {o2 H2 D} h z => by
      rw [z, upd_same] at h
      cases h
    have ik : ∀ {i : Nat} {k : Key} {v : V}, kvs[i]? = some (k, v) → ∃ p : Int, p ∈ ns ∧ k = kI p ∧ (kvs.take (i + 1)).map (·.1) = (kvs.take i).map (·.1) ++ [kI p] ∧ valV kvs (kI p) = some (.int (ct p ns)) := fun {i k v} h => by
      obtain ⟨p, hp, ek⟩ := T.ks (k, v) (List.mem_of_getElem? h)
      cases ek
      refine ⟨p, hp, rfl, ?_, ?_⟩
      · rw [List.take_succ, h, List.map_append]
        rfl
      · rw [T.at_, if_pos hp]
    refine ⟨_, rfl, t, od, rfl, .inl ⟨kvs, e1, fun D hD => dc_it walk_keys (fun i H' => ∃ bvs, H' D = some (.dK bvs) ∧ BndOf fam bvs ((kvs.take i).map (·.1)) ∧ Same (upd H t (.frz od (.dK kvs))) H') ⟨[], upd_same, ⟨Nat.le_refl _, fun p h => by cases h⟩, same_new hD⟩ (fun i H' _ ⟨_, _, _, s⟩ => s _ _ e1) ?_ ?_⟩⟩
    · rintro i x H2 H3 hi ⟨bvs, h2, B, s2⟩ ⟨rfl, k, v, hk, rfl⟩
      obtain ⟨p, hp, rfl, et, _⟩ := ik hk
      refine ⟨rfl, yesT ⟨_, rfl, _, rfl, _, rfl, a, fam, p, rfl, hF1.same s2, G, fun H4 s4 => ⟨bvs, kI p, rfl, s4 _ _ h2, ?_, ⟨_, upd_same, ?_, fun b o ob => ?_⟩⟩⟩⟩
      · have h5 := B.ln
        rw [List.length_map, List.length_take] at h5
        rw [sizeLine_eq]
        omega
      · rw [et]
        exact B.step
      · rw [upd_ne (ne_of_none ob hD)]
        exact s4 _ _ (s2 _ _ ob)
    rintro H2 ⟨bvs, h2, B, s2⟩
    rw [List.take_length] at B
    have s3 := same_lock e s2
    have nD := nt hD
    have h3 : (upd H2 t (.dK kvs)) D = some (.dK bvs) := by
      rw [upd_ne nD]
      exact h2
    have e3 : (upd H2 t (.dK kvs)) t = some (.dK kvs) := upd_same
    refine ⟨s2 _ _ e1, ?_⟩
    generalize upd H2 t (.dK kvs) = H3 at s3 h3 e3 ⊢
    refine ⟨t, _, e3, trivial, fun od2 => ?_⟩
    have e4 : (upd H3 t (.frz od2 (.dK kvs))) t = some (.frz od2 (.dK kvs)) := upd_same
    have h4 : (upd H3 t (.frz od2 (.dK kvs))) D = some (.dK bvs) := by
      rw [upd_ne nD]
      exact h3
    refine ⟨_, rfl, t, od2, rfl, .inl ⟨kvs, e4, fun D2 hD2 => lc_it walk_keys (fun i H' => H' D2 = some (.lst (((kvs.take i).map fun kv => keyT fam ns kv.1).map V.bl)) ∧ Same (upd H3 t (.frz od2 (.dK kvs))) H') ⟨upd_same, same_new hD2⟩ (fun i H' _ ⟨_, s⟩ => s _ _ e4) ?_ ?_⟩⟩
    · rintro i x H5 H6 hi ⟨h5, s5⟩ ⟨rfl, k, v, hk, rfl⟩
      obtain ⟨p, hp, rfl, et, ev⟩ := ik hk
      have fin : ∀ b : Bool, b = kpT fam ns p → ∃ acc, H6 D2 = some (HO.lst acc) ∧ acc.length < sizeLine ∧ upd H6 D2 (HO.lst (acc ++ [V.bl b])) D2 = some (HO.lst (List.map V.bl (List.map (fun kv => keyT fam ns kv.1) (List.take (i + 1) kvs)))) ∧ Same (upd H3 t (.frz od2 (.dK kvs))) (upd H6 D2 (HO.lst (acc ++ [V.bl b]))) := fun b eb => by
        refine ⟨_, h5, ?_, ?_, fun b o ob => by rw [upd_ne (ne_of_none ob hD2)]; exact s5 _ _ ob⟩
        · rw [List.length_map, List.length_map, List.length_take, sizeLine_eq]
          omega
        · rw [upd_same, List.take_succ, hk, List.map_append, List.map_append, eb]
          rfl
      have gb : DGet H6 D (.int p) (some (bndV fam p)) := by
        have z := DGet.k (k := kI p) (s5 _ _ h4)
        rw [B.at_ p (List.mem_map.mpr ⟨_, List.mem_of_getElem? hk, rfl⟩)] at z
        exact z
      have gt : DGet H6 t (.int p) (some (.int (ct p ns))) := .inl ⟨kvs, kI p, .inr ⟨_, s5 _ _ e4⟩, rfl, ev.symm⟩
      refine ⟨rfl, yesT ⟨_, rfl, _, rfl, D, _, rfl, gb, rfl, _, rfl, ?_⟩⟩
      unfold bndV at gb ⊢
      by_cases c : bnd fam p = 0
      · rw [if_pos c]
        refine iteT (fin _ ?_)
        unfold kpT
        rw [decide_eq_true c]
        rfl
      · rw [if_neg c] at gb ⊢
        refine iteF ⟨_, rfl, _, rfl, t, _, rfl, gt, _, rfl, _, rfl, D, _, rfl, gb, _, _, rfl, rfl, fin _ ?_⟩
        unfold kpT
        rw [decide_eq_false c, Bool.false_or]
    · rintro H5 ⟨h5, s5⟩
      rw [List.take_length] at h5
      have s6 := same_lock e3 s5
      have nD2 := nt hD2
      refine ⟨s5 _ _ e4, ?_⟩
      refine tn <| ⟨D2, kvs.map fun kv => keyT fam ns kv.1, rfl, SqL.of (by rw [upd_ne nD2]; exact h5), ?_⟩
      rw [T.all]
      exact q _ (s3.trans s6)
def sp__part_to_change : Sp := fun vs H Q _ => ∃ (b t : Addr) (other : List Rule) (kvs : List (Key × V)) (ks : List Int) (N : Nat) (x : Pg.X), vs = [.ref b, .ref t] ∧ FamAt H b other ∧ Good other ∧ H t = some (.dK kvs) ∧ Pg.DX kvs ks N x ∧ ks.length < 64 ∧ ∀ v H', Same H H' → Pg.PtC other ks x v → Q v H'
theorem ok__part_to_change (M : Mod P w K mg base) : FnOk P w K mg base CX0 2 M.f__part_to_change M.d__part_to_change ["other", "times"] sp__part_to_change := by
  refine M.F__part_to_change.ok sc__part_to_change (fun vs H Q E h => ?_) (fun cdv A outer s H vs Q E hr h => ?_)
  · obtain ⟨b, t, other, kvs, ks, N, x, rfl, _⟩ := h
    rfl
  · obtain ⟨b, t, other, kvs, ks, N, x, rfl, hF, G, e, D, hN, q⟩ := h
    have hu : (A.deeper (envOfC (Str.ofString "_part_to_change") (defScope s__part_to_change) s.heap.objs.size M.f__part_to_change cdv)).units + 1 < cLine := by
      have := hu65 hr
      omega
    refine ⟨_, PSs.nox (pss_cons (ps_for PassesOwn.never rfl (pi_list (pe_callB (call_sortedDI rfl) (by rfl) M.sorted0 (by decide +kernel) (pa_cons (pv 1) pa_nil))) (pg_name (i := 2) sc__part_to_change.nd rfl (Or.inl rfl)) 
        (pss_cons (ps_set (i := 3) sc__part_to_change.nd rfl (Or.inl rfl) (pe_call (ok_bound_of M) (hr.mono (by decide)) rfl M.g_bound_of M.k_bound_of M.b_bound_of .nil pass0 (pa_cons (pv 0) (pa_cons (pv 2) pa_nil))))
        (pss_one (ps_if (PW.pt (pw_and (pt_cmpR op_notN (pv 3) pe_non (nomark _)) (pw_and1 (pt_cmpR op_ge (pe_dget hu (pv 1) (pv 2) (fun _ _ => rfl)) (pv 3) (nomark _))))) 
          (pss_one (ps_ret (pv 2))) pss_nil))))
      (pss_one (ps_ret pe_non))), ?_⟩
    refine ⟨_, rfl, t, kvs, ks, rfl, .inl e, D.km, by omega, fun ys p hp hd h1 => ?_⟩
    have s1 := same_new (o := .lst (ys.map V.int)) h1
    have e1 : (upd H p (.lst (ys.map V.int))) p = some (.lst (ys.map V.int)) := upd_same
    generalize upd H p (.lst (ys.map V.int)) = H1 at s1 e1 ⊢
    refine ⟨p, rfl, ⟨_, SqL.of e1⟩, for_list (K := K) (a := p) (xs := ys.map V.int) (fun i σ H' => ∃ x2 x3, σ = [some (.ref b), some (.ref t), x2, x3] ∧ Same H1 H' ∧ ∀ p ∈ ys.take i, bnd other p = 0 ∨ (x p : Int) < bnd other p) ⟨_, _, rfl, .refl _, fun p h => by cases h⟩ (fun i σ H' _ ⟨_, _, _, s, _⟩ => SqL.of (s _ _ e1)) ?_ ?_⟩
    · rintro i v σ H2 hv ⟨x2, x3, rfl, s2, ha⟩
      obtain ⟨z, hz, rfl⟩ := int_at hv
      have s12 := s1.trans s2
      have zk : z ∈ ks := hp.mem_iff.mp (List.mem_of_getElem? hz)
      have et : ys.take (i + 1) = ys.take i ++ [z] := by
        rw [List.take_succ, hz]
        rfl
      have next : ∀ H3, Same H2 H3 → (bnd other z = 0 ∨ (x z : Int) < bnd other z) → ∃ x2 x3, [some (.ref b), some (.ref t), some (.int z), some (bndV other z)] = [some (.ref b), some (.ref t), x2, x3] ∧ Same H1 H3 ∧ ∀ p ∈ ys.take (i + 1), bnd other p = 0 ∨ (x p : Int) < bnd other p := fun H3 s3 hz => by
        refine ⟨_, _, rfl, s2.trans s3, fun p hp => ?_⟩
        rw [et] at hp
        rcases List.mem_append.mp hp with h | h
        · exact ha p h
        · rw [List.mem_singleton.mp h]
          exact hz
      refine ⟨_, rfl, _, rfl, tn <| ⟨b, other, z, rfl, hF.same s12, G, fun H3 s3 => ?_⟩⟩
      have e3 := s3 _ _ (s12 _ _ e)
      refine ⟨_, rfl, rfl, ?_⟩
      by_cases c : bnd other z = 0
      · have eb : bndV other z = .non := by
          unfold bndV
          rw [if_pos c]
        have w := next H3 s3 (.inl c)
        rw [eb] at w ⊢
        exact ⟨_, rfl, iteF' (by simp) (iteF w)⟩
      · have eb : bndV other z = .int (bnd other z) := by
          unfold bndV
          rw [if_neg c]
        have w := next H3 s3
        rw [eb] at w ⊢
        refine ⟨_, rfl, iteT' (by simp) ?_⟩
        refine ⟨_, rfl, _, rfl, t, _, rfl, .inl ⟨kvs, kI z, .inl e3, rfl, (D.at_ z zk).symm⟩, _, rfl, _, _, rfl, rfl, ?_⟩
        by_cases c2 : bnd other z ≤ (x z : Int)
        · refine ⟨_, rfl, iteT' (decide_eq_true c2) ?_⟩
          exact ⟨_, rfl, q _ _ (s12.trans s3) (.inl ⟨z, rfl, zk, c, c2⟩)⟩
        · exact ⟨_, rfl, iteF' (decide_eq_false c2) (w (.inr (by omega)))⟩
    · rintro σ H2 ⟨x2, x3, rfl, s2, ha⟩
      rw [List.length_map, List.take_length] at ha
      exact q _ _ (s1.trans s2) (.inr ⟨rfl, fun p hp2 => ha p (hp.mem_iff.mpr hp2)⟩)
def sp__mate_of : Sp := fun vs H Q _ => ∃ (a b : Addr) (one other : List Rule) (i j : Nat), vs = [.ref a, .ref b, .int (i : Int), .int (j : Int)] ∧ FamAt H a one ∧ Good one ∧ FamAt H b other ∧ Good other ∧ Pg.EqF one other ∧ 1 ≤ i ∧ 1 ≤ j ∧ bnd other (i : Int) = (j : Int) ∧ i * j < 10000 ∧ ∀ H', Same H H' → Q (.int (Pg.mateF one other (i : Int))) H'
theorem ok__mate_of (M : Mod P w K mg base) : FnOk P w K mg base CX0 3 M.f__mate_of M.d__mate_of ["one", "other", "part", "bound"] sp__mate_of := by
  refine M.F__mate_of.ok sc__mate_of (fun vs H Q E h => ?_) (fun cdv A outer s H vs Q E hr h => ?_)
  · obtain ⟨a, b, one, other, i, j, rfl, _⟩ := h
    rfl
  · obtain ⟨a, b, one, other, i, j, rfl, hF, G1, hF2, G2, E0, i1, j1, hb, hij, q⟩ := h
    refine ⟨_, PSs.nox (pss_cons (ps_set (i := 4) sc__mate_of.nd rfl (Or.inl rfl) (pe_op op_mul (pv 2) (pv 3)))
      (pss_one (ps_ret (pe_ix ix_list (pe_call (ok_bounded_parts M) (hr.mono (by decide)) rfl M.g_bounded_parts M.k_bounded_parts M.b_bounded_parts .nil pass0 (pa_cons (pv 0) (pa_cons (pv 4) pa_nil))) (pe_bm PySem.F.plainAttrs_list PySem.F.slot_list_index PySem.F.type_list_index mt_index (pe_call (ok_bounded_parts M) (hr.mono (by decide)) rfl M.g_bounded_parts M.k_bounded_parts M.b_bounded_parts .nil pass0 (pa_cons (pv 1) (pa_cons (pv 4) pa_nil))) (pa_cons (pv 2) pa_nil)) (fun _ _ => rfl))))), ?_⟩
    have en : (i : Int) * (j : Int) = ((i * j : Nat) : Int) := (Int.natCast_mul i j).symm
    obtain ⟨k, c, g, e1, e2, em, eg, _, c1, g1, ei⟩ := Pg.mate_at G1 G2 E0 i1 j1 hb
    have i2 : i * 1 ≤ i * j := Nat.mul_le_mul_left _ j1
    have j2 : 1 * j ≤ i * j := Nat.mul_le_mul_right _ i1
    refine ⟨_, rfl, _, rfl, _, _, rfl, rfl, .inl ⟨by omega, by omega⟩, ?_⟩
    refine ⟨_, rfl, _, rfl, a, one, (i : Int) * (j : Int), rfl, hF, G1, fun p1 H1 h1 s1 f1 => ?_⟩
    rw [en] at f1
    refine ⟨_, rfl, _, rfl, tn <| ⟨b, other, (i : Int) * (j : Int), rfl, hF2.same s1, G2, fun p2 H2 h2 s2 f2 => ?_⟩⟩
    rw [en] at f2
    have fl : ((mates other ((i * j : Nat) : Int)).map V.int).all flatV = true := by
      rw [List.all_map]
      exact List.all_eq_true.mpr fun _ _ => rfl
    refine ⟨.inl ⟨rfl, _, SqL.of f2⟩, _, rfl, p2, _, .int (i : Int), k, .int (i : Int), rfl, rfl, SqL.of f2, rfl, fl, by rw [List.getElem?_map, e1]; rfl, by show ((i : Int) == (i : Int)) = true; simp, fun m z' hm hz => ?_, p1, _, (k : Int), .int (c : Int), rfl, rfl, SqL.of (s2 _ _ f1), atI_nat (by rw [List.getElem?_map, e2]; rfl), ?_⟩
    · rw [List.getElem?_map] at hz
      cases e3 : (mates other ((i * j : Nat) : Int))[m]? with
      | none =>
        rw [e3] at hz
        cases hz
      | some z =>
        rw [e3] at hz
        cases hz
        show (z == (i : Int)) = false
        rw [beq_eq_false_iff_ne]
        rintro rfl
        have := List.getElem?_inj (List.getElem?_eq_some_iff.mp e3).1 (Pg.mates_nodup other _) |>.mp (e3.trans e1.symm)
        omega
    · rw [← em]
      exact q _ (s1.trans s2)

end
end K85

set_option Elab.async false
set_option linter.all false
set_option maxRecDepth 100000
set_option maxHeartbeats 4000000
set_option pp.maxSteps 3000
set_option exponentiation.threshold 500000
namespace K85
open PySem PySem.Spec PyProof.Rows L2 Dr Xv LamX Ps Gn Fm
section
variable {P : Program} {w : World} {K : PySem.W.Frag} {mg : Str → Option Value} {base : Heap}
theorem okT_parts {ns : List Int} (h : okT (some (ns.map V.int)) = true) : (∀ x ∈ ns, 1 ≤ x) ∧ (∀ x ∈ ns, x ≤ 1000000) ∧ ns.length ≤ 200 := by
  have h2 : ((ns.map V.int).all isNum && Pt.isPt (numsV (ns.map V.int))) = true := h
  rw [Bool.and_eq_true, numsV_map] at h2
  obtain ⟨p1, p2, p3⟩ := Pt.isPt_par h2.2
  exact ⟨p1.lo, p3, p2⟩
def sp_paired (cF cT cN cP : Addr) : Sp := fun vs H Q E => ∃ (x y z : V) (o u : Option (List Bool)), vs = [x, y, z] ∧ FmV H x o ∧ FmV H y u ∧ (fmOk o = false → ∀ H', Same H H' → E (.ref cF) none H') ∧ (fmOk o = true → fmOk u = false → ∀ H', Same H H' → E (.ref cF) none H') ∧
  (fmOk o = true → fmOk u = true → ∃ (a b : Addr) (one other : List Rule), x = .ref a ∧ y = .ref b ∧ FamAt H a one ∧ Good one ∧ FamAt H b other ∧ Good other ∧ Nat.lcm (per one) (per other) ≤ 5040 ∧
    (dueN (pS one) (pS other) (Nat.lcm (per one) (per other)) ≠ none → ∀ H', Same H H' → E (.ref cN) none H') ∧
    (dueN (pS one) (pS other) (Nat.lcm (per one) (per other)) = none → ∃ pt : Option (List V), Tp H z pt ∧ short pt ∧ AllPV H pt ∧ (okT pt = false → ∀ H', Same H H' → E (.ref cP) none H') ∧
      (okT pt = true → ∃ ns : List Int, pt = some (ns.map V.int) ∧ (kp one ns = false → ∀ H', Same H H' → E (.ref cP) none H') ∧
        (kp one ns = true → (200 < ns.sum → ∀ d H', H d = none → Same H H' → H' d = some (.xd [(("most" : Str), .int 200)]) → E (.ref cT) (some d) H') ∧
          (ns.sum ≤ 200 → ∃ (ys : List Int) (kk : Nat), (Pg.gm one other).Run kk (Pg.ctx ns) (Pg.ctx ys) ∧ ns.length + kk < 64 ∧ Pg.PairR one other ns ys ∧ ∀ (p : Addr) H', H p = none → Same H H' → H' p = some (.tup (ys.map V.int)) → Q (.ref p) H')))))
/-- while parts are changed -/
def PairW (H2 : Hp) (a b t0 td : Addr) (one other : List Rule) (ys : List Int) (m : Nat) (σ : L2.St) (H' : Hp) : Prop := ∃ v x5 x6 kvs ks x, ks.length + m < 64 ∧ σ = [some (.ref a), some (.ref b), some (.ref t0), some (.ref td), some v, x5, x6, none] ∧ Same H2 H' ∧ H' td = some (.dK kvs) ∧ Pg.DX kvs ks 200 x ∧ Pg.Inv (Pg.gm one other) 200 x ∧ (Pg.gm one other).Run m x (Pg.ctx ys) ∧ Pg.PtC other ks x v
theorem ok_paired (M : Mod P w K mg base) : FnOk P w K mg base (L2.CX P w) 8 M.f_paired M.d_paired ["one", "other", "partition"] (sp_paired M.a_BadFamily M.a_TooMany M.a_NotPaired M.a_BadPartition) := by
  refine M.F_paired.ok sc_paired (fun vs H Q E h => ?_) (fun cdv A outer s H vs Q E hr h => ?_)
  · obtain ⟨x, y, z, o, u, rfl, _⟩ := h
    rfl
  · obtain ⟨x, y, z, o, u, rfl, hx, hy, q1, q2, q3⟩ := h
    have hu : (A.deeper (envOfC (Str.ofString "paired") (defScope s_paired) s.heap.objs.size M.f_paired cdv)).units + 1 < cLine := by
      have := hu65 hr
      omega
    refine ⟨_, (C8.pss_cut (ps_if (pt_cmpR op_notN (pe_call (ok_first_unlike_count M) (hr.mono (by decide)) rfl M.g_first_unlike_count M.k_first_unlike_count M.b_first_unlike_count .nil (passes_call (takes_of rfl rfl rfl rfl) (fun _ _ _ _ h => h)) (pa_cons (pv 0) (pa_cons (pv 1) pa_nil))) pe_non (nomark _)) 
        (pss_one (ps_raise rfl (takes_of rfl rfl rfl rfl) (pmk_own PySem.F.excBase_ValueError M.E_NotPaired.x M.g_NotPaired M.E_NotPaired.k (raises_own M.E_NotPaired.b M.E_NotPaired.t) rfl))) pss_nil)
      (pss_cons (ps_expr (pe_call (ok_check_partition M) (hr.mono (by decide)) rfl M.g_check_partition M.k_check_partition M.b_check_partition .nil (passes_call (takes_of rfl rfl rfl rfl) (fun _ _ _ _ h => h)) (pa_cons (pv 2) pa_nil)))
      (pss_cons (ps_set (i := 3) sc_paired.nd rfl (Or.inl rfl) (pe_call (ok_times_of_parts M) (hr.mono (by decide)) rfl M.g_times_of_parts M.k_times_of_parts M.b_times_of_parts .nil pass0 (pa_cons (pv 2) pa_nil)))
      (C8.pss_cut (ps_if (pt_not (pt_val (pe_call (ok_keeps_rules M) (hr.mono (by decide)) rfl M.g_keeps_rules M.k_keeps_rules M.b_keeps_rules .nil pass0 (pa_cons (pv 0) (pa_cons (pv 3) pa_nil))))) 
        (pss_one (ps_raise rfl (takes_of rfl rfl rfl rfl) (pmk_own PySem.F.excBase_ValueError M.E_BadPartition.x M.g_BadPartition M.E_BadPartition.k (raises_own M.E_BadPartition.b M.E_BadPartition.t) rfl))) pss_nil)
      (C8.pss_cut (ps_if (pt_cmpR op_gt (pe_callB (cr_sumT rfl) (by rfl) M.sum0 (by decide +kernel) (pa_cons (pv 2) pa_nil)) (pe_glob (v := .int 200) rfl M.c_GREATEST_SUM ⟨_, rfl⟩) (nomark _)) 
        (pss_one (ps_raise rfl (takes_of rfl rfl rfl rfl) (pmk_oex M.U_TooMany.ox M.U_TooMany.iC M.U_TooMany.tI (ok_init_TooMany M) (hr.mono (by decide)) M.bi_TooMany .nil pass0 rfl M.g_TooMany (pa_cons (pe_glob (v := .int 200) rfl M.c_GREATEST_SUM ⟨_, rfl⟩) pa_nil)))) pss_nil)
      (PSs.nox 
      (pss_cons (ps_set (i := 4) sc_paired.nd rfl (Or.inl rfl) (pe_call (ok__part_to_change M) (hr.mono (by decide)) rfl M.g__part_to_change M.k__part_to_change M.b__part_to_change .nil pass0 (pa_cons (pv 1) (pa_cons (pv 3) pa_nil))))
      (pss_cons (ps_while PassesOwn.never (pt_cmpR op_notN (pv 4) pe_non (nomark _)) 
        (pss_cons (ps_set (i := 5) sc_paired.nd rfl (Or.inl rfl) (pe_call (ok_bound_of M) (hr.mono (by decide)) rfl M.g_bound_of M.k_bound_of M.b_bound_of .nil pass0 (pa_cons (pv 1) (pa_cons (pv 4) pa_nil))))
        (pss_cons (ps_set (i := 6) sc_paired.nd rfl (Or.inl rfl) (pe_call (ok__mate_of M) (hr.mono (by decide)) rfl M.g__mate_of M.k__mate_of M.b__mate_of .nil pass0 (pa_cons (pv 0) (pa_cons (pv 1) (pa_cons (pv 4) (pa_cons (pv 5) pa_nil))))))
        (pss_cons (ps_daug hu (pv 3) (pv 4) (pv 5) in_sub (fun _ _ _ => rfl))
        (pss_cons (ps_dput hu (pv 3) (pv 6) (pe_op op_add (pe_dget2 hu (pv 3) (pv 6) pe_int ⟨rfl, rfl, rfl, rfl⟩) (pe_call (ok_bound_of M) (hr.mono (by decide)) rfl M.g_bound_of M.k_bound_of M.b_bound_of .nil pass0 (pa_cons (pv 0) (pa_cons (pv 6) pa_nil)))) rfl)
        (pss_one (ps_set (i := 4) sc_paired.nd rfl (Or.inl rfl) (pe_call (ok__part_to_change M) (hr.mono (by decide)) rfl M.g__part_to_change M.k__part_to_change M.b__part_to_change .nil pass0 (pa_cons (pv 1) (pa_cons (pv 3) pa_nil))))))))))
      (pss_cons (ps_set (i := 7) sc_paired.nd rfl (Or.inl rfl) (pe_lst pa_nil))
      (pss_cons (ps_for PassesOwn.never rfl (pi_list (pe_callBK (cr_sortedRevD (b := true) rfl) (by rfl) M.sorted0 (by decide +kernel) (pa_cons (pv 3) pa_nil) (pk_cons pe_bl pk_nil))) (pg_name (i := 4) sc_paired.nd rfl (Or.inl rfl)) 
        (pss_one (ps_expr (pe_bm PySem.F.plainAttrs_list PySem.F.slot_list_extend PySem.F.type_list_extend mt_extend (pv 7) (pa_cons (pe_op op_rep (pe_lst (pa_cons (pv 4) pa_nil)) (pe_dget hu (pv 3) (pv 4) (fun _ _ => rfl))) pa_nil)))))
      (pss_one (ps_ret (pe_callTy call_tuple_of (by rfl) M.tuple0 (by decide +kernel) (pa_cons (pv 7) pa_nil)))))))))))))), ?_⟩
    refine ⟨fun σ' H' => ∃ (a b : Addr) (one other : List Rule), σ' = [some x, some y, some z, none, none, none, none, none] ∧ Same H H' ∧ x = .ref a ∧ y = .ref b ∧ FamAt H a one ∧ Good one ∧ FamAt H b other ∧ Good other ∧ Pg.EqF one other ∧ ∃ pt : Option (List V), Tp H z pt ∧ short pt ∧ AllPV H pt ∧ (okT pt = false → ∀ H', Same H H' → E (.ref M.a_BadPartition) none H') ∧
      (okT pt = true → ∃ ns : List Int, pt = some (ns.map V.int) ∧ (kp one ns = false → ∀ H', Same H H' → E (.ref M.a_BadPartition) none H') ∧
        (kp one ns = true → (200 < ns.sum → ∀ d H', H d = none → Same H H' → H' d = some (.xd [(("most" : Str), .int 200)]) → E (.ref M.a_TooMany) (some d) H') ∧
          (ns.sum ≤ 200 → ∃ (ys : List Int) (kk : Nat), (Pg.gm one other).Run kk (Pg.ctx ns) (Pg.ctx ys) ∧ ns.length + kk < 64 ∧ Pg.PairR one other ns ys ∧ ∀ (p : Addr) H', H p = none → Same H H' → H' p = some (.tup (ys.map V.int)) → Q (.ref p) H'))), ?_, ?_⟩
    · refine ⟨_, rfl, _, rfl, x, y, o, u, rfl, hx, hy, q1, q2, fun h1 h2 => ?_⟩
      obtain ⟨a, b, one, other, rfl, rfl, hF, G1, hF2, G2, hl, k1, k2⟩ := q3 h1 h2
      refine ⟨a, b, one, other, rfl, rfl, hF, G1, hF2, G2, fun c => absurd c (by omega), fun _ H1 s1 => ?_⟩
      refine ⟨rfl, ⟨_, rfl, ?_⟩⟩
      cases hd : dueN (pS one) (pS other) (Nat.lcm (per one) (per other)) with
      | none =>
        have ed : dueV (pS one) (pS other) (Nat.lcm (per one) (per other)) = .non := by
          unfold dueV
          rw [hd]
        rw [ed]
        exact iteF' (by simp) ⟨a, b, one, other, rfl, s1, rfl, rfl, hF, G1, hF2, G2, Pg.eqF_of G1 G2 hd, k2 hd⟩
      | some i =>
        have ed : dueV (pS one) (pS other) (Nat.lcm (per one) (per other)) = .int ((i : Int) + 1) := by
          unfold dueV
          rw [hd]
        rw [ed]
        refine iteT' (by simp) ?_
        exact k1 (by rw [hd]; exact fun z => by cases z) H1 s1
    rintro σ1 H1 ⟨a, b, one, other, rfl, s1, rfl, rfl, hF, G1, hF2, G2, E0, pt, hz, hsh, hpv, qP, k⟩
    refine ⟨_, rfl, z, pt, rfl, hz.same s1, hsh, hpv.same s1, fun hk H2 s2 => qP hk H2 (s1.trans s2), fun hk H2 s2 => ?_⟩
    obtain ⟨ns, rfl, k1, k2⟩ := k hk
    obtain ⟨t0, rfl, et⟩ := hz.ref
    obtain ⟨lo, hi, hl⟩ := okT_parts hk
    have s12 := s1.trans s2
    clear qP k hx hy q1 q2 q3 hsh hpv hz
    refine ⟨_, rfl, t0, ns, rfl, s12 _ _ et, by rw [sizeLine_eq]; omega, fun td H3 kvs hd3 s3 e3 T => ?_⟩
    have s13 := s12.trans s3
    refine ⟨fun σ' H' => σ' = [some (.ref a), some (.ref b), some (.ref t0), some (.ref td), none, none, none, none] ∧ Same H3 H' ∧ kp one ns = true, ?_, ?_⟩
    · refine ⟨_, rfl, _, rfl, a, td, one, ns, kvs, rfl, hF.same s13, G1, e3, T, by omega, fun H4 s4 => ?_⟩
      refine ⟨_, rfl, ?_⟩
      cases hkp : kp one ns with
      | true => exact iteF ⟨rfl, s4, rfl⟩
      | false => exact iteT (k1 hkp H4 (s13.trans s4))
    rintro σ4 H4 ⟨rfl, s4, hkp⟩
    obtain ⟨k3, k4⟩ := k2 hkp
    replace e3 := s4 _ _ e3
    have s14 := s13.trans s4
    have s25 := s3.trans s4
    clear k1 k2 s4
    refine ⟨fun σ' H' => σ' = [some (.ref a), some (.ref b), some (.ref t0), some (.ref td), none, none, none, none] ∧ H' = H4 ∧ ns.sum ≤ 200, ?_, ?_⟩
    · refine ⟨_, rfl, t0, ns, rfl, SqT.of (s14 _ _ et), by omega, fun x hx => by have := lo x hx; have := hi x hx; omega, _, _, rfl, rfl, _, rfl, ?_⟩
      by_cases c : 200 < ns.sum
      · exact iteT' (decide_eq_true c) (mk_init fun d H' h1 h2 h3 => k3 c d H' (s14.free h1) (s14.trans h2) h3)
      · exact iteF' (decide_eq_false c) ⟨rfl, rfl, by omega⟩
    rintro σ5 H5 ⟨rfl, rfl, h200⟩
    obtain ⟨ys, kk, R, h64, PR, q⟩ := k4 h200
    clear k3 k4
    have rg := Pg.part_le lo (N := 200) (by omega)
    obtain ⟨ks, D⟩ := Pg.DX.of T rg
    have hkn : ks.length ≤ ns.length := by
      have z := congrArg List.length D.km
      rw [List.length_map, List.length_map] at z
      have := T.ln
      omega
    have I := Pg.inv_of G1 G2 E0 lo (N := 200) (by omega) hkp
    have put2 : ∀ {H' : Hp} {o : HO}, Same H2 H' → Same H2 (upd H' td o) := fun {H' o} s c o2 e => by
      rw [upd_ne (ne_of_none e hd3)]
      exact s c o2 e
    clear hk h200 s13 s3 hi
    refine ⟨_, rfl, _, rfl, b, td, other, kvs, ks, 200, _, rfl, hF2.same s14, G2, e3, D, by omega, fun v H6 s6 pc => ?_⟩
    refine ⟨PairW H2 a b t0 td one other ys, ⟨kk, v, none, none, kvs, ks, _, by omega, rfl, s25.trans s6, s6 _ _ e3, D, I, R, pc⟩, ?_⟩
    clear s6 pc e3 s25 T D I R s14 H5 rg hkn h64 kvs ks H6 v kk
    rintro m σ H5 ⟨v, x5, x6, kvs, ks, x, h64, rfl, s25, e3, D, I, R, pc⟩
    have hFa := hF.same (s12.trans s25)
    have hFb := hF2.same (s12.trans s25)
    have hlen : kvs.length = ks.length := by
      have z := congrArg List.length D.km
      rwa [List.length_map, List.length_map] at z
    have hkl : ks.length ≤ 64 := by omega
    refine ⟨_, rfl, rfl, _, rfl, ?_⟩
    rcases pc with ⟨p, rfl, pk, c0, cb⟩ | ⟨rfl, hst⟩
    · refine iteT' (by simp) ⟨fun σ' H' => ∃ m', m' < m ∧ PairW H2 a b t0 td one other ys m' σ' H', fun _ _ h => h, ?_⟩
      obtain ⟨p1, p2⟩ := D.rg p pk
      have bb := bnd_le G2 p
      obtain ⟨i, rfl⟩ : ∃ i : Nat, p = (i : Int) := ⟨p.toNat, by omega⟩
      obtain ⟨j, ej⟩ : ∃ j : Nat, bnd other (i : Int) = (j : Int) := ⟨(bnd other (i : Int)).toNat, by omega⟩
      have egb := Pg.gm_nat one other (a := i) (by omega) ej
      have ok : (Pg.gm one other).ok x (i : Int) := ⟨by rw [egb]; omega, by rw [egb]; omega⟩
      obtain ⟨k, rfl, R2⟩ := Pg.Run.push R PR.st ok
      obtain ⟨_, c, _, ec, _, _, c1, c2, _, _⟩ := I.at_ (Pg.gm_fair G1 G2 E0) ok
      have emt : Pg.mateF one other (i : Int) = (c : Int) := ec
      have ebv : bndV other (i : Int) = .int (j : Int) := by
        unfold bndV
        rw [if_neg c0, ej]
      have gpos := ((Pg.gm_fair G1 G2 E0).f (i : Int) ok.1).2.2.1
      obtain ⟨g, eg⟩ : ∃ g : Nat, bnd one (c : Int) = (g : Int) := by
        have := bnd_le G1 (c : Int)
        exact ⟨(bnd one (c : Int)).toNat, by omega⟩
      have egg : (Pg.gm one other).g (i : Int) = g := by
        show (bnd one (Pg.mateF one other (i : Int))).toNat = g
        rw [emt, eg]
        rfl
      have ebw : bndV one (c : Int) = .int (g : Int) := by
        unfold bndV
        rw [if_neg (by omega), eg]
      refine ⟨_, rfl, _, rfl, b, other, (i : Int), rfl, hFb, G2, fun H6 s6 => ?_⟩
      rw [ebv]
      have ij : i * j ≤ 200 * 9 := Nat.mul_le_mul (by omega) (by omega)
      refine ⟨_, rfl, _, rfl, _, rfl, _, rfl, a, b, one, other, i, j, rfl, hFa.same s6, G1, hFb.same s6, G2, E0, by omega, by omega, ej, by omega, fun H7 s7 => ?_⟩
      rw [emt]
      have s67 := s6.trans s7
      have e7 := s67 _ _ e3
      have gd : DGet H7 td (.int (i : Int)) (some (.int (x (i : Int)))) := .inl ⟨kvs, kI (i : Int), .inl e7, rfl, (D.at_ _ pk).symm⟩
      have le := ok.2
      rw [egb] at le
      -- first the part
      obtain ⟨y, hy⟩ : ∃ y : Pg.X, y = fun r => x r - (if r = (i : Int) then (Pg.gm one other).b (i : Int) else 0) := ⟨_, rfl⟩
      have y1 : y (i : Int) = x (i : Int) - j := by
        rw [hy]
        show x (i : Int) - (if (i : Int) = (i : Int) then _ else 0) = _
        rw [if_pos rfl, egb]
      obtain ⟨ks1, D1⟩ := D.put (p := (i : Int)) (y := y) ⟨p1, p2⟩ y1 fun r hr => by
        rw [hy]
        show x r - (if r = (i : Int) then _ else 0) = x r
        rw [if_neg hr]
        rfl
      have ev : (x (i : Int) : Int) - (j : Int) = ((x (i : Int) - j : Nat) : Int) := by omega
      refine ⟨_, rfl, _, rfl, td, _, rfl, gd, _, rfl, _, _, rfl, rfl, _, DPut.k (k := kI (i : Int)) e7 (by rw [sizeLine_eq]; omega), ?_⟩
      rw [ev]
      have s8 : Same H2 (upd H7 td (.dK (putK kvs (kI (i : Int)) (.int ((x (i : Int) - j : Nat) : Int))))) := put2 (s25.trans s67)
      have e8 : (upd H7 td (.dK (putK kvs (kI (i : Int)) (.int ((x (i : Int) - j : Nat) : Int))))) td = some (.dK (putK kvs (kI (i : Int)) (.int ((x (i : Int) - j : Nat) : Int)))) := upd_same
      generalize upd H7 td (.dK (putK kvs (kI (i : Int)) (.int ((x (i : Int) - j : Nat) : Int)))) = H8 at s8 e8 ⊢
      have hk1 := (D.keys D1 rfl).2 (D.key_in pk)
      generalize putK kvs (kI (i : Int)) (.int ((x (i : Int) - j : Nat) : Int)) = kvs1 at D1 e8 ⊢
      -- then its mate
      have z2 : (Pg.gm one other).fire x (i : Int) (c : Int) = y (c : Int) + g := by
        rw [hy]
        show x (c : Int) - _ + (if (c : Int) = (Pg.gm one other).m (i : Int) then _ else 0) = x (c : Int) - _ + _
        rw [ec, if_pos rfl, egg]
      obtain ⟨ks2, D2⟩ := D1.put (p := (c : Int)) (y := (Pg.gm one other).fire x (i : Int)) ⟨by omega, by omega⟩ z2 fun r hr => by
        rw [hy]
        show x r - _ + (if r = (Pg.gm one other).m (i : Int) then _ else 0) = x r - _
        rw [ec, if_neg hr]
        rfl
      have gd2 : DGet H8 td (.int (c : Int)) (valV kvs1 (kI (c : Int))) := DGet.k (k := kI (c : Int)) e8
      refine ⟨_, rfl, td, rfl, .inl ⟨_, .inl e8⟩, _, rfl, valV kvs1 (kI (c : Int)), gd2, ?_⟩
      rw [D1.getD (c : Int)]
      have hFa8 := hF.same (s12.trans s8)
      have hFb8 := hF2.same (s12.trans s8)
      refine ⟨_, rfl, _, rfl, a, one, (c : Int), rfl, hFa8, G1, fun H9 s9 => ?_⟩
      rw [ebw]
      have e9 := s9 _ _ e8
      have l1 : kvs1.length < sizeLine := by
        have z := congrArg List.length D1.km
        rw [List.length_map, List.length_map] at z
        have := D1.len
        rw [sizeLine_eq]
        omega
      have hk2 := (D1.keys D2 rfl).1
      refine ⟨_, _, rfl, rfl, ?_⟩
      have ev2 : (y (c : Int) : Int) + (g : Int) = ((y (c : Int) + g : Nat) : Int) := by omega
      have dp : DPut H9 td (.int (c : Int)) (.int ((y (c : Int) : Int) + (g : Int))) (upd H9 td (.dK (putK kvs1 (kI (c : Int)) (.int ((y (c : Int) + g : Nat) : Int))))) := by
        rw [ev2]
        exact DPut.k (k := kI (c : Int)) e9 l1
      refine ⟨_, rfl, _, rfl, td, _, rfl, dp, ?_⟩
      have s10 : Same H2 (upd H9 td (.dK (putK kvs1 (kI (c : Int)) (.int ((y (c : Int) + g : Nat) : Int))))) := put2 (s8.trans s9)
      have e10 : (upd H9 td (.dK (putK kvs1 (kI (c : Int)) (.int ((y (c : Int) + g : Nat) : Int))))) td = some (.dK (putK kvs1 (kI (c : Int)) (.int ((y (c : Int) + g : Nat) : Int)))) := upd_same
      generalize upd H9 td (.dK (putK kvs1 (kI (c : Int)) (.int ((y (c : Int) + g : Nat) : Int)))) = H10 at s10 e10 ⊢
      generalize putK kvs1 (kI (c : Int)) (.int ((y (c : Int) + g : Nat) : Int)) = kvs2 at D2 e10 ⊢
      refine ⟨_, rfl, _, rfl, b, td, other, kvs2, ks2, 200, _, rfl, hF2.same (s12.trans s10), G2, e10, D2, by omega, fun v H11 s11 pc => ?_⟩
      exact ⟨k, Nat.lt_succ_self k, v, _, _, kvs2, ks2, _, by omega, rfl, s10.trans s11, s11 _ _ e10, D2, I.fire (Pg.gm_fair G1 G2 E0) ok, R2, pc⟩
    · refine iteF' (by simp) ?_
      have ex : x = Pg.ctx ys := Pg.Run.same (.nil x) R (D.stable G2 hst) PR.st
      refine ⟨(by show 0 ≤ sizeLine; decide), fun pl hpl => ?_⟩
      have s6 := same_new (o := .lst []) hpl
      have e6 : (upd H5 pl (.lst [])) pl = some (.lst []) := upd_same
      have t6 := s6 _ _ e3
      have ntl : td ≠ pl := ne_of_none e3 hpl
      generalize upd H5 pl (.lst []) = H6 at s6 e6 t6 ⊢
      refine ⟨_, rfl, td, kvs, ks, rfl, rfl, .inl t6, D.km, by omega, fun ds p hp hd h1 => ?_⟩
      have hd' : ds.Pairwise (fun x y => y ≤ x) := hd
      have s7 := same_new (o := .lst (ds.map V.int)) h1
      have e7 : (upd H6 p (.lst (ds.map V.int))) p = some (.lst (ds.map V.int)) := upd_same
      have f7 := s7 _ _ e6
      have t7 := s7 _ _ t6
      have npl : p ≠ pl := fun z => by
        rw [z, e6] at h1
        cases h1
      generalize upd H6 p (.lst (ds.map V.int)) = H7 at s7 e7 f7 t7 ⊢
      have s27 := s25.trans (s6.trans s7)
      have fpl : H2 pl = none := s25.free hpl
      have dl : ds.length ≤ 64 := by
        rw [hp.length_eq]
        exact hkl
      refine ⟨p, rfl, ⟨_, SqL.of e7⟩, for_list (K := K) (a := p) (xs := ds.map V.int) (fun i σ H' => ∃ x4, σ = [some (.ref a), some (.ref b), some (.ref t0), some (.ref td), x4, x5, x6, some (.ref pl)] ∧ Same H2 H' ∧ H' p = some (.lst (ds.map V.int)) ∧ H' td = some (.dK kvs) ∧ H' pl = some (.lst ((Pg.outL x (ds.take i)).map V.int))) ⟨_, rfl, s27, e7, t7, f7⟩ (fun i σ H' _ ⟨_, _, _, e, _⟩ => SqL.of e) ?_ ?_⟩
      · rintro i v σ H8 hv ⟨x4, rfl, s8, e8, t8, f8⟩
        obtain ⟨z, hz, rfl⟩ := int_at hv
        have zk : z ∈ ks := hp.mem_iff.mp (List.mem_of_getElem? hz)
        have et : ds.take (i + 1) = ds.take i ++ [z] := by
          rw [List.take_succ, hz]
          rfl
        have il := (List.getElem?_eq_some_iff.mp hz).1
        have xl := I.le z
        have ol := Pg.outL_len (x := x) (N := 200) (ks := ds.take i) fun q _ => I.le q
        have ol2 : (ds.take i).length * 200 ≤ 64 * 200 := Nat.mul_le_mul_right _ (by rw [List.length_take]; omega)
        refine ⟨_, rfl, .inl ⟨rfl, _, SqL.of f8⟩, _, rfl, (by show 1 ≤ sizeLine; decide), fun p2 h2 => ?_⟩
        have s9 := same_new (o := .lst [.int z]) h2
        refine ⟨_, rfl, _, rfl, td, .int (x z), rfl, .inl ⟨kvs, kI z, .inl (s9 _ _ t8), rfl, (D.at_ z zk).symm⟩, p2, (x z : Int), [.int z], rfl, rfl, upd_same, by omega, by omega, ?_, fun p3 h3 => ?_⟩
        · show 1 * ((x z : Int)).toNat ≤ sizeLine
          rw [sizeLine_eq]
          omega
        have s10 := same_new (o := .lst (List.replicate ((x z : Int)).toNat [V.int z]).flatten) h3
        have e10 : (upd (upd H8 p2 (.lst [.int z])) p3 (.lst (List.replicate ((x z : Int)).toNat [V.int z]).flatten)) p3 = some (.lst ((List.replicate (x z) z).map V.int)) := by
          rw [upd_same]
          congr 2
          show (List.replicate (x z) [V.int z]).flatten = _
          rw [List.map_replicate]
          generalize x z = k
          induction k with
          | zero => rfl
          | succ k ih =>
            rw [List.replicate_succ, List.flatten_cons, ih, List.replicate_succ]
            rfl
        have sA := s9.trans s10
        generalize upd (upd H8 p2 (.lst [.int z])) p3 (.lst (List.replicate ((x z : Int)).toNat [V.int z]).flatten) = H10 at sA e10 ⊢
        have f10 := sA _ _ f8
        refine ⟨pl, p3, _, _, rfl, rfl, f10, e10, ?_, ⟨_, rfl, fun b o eo => ?_, ?_, ?_, ?_⟩⟩
        · rw [List.length_map, List.length_map, List.length_replicate, sizeLine_eq]
          omega
        · rw [upd_ne (ne_of_none eo fpl)]
          exact sA _ _ (s8 _ _ eo)
        · rw [upd_ne npl]
          exact sA _ _ e8
        · rw [upd_ne ntl]
          exact sA _ _ t8
        · rw [upd_same, et, Pg.outL_snoc, List.map_append]
      · rintro σ H8 ⟨x4, rfl, s8, e8, t8, f8⟩
        rw [List.length_map, List.take_length] at f8
        have eo : Pg.outL x ds = ys := by
          refine Pg.ctx_inj (Pg.outL_desc hd') PR.ds ?_
          rw [Pg.outL_ctx D hp, ex]
        rw [eo] at f8
        refine ⟨_, rfl, pl, _, rfl, .inl ⟨SqL.of f8, fun l hl => ?_⟩⟩
        exact q l _ (s12.free (s8.free hl)) (s12.trans (s8.trans (same_new hl))) upd_same

end
end K85

set_option Elab.async false
set_option linter.all false
set_option maxRecDepth 100000
set_option maxHeartbeats 4000000
set_option pp.maxSteps 3000
set_option exponentiation.threshold 500000
namespace K85
open PySem PySem.Spec PyProof.Rows L2 Dr Xv LamX Ps Gn Fm
section
variable {P : Program} {w : World} {K : PySem.W.Frag} {mg : Str → Option Value} {base : Heap}
def sp__law_family : Sp := fun vs H Q _ => ∃ d l c : Addr, vs = [.ref d] ∧ Draw H d l c ∧ ∀ (p : Addr) (H' : Hp) (fam : List Rule), H p = none → p ≠ d → p ≠ l → Draw H' d l c → SameX d l H H' → FamAt H' p fam → Drawn fam → Q (.ref p) H'
theorem ok__law_family (M : Mod P w K mg base) : FnOk P w K mg base CX0 4 M.f__law_family M.d__law_family ["draw"] sp__law_family := by
  refine M.F__law_family.ok sc__law_family (fun vs H Q E h => ?_) (fun cdv A outer s H vs Q E hr h => ?_)
  · obtain ⟨d, l, c, rfl, _⟩ := h
    rfl
  · obtain ⟨d, l, c, rfl, D0, q⟩ := h
    refine ⟨_, PSs.nox (pss_cons (ps_set (i := 1) sc__law_family.nd rfl (Or.inl rfl) (pe_lst pa_nil))
      (pss_cons (ps_for PassesOwn.never rfl (pi_range1 (by rfl) M.range0 (pa_cons (pe_call (ok__law_take M) (hr.mono (by decide)) rfl M.g__law_take M.k__law_take M.b__law_take .nil pass0 (pa_cons (pv 0) (pa_cons pe_int pa_nil))) pa_nil)) (pg_name (i := 2) sc__law_family.nd rfl (Or.inl rfl)) 
        (pss_cons (ps_set (i := 3) sc__law_family.nd rfl (Or.inl rfl) (pe_call (ok__law_pick M) (hr.mono (by decide)) rfl M.g__law_pick M.k__law_pick M.b__law_pick .nil pass0 (pa_cons (pv 0) (pa_cons (pe_lst (pa_cons pe_int (pa_cons pe_int (pa_cons pe_int (pa_cons pe_int (pa_cons pe_int (pa_cons pe_int pa_nil))))))) pa_nil))))
        (pss_cons (ps_set (i := 4) sc__law_family.nd rfl (Or.inl rfl) (pe_callTy call_tuple_of (by rfl) M.tuple0 (by decide +kernel) (pa_cons (pe_lc (own := [("k", 5)]) (g := (gName 5)) (by rfl) sc__law_family.nd (pi_range1 (by rfl) M.range0 (pa_cons (pv 3) pa_nil)) (blkOk_by (own := [("k", 5)]) (N := N__law_family) (sc := defScope s__law_family) (by decide +kernel))
        (fun _ _ _ _ _ => (pg_name (i := 5) sc__law_family.nd rfl (Or.inl rfl))) (fun _ _ _ _ _ => (pts_one (pt_cmpR op_eq (pe_call (ok__law_take M) (hr.mono (by decide)) rfl M.g__law_take M.k__law_take M.b__law_take .nil pass0 (pa_cons (pv 0) (pa_cons pe_int pa_nil))) pe_int (nomark _)))) (fun _ _ _ _ _ => (pv 5))) pa_nil)))
        (C8.pss_cut (ps_set (i := 4) sc__law_family.nd rfl (Or.inl rfl) (pe_ifExp (pt_cmpR (op_neD hr.units) (pv 4) (pe_tup pa_nil) (nomark _)) (pv 4) (pe_tup (pa_cons (pe_call (ok__law_take M) (hr.mono (by decide)) rfl M.g__law_take M.k__law_take M.b__law_take .nil pass0 (pa_cons (pv 0) (pa_cons (pv 3) pa_nil))) pa_nil))))
        (pss_one (ps_expr (pe_bm PySem.F.plainAttrs_list PySem.F.slot_list_append PySem.F.type_list_append mt_append (pv 1) (pa_cons (pe_tup (pa_cons (pv 3) (pa_cons (pv 4) (pa_cons (pe_call (ok__law_pick M) (hr.mono (by decide)) rfl M.g__law_pick M.k__law_pick M.b__law_pick .nil pass0 (pa_cons (pv 0) (pa_cons (pe_lst (pa_cons pe_int (pa_cons pe_int (pa_cons pe_int (pa_cons pe_int (pa_cons pe_int (pa_cons pe_int pa_nil))))))) pa_nil))) pa_nil)))) pa_nil))))))))
      (pss_one (ps_ret (pv 1))))), ?_⟩
    refine ⟨(by show 0 ≤ sizeLine; decide), fun pf hpf => ?_⟩
    have s0 := same_new (o := .lst []) hpf
    have e0 : (upd H pf (.lst [])) pf = some (.lst (List.map V.ref [])) := upd_same
    obtain ⟨nd, nl, nc⟩ := D0.ne hpf
    have D1 := D0.same s0
    have S1 : SameX d l H (upd H pf (.lst [])) := .of s0
    generalize upd H pf (.lst []) = H1 at s0 e0 D1 S1 ⊢
    refine ⟨_, rfl, d, l, c, 4, rfl, D1, by decide, log_small (n := 4) (by decide), fun v H2 v0 v1 D2 s2 => ⟨_, rfl, by omega, by omega, ?_⟩⟩
    have S2 := S1.trans s2
    have e2 := s2 _ _ e0 nd nl
    obtain ⟨n, rfl⟩ : ∃ n : Nat, v = (n : Int) := ⟨v.toNat, by omega⟩
    refine for_range (lo := 0) (n := (n : Int).toNat) (fun i σ H' => ∃ ts rs fam x2 x3 x4, σ = [some (.ref d), some (.ref pf), x2, x3, x4, none] ∧ H' pf = some (.lst (ts.map V.ref)) ∧ RulesAt H' ts rs fam ∧ fam.length = i ∧ (∀ f ∈ fam, GoodR f ∧ f.1 ≤ 6 ∧ f.2.2 ≤ 4) ∧ Draw H' d l c ∧ SameX d l H H')
      ⟨[], [], [], _, _, _, rfl, e2, ⟨rfl, rfl, fun i t r f a => by cases a⟩, rfl, (fun f h => by cases h), D2, S2⟩ ?_ ?_
    · rintro i σ H3 hi ⟨ts, rs, fam, x2, x3, x4, rfl, e3, R, hl, hf, D3, S3⟩
      refine ⟨_, rfl, (by show 6 ≤ sizeLine; decide), fun z1 h1 => ?_⟩
      have s4 := same_new (o := .lst [.int 1, .int 2, .int 3, .int 4, .int 5, .int 6]) h1
      have D4 := D3.same s4
      refine ⟨d, l, c, z1, [.int 1, .int 2, .int 3, .int 4, .int 5, .int 6], rfl, D4, (fun H' s' => SqL.of (s' _ _ upd_same (D3.ne h1).1 (D3.ne h1).2.1)), by simp, (by show 6 ≤ 1000; decide), fun mv H5 hmv D5 s5 => ?_⟩
      obtain ⟨m, rfl, m1, m2⟩ : ∃ m : Nat, mv = .int (m : Int) ∧ 1 ≤ m ∧ m ≤ 6 := by
        simp only [List.mem_cons, List.not_mem_nil, or_false] at hmv
        rcases hmv with rfl | rfl | rfl | rfl | rfl | rfl
        · exact ⟨1, rfl, by decide, by decide⟩
        · exact ⟨2, rfl, by decide, by decide⟩
        · exact ⟨3, rfl, by decide, by decide⟩
        · exact ⟨4, rfl, by decide, by decide⟩
        · exact ⟨5, rfl, by decide, by decide⟩
        · exact ⟨6, rfl, by decide, by decide⟩
      have s35 : SameX d l H3 H5 := (SameX.of s4).trans s5
      have tk : ∀ {b : Addr} {xs : List V} {H' : Hp}, SameX d l H3 H' → H3 b = some (.tup xs) → H' b = some (.tup xs) := fun s e => tup_sx D3 s e
      refine ⟨_, rfl, _, rfl, by omega, by omega, fun Dk hDk => lc_range (lo := 0) (n := ((m : Nat) : Int).toNat) (fun j H' => ∃ ks : List Int, H' Dk = some (.lst (ks.map V.int)) ∧ Up ks j ∧ ks.length ≤ j ∧ Draw H' d l c ∧ SameX d l H5 H') ⟨[], upd_same, Up.nil, Nat.le_refl _, D5.same (same_new hDk), sameX_new hDk⟩ ?_ ?_⟩
      · rintro j H6 hj ⟨ks, h6, U, kl, D6, s6⟩
        obtain ⟨kd, kl2, kc⟩ := D5.ne hDk
        refine ⟨rfl, _, rfl, tn0 <| ⟨d, l, c, 2, rfl, D6, by decide, log_small (n := 2) (by decide), fun v H7 v0 v1 D7 s7 => ⟨rfl, _, rfl, ?_⟩⟩⟩
        have h7 := s7 _ _ h6 kd kl2
        have s67 := s6.trans s7
        have hDk5 : H5 Dk = none := hDk
        by_cases hv : v = 0
        · refine iteT' (decide_eq_true (by rw [hv])) ⟨_, rfl, _, h7, ?_, ks ++ [(j : Int)], ?_, ?_, ?_, D7.put kd kl2 kc, ?_⟩
          · rw [List.length_map, sizeLine_eq]
            omega
          · rw [upd_same, List.map_append]
            show some (HO.lst (_ ++ [V.int (0 + (j : Int))])) = _
            rw [Int.zero_add]
            rfl
          · have z := U.snoc (by omega)
            exact z
          · rw [List.length_append]
            show _ + 1 ≤ _
            omega
          · exact fun b o e b1 b2 => by
              rw [upd_ne (ne_of_none e hDk)]
              exact s67 b o e b1 b2
        · refine iteF' (decide_eq_false (fun h => hv (by injection h))) ⟨ks, h7, U.le (by omega), by omega, D7, s67⟩
      · rintro H6 ⟨ks, h6, U, kl, D6, s6⟩
        have em : (((m : Nat) : Int).toNat : Int) = (m : Int) := by omega
        rw [em] at U
        refine tn <| ⟨Dk, _, rfl, .inl ⟨SqL.of h6, fun r hr => ?_⟩⟩
        have s7 := same_new (o := .tup (ks.map V.int)) hr
        have e7 : (upd H6 r (.tup (ks.map V.int))) r = some (.tup (ks.map V.int)) := upd_same
        have D7 := D6.same s7
        have s37 : SameX d l H3 (upd H6 r (.tup (ks.map V.int))) := s35.trans (s6.trans (.of s7))
        generalize upd H6 r (.tup (ks.map V.int)) = H7 at s7 e7 D7 s37 ⊢
        refine ⟨fun σ' H' => ∃ (ks : List Int) (r : Addr), σ' = [some (V.ref d), some (V.ref pf), some (V.int (0 + (i : Int))), some (V.int (m : Int)), some (V.ref r), none] ∧ H' r = some (.tup (ks.map V.int)) ∧ Up ks m ∧ ks ≠ [] ∧ Draw H' d l c ∧ SameX d l H3 H', ?_, ?_⟩
        · refine ⟨_, rfl, (by show 0 ≤ sizeLine; decide), fun y hy => ?_⟩
          have s8 := same_new (o := .tup []) hy
          have e8 : (upd H7 y (.tup [])) y = some (.tup (List.map V.int [])) := upd_same
          have e9 := s8 _ _ e7
          have D8 := D7.same s8
          have s38 : SameX d l H3 (upd H7 y (.tup [])) := s37.trans (.of s8)
          generalize upd H7 y (.tup []) = H8 at s8 e8 e9 D8 s38 ⊢
          refine ⟨tupD ks, tupD [], tup_dp e9, tup_dp e8, tup_shaped _, tup_shaped _, _, rfl, ?_⟩
          rw [tup_ne]
          by_cases hk : ks = []
          · refine iteF' (decide_eq_false (fun h => h hk)) ?_
            refine ⟨_, rfl, _, rfl, tn <| ⟨d, l, c, (m : Int), rfl, D8, by omega, log_small (by omega), fun v H9 v0 v1 D9 s9 => ⟨(by show 1 ≤ sizeLine; decide), fun r2 hr2 => ?_⟩⟩⟩
            refine ⟨[v], r2, rfl, upd_same, ⟨List.pairwise_singleton _ _, fun x hx => ?_⟩, (fun z => by cases z), D9.same (same_new hr2), (s38.trans s9).trans (sameX_new hr2)⟩
            rw [List.mem_singleton.mp hx]
            exact ⟨v0, v1⟩
          · exact iteT' (decide_eq_true hk) ⟨_, rfl, ks, r, rfl, e9, U, hk, D8, s38⟩
        · rintro σ8 H8 ⟨ks, r, rfl, e8, U, hk, D8, s8⟩
          have f8 := s8 _ _ e3 nd nl
          refine ⟨_, rfl, .inl ⟨rfl, _, SqL.of f8⟩, _, rfl, _, rfl, _, rfl, (by show 6 ≤ sizeLine; decide), fun z2 h2 => ?_⟩
          have s9 := same_new (o := .lst [.int 1, .int 1, .int 2, .int 2, .int 3, .int 4]) h2
          refine tn <| ⟨d, l, c, z2, [.int 1, .int 1, .int 2, .int 2, .int 3, .int 4], rfl, D8.same s9, (fun H' s' => SqL.of (s' _ _ upd_same (D8.ne h2).1 (D8.ne h2).2.1)), by simp, (by show 6 ≤ 1000; decide), fun lv H10 hlv D10 s10 => ?_⟩
          obtain ⟨g, rfl, g1, g2⟩ : ∃ g : Nat, lv = .int (g : Int) ∧ 1 ≤ g ∧ g ≤ 4 := by
            simp only [List.mem_cons, List.not_mem_nil, or_false] at hlv
            rcases hlv with rfl | rfl | rfl | rfl | rfl | rfl
            · exact ⟨1, rfl, by decide, by decide⟩
            · exact ⟨1, rfl, by decide, by decide⟩
            · exact ⟨2, rfl, by decide, by decide⟩
            · exact ⟨2, rfl, by decide, by decide⟩
            · exact ⟨3, rfl, by decide, by decide⟩
            · exact ⟨4, rfl, by decide, by decide⟩
          have s810 : SameX d l H8 H10 := (SameX.of s9).trans s10
          refine ⟨(by show 3 ≤ sizeLine; decide), fun t ht => tn <| ?_⟩
          have s11 := same_new (o := .tup [.int (m : Int), .ref r, .int (g : Int)]) ht
          have s311 : SameX d l H3 (upd H10 t (.tup [.int (m : Int), .ref r, .int (g : Int)])) := s8.trans (s810.trans (.of s11))
          have f11 := s311 _ _ e3 nd nl
          have e11 := s11 _ _ (tup_sx D8 s810 e8)
          have t11 : (upd H10 t (.tup [.int (m : Int), .ref r, .int (g : Int)])) t = some (.tup [.int (m : Int), .ref r, .int (g : Int)]) := upd_same
          have D11 := D10.same s11
          generalize upd H10 t (.tup [.int (m : Int), .ref r, .int (g : Int)]) = H11 at s11 s311 f11 e11 t11 D11 ⊢
          refine ⟨pf, _, _, rfl, rfl, f11, ?_, ts ++ [t], rs ++ [r], fam ++ [((m : Int), ks, (g : Int))], _, _, _, rfl, ?_, ?_, ?_, ?_, D11.put nd nl nc, ?_⟩
          · rw [List.length_map, R.l1, hl, sizeLine_eq]
            omega
          · rw [upd_same, List.map_append]
            rfl
          · have ntu : ∀ {b : Addr} {xs : List V}, H11 b = some (.tup xs) → (upd H11 pf (.lst (List.map V.ref ts ++ [V.ref t]))) b = some (.tup xs) := fun {b xs} eb => by
              rw [upd_ne (fun z => by rw [z, f11] at eb; cases eb)]
              exact eb
            exact R.snoc (fun b xs eb => ntu (tk s311 eb)) (ntu t11) (ntu e11)
          · rw [List.length_append, hl]
            rfl
          · intro f hf2
            rcases List.mem_append.mp hf2 with h | h
            · exact hf f h
            · rw [List.mem_singleton.mp h]
              exact ⟨U.good hk (by omega) (by omega) (by omega) (by omega), by show (m : Int) ≤ 6; omega, by show (g : Int) ≤ 4; omega⟩
          · exact fun b o e b1 b2 => by
              rw [upd_ne (ne_of_none e hpf)]
              exact (S3.trans s311) b o e b1 b2
    · rintro σ H3 ⟨ts, rs, fam, x2, x3, x4, rfl, e3, R, hl, hf, D3, S3⟩
      refine ⟨_, rfl, q pf H3 fam hpf nd nl D3 S3 ⟨ts, rs, e3, R⟩ ⟨by omega, hf⟩⟩

end
end K85

set_option Elab.async false
set_option linter.all false
set_option maxRecDepth 100000
set_option maxHeartbeats 4000000
set_option pp.maxSteps 3000
set_option exponentiation.threshold 500000
namespace K85
open PySem PySem.Spec PyProof.Rows L2 Dr Xv LamX Ps Gn Fm
section
variable {P : Program} {w : World} {K : PySem.W.Frag} {mg : Str → Option Value} {base : Heap}
def sp_bounded_quotient (cT : Addr) : Sp := fun vs H Q _ => ∃ (a : Addr) (f : Nat → Int) (l : List Nat), vs = [.ref a] ∧ H a = some (.dK (Qm.kvs f l)) ∧ l.Pairwise (· < ·) ∧ l.length < 64 ∧ (∀ c ∈ l, (f c).natAbs ≤ 99) ∧ ∀ (p : Addr) H', H p = none → Same H H' → H' p = some (.dK (Qm.kvs f (l.filter fun c => decide (f c ≠ 0)))) → Q (.ref p) H'
theorem ok_bounded_quotient (M : Mod P w K mg base) : FnOk P w K mg base (L2.CX P w) 3 M.f_bounded_quotient M.d_bounded_quotient ["exponents"] (sp_bounded_quotient M.a_TooMany) := by
  refine M.F_bounded_quotient.ok sc_bounded_quotient (fun vs H Q E h => ?_) (fun cdv A outer s H vs Q E hr h => ?_)
  · obtain ⟨a, f, l, rfl, _⟩ := h
    rfl
  · obtain ⟨a, f, l, rfl, e, asc, hl, hb, q⟩ := h
    have hu : (A.deeper (envOfC (Str.ofString "bounded_quotient") (defScope s_bounded_quotient) s.heap.objs.size M.f_bounded_quotient cdv)).units + 1 < cLine := by
      have := hu65 hr
      omega
    refine ⟨_, (C8.pss_cut (ps_if (pt_not (pt_val (pe_callB (cr_all rfl) (by rfl) M.all0 (by decide +kernel) (pa_cons (pe_lock (pe_lc (own := [("r", 1)]) (g := (gName 1)) (by rfl) sc_bounded_quotient.nd (pi_values (pv 0)) (blkOk_by (own := [("r", 1)]) (N := N_bounded_quotient) (sc := defScope s_bounded_quotient) (by decide +kernel))
        (fun _ _ _ _ _ => (pg_name (i := 1) sc_bounded_quotient.nd rfl (Or.inl rfl))) (fun _ _ _ _ _ => pts_nil) (fun _ _ _ _ _ => (pe_cmpR op_le (pe_callB call_abs (by rfl) M.abs0 boot_abs (pa_cons (pv 1) pa_nil)) (pe_glob (v := .int 99) rfl M.c_GREATEST_EXPONENT ⟨_, rfl⟩) (nomark _))))) pa_nil)))) 
        (pss_one (ps_raise rfl (takes_of rfl rfl rfl rfl) (pmk_oex M.U_TooMany.ox M.U_TooMany.iC M.U_TooMany.tI (ok_init_TooMany M) (hr.mono (by decide)) M.bi_TooMany .nil pass0 rfl M.g_TooMany (pa_cons (pe_glob (v := .int 99) rfl M.c_GREATEST_EXPONENT ⟨_, rfl⟩) pa_nil)))) pss_nil)
      (PSs.nox 
      (pss_one (ps_ret (pe_dc (own := [("d", 2)]) (g := (gName 2)) (by rfl) sc_bounded_quotient.nd (pi_list (pe_callB (call_sortedDI rfl) (by rfl) M.sorted0 (by decide +kernel) (pa_cons (pv 0) pa_nil))) (blkOk_by (own := [("d", 2)]) (N := N_bounded_quotient) (sc := defScope s_bounded_quotient) (by decide +kernel))
        (fun _ _ _ _ _ => (pg_name (i := 2) sc_bounded_quotient.nd rfl (Or.inl rfl))) (fun _ _ _ _ _ => (pts_one (pt_cmpR op_ne (pe_dget hu (pv 0) (pv 2) (fun _ _ => rfl)) pe_int (nomark _)))) (fun _ _ _ _ _ => (pv 2)) (fun _ _ _ _ _ => (pe_dget hu (pv 0) (pv 2) (fun _ _ => rfl)))))))), ?_⟩
    refine ⟨fun σ' H' => σ' = [some (.ref a), none, none] ∧ Same H H', ?_, ?_⟩
    · refine ⟨a, _, e, trivial, fun od => ?_⟩
      have e1 : (upd H a (.frz od (.dK (Qm.kvs f l)))) a = some (.frz od (.dK (Qm.kvs f l))) := upd_same
      refine ⟨_, rfl, a, od, _, rfl, e1, fun D hD => lc_it walk_values (fun i H' => H' D = some (.lst ((List.replicate i true).map V.bl)) ∧ Same (upd H a (.frz od (.dK (Qm.kvs f l)))) H') ⟨upd_same, same_new hD⟩ (fun i H' _ ⟨_, s⟩ => s _ _ e1) ?_ ?_⟩
      · rintro i x H2 H3 hi ⟨h2, s2⟩ ⟨rfl, k, hk⟩
        obtain ⟨c, hc, rfl, rfl⟩ := Qm.kvs_at hk
        rw [Qm.kvs_len] at hi
        have hbc := hb c (List.mem_of_getElem? hc)
        refine ⟨rfl, yesT ⟨_, rfl, tn <| ⟨f c, rfl, _, _, rfl, rfl, _, h2, ?_, ?_, fun b o ob => ?_⟩⟩⟩
        · rw [List.length_map, List.length_replicate, sizeLine_eq]
          omega
        · have e2 : decide ((if f c < 0 then -f c else f c) ≤ 99) = true := decide_eq_true (by split <;> omega)
          rw [upd_same, List.replicate_succ', List.map_append]
          show some (HO.lst (_ ++ [V.bl (decide ((if f c < 0 then -f c else f c) ≤ 99))])) = _
          rw [e2]
          rfl
        · rw [upd_ne (ne_of_none ob hD)]
          exact s2 _ _ ob
      · rintro H2 ⟨h2, s2⟩
        have nD : D ≠ a := fun z => by
          rw [z, e1] at hD
          cases hD
        have s3 := same_lock e s2
        refine ⟨s2 _ _ e1, tn <| ⟨D, _, rfl, SqL.of (by rw [upd_ne nD]; exact h2), ?_⟩⟩
        have ea : (List.replicate (Qm.kvs f l).length true).all id = true := List.all_eq_true.mpr fun b hb => by
          rw [(List.mem_replicate.mp hb).2]
          rfl
        rw [ea]
        exact ⟨_, rfl, iteF ⟨rfl, s3⟩⟩
    rintro σ1 H1 ⟨rfl, s1⟩
    have e1 := s1 _ _ e
    refine ⟨_, rfl, a, Qm.kvs f l, l.map fun c : Nat => (c : Int), rfl, .inl e1, Qm.kvs_keys f l, by rw [List.length_map]; exact hl, fun ys p hp hd h1 => ?_⟩
    have ey : ys = l.map fun c : Nat => (c : Int) := by
      refine List.Perm.eq_of_pairwise (fun a b _ _ h1 h2 => by omega) hd ?_ hp
      rw [List.pairwise_map]
      exact asc.imp fun h => by omega
    subst ey
    have s2 := same_new (o := .lst ((l.map fun c : Nat => (c : Int)).map V.int)) h1
    have e2 : (upd H1 p (.lst ((l.map fun c : Nat => (c : Int)).map V.int))) p = some (.lst ((l.map fun c : Nat => (c : Int)).map V.int)) := upd_same
    have f2 := s2 _ _ e1
    have s12 := s1.trans s2
    generalize upd H1 p (.lst ((l.map fun c : Nat => (c : Int)).map V.int)) = H2 at s2 e2 f2 s12 ⊢
    refine ⟨p, rfl, ⟨_, SqL.of e2⟩, fun D hD => dc_it (walk_list (K := K) (a := p) (xs := (l.map fun c : Nat => (c : Int)).map V.int)) (fun i H' => H' D = some (.dK (Qm.kvs f ((l.take i).filter fun c => decide (f c ≠ 0)))) ∧ Same H2 H') ⟨upd_same, same_new hD⟩ (fun i H' _ ⟨_, s⟩ => SqL.of (s _ _ e2)) ?_ ?_⟩
    · rintro i x H3 H4 hi ⟨h3, s3⟩ ⟨rfl, hx⟩
      rw [List.getElem?_map, List.getElem?_map] at hx
      cases hc : l[i]? with
      | none =>
        rw [hc] at hx
        cases hx
      | some c =>
        rw [hc] at hx
        cases hx
        have hcl := List.mem_of_getElem? hc
        have et : l.take (i + 1) = l.take i ++ [c] := by
          rw [List.take_succ, hc]
          rfl
        have gd : DGet H4 a (.int (c : Int)) (some (.int (f c))) := .inl ⟨Qm.kvs f l, .inl (c : Int), .inl (s3 _ _ f2), rfl, by rw [Qm.kvs_val, if_pos hcl]⟩
        refine ⟨rfl, _, rfl, _, rfl, a, _, rfl, gd, rfl, _, rfl, ?_⟩
        by_cases c0 : f c = 0
        · refine iteF' (by rw [c0]; rfl) ⟨?_, s3⟩
          rw [et, List.filter_append, List.filter_cons_of_neg (by simpa using c0)]
          simpa using h3
        · refine iteT' (by
            rw [Bool.not_eq_true', decide_eq_false_iff_not]
            exact fun z => c0 (by injection z)) ⟨_, rfl, _, rfl, _, rfl, a, _, rfl, gd, _, .inl (c : Int), rfl, h3, ?_, ?_, fun b o ob => ?_⟩
          · rw [Qm.kvs_len]
            have := List.length_filter_le (fun c => decide (f c ≠ 0)) (l.take i)
            rw [List.length_take] at this
            rw [sizeLine_eq]
            omega
          · have hni : c ∉ (l.take i).filter fun c => decide (f c ≠ 0) := fun z => by
              have z2 := (List.mem_filter.mp z).1
              obtain ⟨j, hj⟩ := List.mem_iff_getElem?.mp z2
              have hj2 : j < i := by
                have := (List.getElem?_eq_some_iff.mp hj).1
                rw [List.length_take] at this
                omega
              rw [List.getElem?_take, if_pos hj2] at hj
              have il := (List.getElem?_eq_some_iff.mp hc).1
              have := List.pairwise_iff_getElem.mp asc j i (by omega) il hj2
              rw [(List.getElem?_eq_some_iff.mp hj).2, (List.getElem?_eq_some_iff.mp hc).2] at this
              omega
            rw [upd_same, Qm.kvs_put hni, et, List.filter_append, List.filter_cons_of_pos (by simpa using c0)]
            rfl
          · rw [upd_ne (ne_of_none ob hD)]
            exact s3 _ _ ob
    · rintro H3 ⟨h3, s3⟩
      rw [List.length_map, List.length_map, List.take_length] at h3
      exact q D H3 (s12.free hD) (s12.trans s3) h3

end
end K85

set_option Elab.async false
set_option linter.all false
set_option maxRecDepth 100000
set_option maxHeartbeats 4000000
set_option pp.maxSteps 3000
set_option exponentiation.threshold 500000
namespace K85
open PySem PySem.Spec PyProof.Rows L2 Dr Xv LamX Ps Gn Fm
section
variable {P : Program} {w : World} {K : PySem.W.Frag} {mg : Str → Option Value} {base : Heap}
theorem ps_nox {X : Cx} {st : Stmt} {t : TS} (h : PS X.nox st t) : PS X st t := ⟨fun pins s σ H D I hw =>
  wpAny_mono (h.run pins s σ H D (I.wish _) hw) (fun _ _ q => q.unwish) fun _ _ z => False.elim z⟩
def sp_family_quotient (cF cT : Addr) : Sp := fun vs H Q E => ∃ (x : V) (o : Option (List Bool)), vs = [x] ∧ FmV H x o ∧ (fmOk o = false → ∀ H', Same H H' → E (.ref cF) none H') ∧
  (fmOk o = true → ∃ (a : Addr) (fam : List Rule), x = .ref a ∧ FamAt H a fam ∧ Good fam ∧ (5040 < per fam → ∀ d H', H d = none → Same H H' → H' d = some (.xd [(("most" : Str), .int 5040)]) → E (.ref cT) (some d) H') ∧
    (per fam ≤ 5040 → per fam < 433 ∧ (¬ Qm.Like (pS fam) (per fam) → ∀ H', Same H H' → Q .non H') ∧ (Qm.Like (pS fam) (per fam) →
      ((∃ c ∈ Qm.dks (per fam) (per fam), Qm.mo (pS fam) c ≠ 0 ∧ 360 < c) → ∀ d H', H d = none → Same H H' → H' d = some (.xd [(("most" : Str), .int 360)]) → E (.ref cT) (some d) H') ∧
      ((∀ c ∈ Qm.dks (per fam) (per fam), Qm.mo (pS fam) c ≠ 0 → c ≤ 360) → (∀ c ∈ Qm.dks (per fam) (per fam), (Qm.mo (pS fam) c).natAbs ≤ 99) ∧ ∀ (p : Addr) H', H p = none → Same H H' → H' p = some (.dK (Qm.kvs (Qm.mo (pS fam)) ((Qm.dks (per fam) (per fam)).filter fun c => decide (Qm.mo (pS fam) c ≠ 0)))) → Q (.ref p) H'))))
theorem ok_family_quotient (M : Mod P w K mg base) : FnOk P w K mg base (L2.CX P w) 8 M.f_family_quotient M.d_family_quotient ["family"] (sp_family_quotient M.a_BadFamily M.a_TooMany) := by
  refine M.F_family_quotient.ok sc_family_quotient (fun vs H Q E h => ?_) (fun cdv A outer s H vs Q E hr h => ?_)
  · obtain ⟨x, o, rfl, _⟩ := h
    rfl
  · obtain ⟨x, o, rfl, hx, q1, q2⟩ := h
    have hu : (A.deeper (envOfC (Str.ofString "family_quotient") (defScope s_family_quotient) s.heap.objs.size M.f_family_quotient cdv)).units + 1 < cLine := by
      have := hu65 hr
      omega
    refine ⟨_, (pss_cons (ps_set (i := 1) sc_family_quotient.nd rfl (Or.inr rfl) (pe_call (ok_family_powers M) (hr.mono (by decide)) rfl M.g_family_powers M.k_family_powers M.b_family_powers .nil (passes_call (takes_of rfl rfl rfl rfl) (fun _ _ _ _ h => h)) (pa_cons (pv 0) pa_nil)))
      (pss_cons (ps_set (i := 2) sc_family_quotient.nd rfl (Or.inr rfl) (pe_callB call_len (by rfl) M.len0 PySem.boot_len (pa_cons (pv 1) pa_nil)))
      (C8.pss_cut (ps_if (pt_not (pt_val (pe_callB (cr_all rfl) (by rfl) M.all0 (by decide +kernel) (pa_cons (pe_lc (own := [("n", 5)]) (g := (gName 5)) (by rfl) sc_family_quotient.nd (pi_range2 (by rfl) M.range0 (pa_cons pe_int (pa_cons (pe_op op_add (pv 2) pe_int) pa_nil))) (blkOk_by (own := [("n", 5)]) (N := N_family_quotient) (sc := defScope s_family_quotient) (by decide +kernel))
        (fun _ _ _ _ _ => (pg_name (i := 5) sc_family_quotient.nd rfl (Or.inl rfl))) (fun _ _ _ _ _ => pts_nil) (fun _ _ _ _ _ => (pe_cmpR op_eq (pe_ix (r := rIxL K) ix_list (pv 1) (pe_op op_sub (pv 5) pe_int) (fun _ _ => rfl)) (pe_ix (r := rIxL K) ix_list (pv 1) (pe_op op_sub (pe_callBfun cr_gcd rfl M.i_gcd (pa_cons (pv 5) (pa_cons (pv 2) pa_nil))) pe_int) (fun _ _ => rfl)) (nomark _)))) pa_nil)))) 
        (pss_one (ps_ret pe_non)) pss_nil)
      (pss_cons (ps_set (i := 3) sc_family_quotient.nd rfl (Or.inr rfl) pe_dnewK)
      (pss_cons (ps_nox (ps_for PassesOwn.never rfl (pi_range2 (by rfl) M.range0 (pa_cons pe_int (pa_cons (pe_op op_add (pv 2) pe_int) pa_nil))) (pg_name (i := 4) sc_family_quotient.nd rfl (Or.inr rfl)) 
        (pss_one (ps_if (pt_cmpR op_eq (pe_op op_modN (pv 2) (pv 4)) pe_int (nomark _)) 
          (pss_one (ps_dput hu (pv 3) (pv 4) (pe_op op_sub (pe_un un_neg (pe_ix ix_list (pv 1) (pe_op op_sub (pv 4) pe_int) (fun _ _ => rfl))) (pe_callB (cr_sum rfl) (by rfl) M.sum0 (by decide +kernel) (pa_cons (pe_lock (pe_lc (own := [("c", 6)]) (g := (gName 6)) (by rfl) sc_family_quotient.nd (pi_keys (pv 3)) (blkOk_by (own := [("c", 6)]) (N := N_family_quotient) (sc := defScope s_family_quotient) (by decide +kernel))
        (fun _ _ _ _ _ => (pg_name (i := 6) sc_family_quotient.nd rfl (Or.inl rfl))) (fun _ _ _ _ _ => (pts_one (pt_cmpR op_eq (pe_op op_modN (pv 4) (pv 6)) pe_int (nomark _)))) (fun _ _ _ _ _ => (pe_dget hu (pv 3) (pv 6) (fun _ _ => rfl))))) pa_nil))) rfl)) pss_nil))))
      (C8.pss_cut (ps_if (pt_not (pt_val (pe_callB (cr_all rfl) (by rfl) M.all0 (by decide +kernel) (pa_cons (pe_lock (pe_lc (own := [("d", 4)]) (g := (gName 4)) (by rfl) sc_family_quotient.nd (pi_keys (pv 3)) (blkOk_by (own := [("d", 4)]) (N := N_family_quotient) (sc := defScope s_family_quotient) (by decide +kernel))
        (fun _ _ _ _ _ => (pg_name (i := 4) sc_family_quotient.nd rfl (Or.inl rfl))) (fun _ _ _ _ _ => (pts_one (pt_cmpR op_ne (pe_dget hu (pv 3) (pv 4) (fun _ _ => rfl)) pe_int (nomark _)))) (fun _ _ _ _ _ => (pe_cmpR op_le (pv 4) (pe_glob (v := .int 360) rfl M.c_GREATEST_LEVEL ⟨_, rfl⟩) (nomark _))))) pa_nil)))) 
        (pss_one (ps_raise rfl (takes_of rfl rfl rfl rfl) (pmk_oex M.U_TooMany.ox M.U_TooMany.iC M.U_TooMany.tI (ok_init_TooMany M) (hr.mono (by decide)) M.bi_TooMany .nil pass0 rfl M.g_TooMany (pa_cons (pe_glob (v := .int 360) rfl M.c_GREATEST_LEVEL ⟨_, rfl⟩) pa_nil)))) pss_nil)
      (pss_one (ps_ret (pe_call (ok_bounded_quotient M) (hr.mono (by decide)) rfl M.g_bounded_quotient M.k_bounded_quotient M.b_bounded_quotient .nil (passes_call (takes_of rfl rfl rfl rfl) (fun _ _ _ _ h => h)) (pa_cons (pv 3) pa_nil)))))))))), ?_⟩
    refine ⟨_, rfl, x, o, rfl, hx, q1, fun hk => ?_⟩
    obtain ⟨a, fam, rfl, hF, G, k1, k2⟩ := q2 hk
    refine ⟨a, fam, rfl, hF, G, k1, fun hp p1 H1 h1 s1 e1 => ?_⟩
    obtain ⟨hT, k3, k4⟩ := k2 hp
    clear q1 q2 k1 k2 hx hk hp
    obtain ⟨T, eT⟩ : ∃ T, T = per fam := ⟨_, rfl⟩
    have T1 : 1 ≤ T := by
      rw [eT]
      exact per_pos G
    rw [← eT] at hT k3 k4 e1
    obtain ⟨p, ep⟩ : ∃ p, p = pS fam := ⟨_, rfl⟩
    rw [← ep] at k3 k4 e1
    refine ⟨_, rfl, _, _, rfl, .inl ⟨_, SqL.of e1, rfl⟩, ?_⟩
    rw [row_len]
    refine ⟨fun σ' H' => σ' = [some (.ref a), some (.ref p1), some (.int (T : Int)), none, none, none, none] ∧ Same H1 H' ∧ Qm.Like p T, ?_, ?_⟩
    · refine ⟨_, rfl, _, _, rfl, rfl, 1, _, rfl, ⟨by decide, by decide, by omega, by omega⟩, fun D hD => lc_range (lo := 1) (n := ((T : Int) + 1 - 1).toNat) (fun i H' => H' D = some (.lst (((List.range i).map fun i => decide (p i = p (Nat.gcd (i + 1) T - 1))).map V.bl)) ∧ Same H1 H') ⟨upd_same, same_new hD⟩ ?_ ?_⟩
      · rintro i H2 hi ⟨h2, s2⟩
        have ec : (1 + (i : Int)) = ((i + 1 : Nat) : Int) := by omega
        rw [ec]
        have hi2 : i < T := by omega
        have e2 := s2 _ _ e1
        have g0 : 1 ≤ Nat.gcd (i + 1) T := Nat.gcd_pos_of_pos_left _ (by omega)
        have gT : Nat.gcd (i + 1) T ≤ T := Nat.le_of_dvd T1 (Nat.gcd_dvd_right _ T)
        have ix1 : atI (rowOf T p) (((i + 1 : Nat) : Int) - 1) = some (.int (p i)) := by
          rw [show ((i + 1 : Nat) : Int) - 1 = (i : Int) by omega]
          exact row_val hi2
        have ix2 : atI (rowOf T p) (((Nat.gcd (((i + 1 : Nat) : Int)).natAbs ((T : Int)).natAbs : Nat) : Int) - 1) = some (.int (p (Nat.gcd (i + 1) T - 1))) := by
          rw [Int.natAbs_natCast, Int.natAbs_natCast, show ((Nat.gcd (i + 1) T : Nat) : Int) - 1 = ((Nat.gcd (i + 1) T - 1 : Nat) : Int) by omega]
          exact row_val (by omega)
        refine ⟨rfl, yesT ⟨_, rfl, _, rfl, _, _, rfl, rfl, p1, _, _, _, rfl, rfl, SqL.of e2, ix1, _, rfl, _, rfl, _, rfl, tn <| ⟨_, _, rfl, _, _, rfl, rfl, p1, _, _, _, rfl, rfl, SqL.of e2, ix2, rfl, _, h2, ?_, ?_, fun b o ob => ?_⟩⟩⟩
        · rw [List.length_map, List.length_map, List.length_range, sizeLine_eq]
          omega
        · rw [upd_same, List.range_succ, List.map_append, List.map_append]
          have ed : decide (V.int (p i) = V.int (p (Nat.gcd (i + 1) T - 1))) = decide (p i = p (Nat.gcd (i + 1) T - 1)) := by
            by_cases c : p i = p (Nat.gcd (i + 1) T - 1)
            · rw [decide_eq_true c, decide_eq_true (by rw [c])]
            · rw [decide_eq_false c, decide_eq_false (fun z => c (by injection z))]
          rw [ed]
          rfl
        · rw [upd_ne (ne_of_none ob hD)]
          exact s2 _ _ ob
      · rintro H2 ⟨h2, s2⟩
        have eN : ((T : Int) + 1 - 1).toNat = T := by omega
        rw [eN] at h2
        refine tn <| ⟨D, _, rfl, SqL.of h2, ⟨_, rfl, ?_⟩⟩
        cases hL : ((List.range T).map fun i => decide (p i = p (Nat.gcd (i + 1) T - 1))).all id with
        | true => exact iteF ⟨rfl, s2, Qm.like_all.mp hL⟩
        | false =>
          refine iteT (k3 (fun z => ?_) H2 (s1.trans s2))
          rw [Qm.like_all.mpr z] at hL
          cases hL
    rintro σ2 H2 ⟨rfl, s2, hL⟩
    obtain ⟨k5, k6⟩ := k4 hL
    clear k3 k4
    have s02 := s1.trans s2
    refine fun pd hpd => ?_
    have hpd0 : H pd = none := s02.free hpd
    have s3 := same_new (o := .dK []) hpd
    have e3 : (upd H2 pd (.dK [])) pd = some (.dK (Qm.kvs (Qm.mo p) (Qm.dks T 0))) := upd_same
    have f3 := s3 _ _ (s2 _ _ e1)
    have npd : p1 ≠ pd := ne_of_none (s2 _ _ e1) hpd
    have s03 := s02.trans s3
    generalize upd H2 pd (.dK []) = H3 at e3 f3 s03 ⊢
    clear s3 hpd s02 s2
    refine ⟨_, rfl, _, _, rfl, rfl, 1, _, rfl, ⟨by decide, by decide, by omega, by omega⟩, ?_⟩
    refine for_range (lo := 1) (n := ((T : Int) + 1 - 1).toNat) (fun i σ H' => ∃ x4, σ = [some (.ref a), some (.ref p1), some (.int (T : Int)), some (.ref pd), x4, none, none] ∧ Same H H' ∧ H' p1 = some (.lst (rowOf T p)) ∧ H' pd = some (.dK (Qm.kvs (Qm.mo p) (Qm.dks T i)))) ⟨_, rfl, s03, f3, e3⟩ ?_ ?_
    · rintro i σ H4 hi ⟨x4, rfl, s4, f4, e4⟩
      have hi2 : i < T := by omega
      have ec : (1 + (i : Int)) = ((i + 1 : Nat) : Int) := by omega
      rw [ec]
      have ef : ((T : Int)).fmod ((i + 1 : Nat) : Int) = ((T % (i + 1) : Nat) : Int) := by
        rw [Int.fmod_eq_emod_of_nonneg _ (by omega)]
        exact (Int.natCast_emod T (i + 1)).symm
      refine ⟨_, rfl, _, rfl, _, _, rfl, rfl, by omega, rfl, _, rfl, ?_⟩
      by_cases c : (i + 1) ∣ T
      · refine iteT' (decide_eq_true (by
          show V.int (((T : Int)).fmod ((i + 1 : Nat) : Int)) = V.int 0
          rw [ef, Nat.mod_eq_zero_of_dvd c]
          rfl)) ?_
        have ix1 : atI (rowOf T p) (((i + 1 : Nat) : Int) - 1) = some (.int (p i)) := by
          rw [show ((i + 1 : Nat) : Int) - 1 = (i : Int) by omega]
          exact row_val hi2
        refine ⟨_, rfl, _, rfl, _, _, rfl, rfl, p1, _, _, _, rfl, rfl, SqL.of f4, ix1, _, rfl, pd, _, e4, trivial, fun od => ?_⟩
        have e5 : (upd H4 pd (.frz od (.dK (Qm.kvs (Qm.mo p) (Qm.dks T i))))) pd = some (.frz od (.dK (Qm.kvs (Qm.mo p) (Qm.dks T i)))) := upd_same
        have dl : (Qm.dks T i).length < 64 := by
          have h1 := Qm.dks_len T hT
          have h2 := Qm.dks_le (T := T) (i := i) (T - i)
          rw [show i + (T - i) = T by omega] at h2
          omega
        refine ⟨_, rfl, pd, od, rfl, .inl ⟨_, e5, fun D hD => lc_it walk_keys (fun j H' => H' D = some (.lst (((((Qm.dks T i).take j).filter fun c : Nat => decide (((i + 1 : Nat) : Int).fmod (c : Int) = 0)).map (Qm.mo p)).map V.int)) ∧ Same (upd H4 pd (.frz od (.dK (Qm.kvs (Qm.mo p) (Qm.dks T i))))) H') ⟨upd_same, same_new hD⟩ (fun j H' _ ⟨_, s⟩ => s _ _ e5) ?_ ?_⟩⟩
        · rintro j x H5 H6 hj ⟨h5, s5⟩ ⟨rfl, k, v, hk, rfl⟩
          obtain ⟨cc, hc, rfl, rfl⟩ := Qm.kvs_at hk
          have hcm := Qm.dks_mem.mp (List.mem_of_getElem? hc)
          have et : (Qm.dks T i).take (j + 1) = (Qm.dks T i).take j ++ [cc] := by
            rw [List.take_succ, hc]
            rfl
          refine ⟨rfl, _, rfl, _, rfl, _, _, rfl, rfl, (by show (cc : Int) ≠ 0; omega), rfl, _, rfl, ?_⟩
          by_cases c0 : ((i + 1 : Nat) : Int).fmod (cc : Int) = 0
          · refine iteT' (decide_eq_true (congrArg V.int c0)) ⟨_, rfl, _, rfl, pd, _, rfl, .inl ⟨_, .inl (cc : Int), .inr ⟨od, s5 _ _ e5⟩, rfl, by rw [Qm.kvs_val, if_pos (List.mem_of_getElem? hc)]⟩, _, h5, ?_, ?_, fun b o ob => ?_⟩
            · rw [List.length_map, List.length_map]
              have := List.length_filter_le (fun c : Nat => decide (((i + 1 : Nat) : Int).fmod (c : Int) = 0)) ((Qm.dks T i).take j)
              rw [List.length_take] at this
              rw [sizeLine_eq]
              omega
            · rw [upd_same, et, List.filter_append, List.filter_cons_of_pos (by simpa using c0), List.map_append, List.map_append]
              rfl
            · rw [upd_ne (ne_of_none ob hD)]
              exact s5 _ _ ob
          · refine iteF' (decide_eq_false (fun z => c0 (by injection z))) ⟨?_, s5⟩
            rw [et, List.filter_append, List.filter_cons_of_neg (by simpa using c0)]
            simpa using h5
        · rintro H5 ⟨h5, s5⟩
          rw [Qm.kvs_len, List.take_length] at h5
          have nD : D ≠ pd := fun z => by
            rw [z, e5] at hD
            cases hD
          have s6 := same_lock e4 s5
          refine ⟨s5 _ _ e5, tn <| ⟨D, _, rfl, SqL.of (by rw [upd_ne nD]; exact h5), _, _, rfl, rfl, ?_⟩⟩
          have e6 : (upd H5 pd (.dK (Qm.kvs (Qm.mo p) (Qm.dks T i)))) pd = some (.dK (Qm.kvs (Qm.mo p) (Qm.dks T i))) := upd_same
          have f6 := s6 _ _ f4
          generalize upd H5 pd (.dK (Qm.kvs (Qm.mo p) (Qm.dks T i))) = H6 at s6 e6 f6 ⊢
          have sb := Qm.sum_before p T c (by omega)
          have ni : i + 1 ∉ Qm.dks T i := fun z => by
            have := (Qm.dks_mem.mp z).1
            omega
          have dp : DPut H6 pd (.int ((i + 1 : Nat) : Int)) (.int (-p i - (((Qm.dks T i).filter fun c : Nat => decide (((i + 1 : Nat) : Int).fmod (c : Int) = 0)).map (Qm.mo p)).sum)) (upd H6 pd (.dK (Qm.kvs (Qm.mo p) (Qm.dks T (i + 1))))) := by
            have sb2 : -p i - (((Qm.dks T i).filter fun c : Nat => decide (((i + 1 : Nat) : Int).fmod (c : Int) = 0)).map (Qm.mo p)).sum = Qm.mo p (i + 1) := sb
            rw [sb2, Qm.dks_succ, if_pos c, ← Qm.kvs_put ni]
            exact DPut.k (k := .inl ((i + 1 : Nat) : Int)) e6 (by rw [Qm.kvs_len, sizeLine_eq]; omega)
          refine ⟨_, rfl, _, rfl, pd, _, rfl, dp, ?_⟩
          exact ⟨_, rfl, fun b o ob => by rw [upd_ne (ne_of_none ob hpd0)]; exact s6 _ _ (s4 _ _ ob), by rw [upd_ne npd]; exact f6, upd_same⟩
      · refine iteF' (decide_eq_false (fun z => c (Nat.dvd_of_mod_eq_zero ?_))) ⟨_, rfl, s4, f4, ?_⟩
        · injection z with z
          rw [ef] at z
          omega
        · rw [Qm.dks_succ, if_neg c, List.append_nil]
          exact e4
    rintro σ H4 ⟨x4, rfl, s4, f4, e4⟩
    have eN : ((T : Int) + 1 - 1).toNat = T := by omega
    rw [eN] at e4
    clear s03 f3 e3
    have dl := Qm.dks_len T hT
    refine ⟨fun σ' H' => σ' = [some (.ref a), some (.ref p1), some (.int (T : Int)), some (.ref pd), x4, none, none] ∧ Same H4 H' ∧ ∀ c ∈ Qm.dks T T, Qm.mo p c ≠ 0 → c ≤ 360, ?_, ?_⟩
    · refine ⟨pd, _, e4, trivial, fun od => ?_⟩
      have e5 : (upd H4 pd (.frz od (.dK (Qm.kvs (Qm.mo p) (Qm.dks T T))))) pd = some (.frz od (.dK (Qm.kvs (Qm.mo p) (Qm.dks T T)))) := upd_same
      refine ⟨_, rfl, pd, od, rfl, .inl ⟨_, e5, fun D hD => lc_it walk_keys (fun j H' => H' D = some (.lst (((((Qm.dks T T).take j).filter fun c : Nat => decide (Qm.mo p c ≠ 0)).map fun c => decide (c ≤ 360)).map V.bl)) ∧ Same (upd H4 pd (.frz od (.dK (Qm.kvs (Qm.mo p) (Qm.dks T T))))) H') ⟨upd_same, same_new hD⟩ (fun j H' _ ⟨_, s⟩ => s _ _ e5) ?_ ?_⟩⟩
      · rintro j x H5 H6 hj ⟨h5, s5⟩ ⟨rfl, k, v, hk, rfl⟩
        obtain ⟨cc, hc, rfl, rfl⟩ := Qm.kvs_at hk
        have et : (Qm.dks T T).take (j + 1) = (Qm.dks T T).take j ++ [cc] := by
          rw [List.take_succ, hc]
          rfl
        refine ⟨rfl, _, rfl, _, rfl, pd, _, rfl, .inl ⟨_, .inl (cc : Int), .inr ⟨od, s5 _ _ e5⟩, rfl, by rw [Qm.kvs_val, if_pos (List.mem_of_getElem? hc)]⟩, rfl, _, rfl, ?_⟩
        by_cases c0 : Qm.mo p cc = 0
        · refine iteF' (by rw [c0]; rfl) ⟨?_, s5⟩
          rw [et, List.filter_append, List.filter_cons_of_neg (by simpa using c0)]
          simpa using h5
        · refine iteT' (by
            rw [Bool.not_eq_true', decide_eq_false_iff_not]
            exact fun z => c0 (by injection z)) ⟨_, rfl, _, _, rfl, rfl, _, h5, ?_, ?_, fun b o ob => ?_⟩
          · rw [List.length_map, List.length_map]
            have := List.length_filter_le (fun c : Nat => decide (Qm.mo p c ≠ 0)) ((Qm.dks T T).take j)
            rw [List.length_take] at this
            rw [sizeLine_eq]
            omega
          · rw [upd_same, et, List.filter_append, List.filter_cons_of_pos (by simpa using c0), List.map_append, List.map_append]
            have ed : decide ((cc : Int) ≤ 360) = decide (cc ≤ 360) := by
              by_cases q : cc ≤ 360
              · rw [decide_eq_true q, decide_eq_true (by omega : (cc : Int) ≤ 360)]
              · rw [decide_eq_false q, decide_eq_false (by omega : ¬ (cc : Int) ≤ 360)]
            show some (HO.lst (_ ++ [V.bl (decide ((cc : Int) ≤ 360))])) = _
            rw [ed]
            rfl
          · rw [upd_ne (ne_of_none ob hD)]
            exact s5 _ _ ob
      · rintro H5 ⟨h5, s5⟩
        rw [Qm.kvs_len, List.take_length] at h5
        have nD : D ≠ pd := fun z => by
          rw [z, e5] at hD
          cases hD
        have s6 := same_lock e4 s5
        refine ⟨s5 _ _ e5, tn <| ⟨D, _, rfl, SqL.of (by rw [upd_ne nD]; exact h5), ⟨_, rfl, ?_⟩⟩⟩
        by_cases c : ∀ c ∈ Qm.dks T T, Qm.mo p c ≠ 0 → c ≤ 360
        · have ea : (((Qm.dks T T).filter fun c : Nat => decide (Qm.mo p c ≠ 0)).map fun c => decide (c ≤ 360)).all id = true := by
            rw [List.all_map]
            refine List.all_eq_true.mpr fun x hx => ?_
            have := List.mem_filter.mp hx
            exact decide_eq_true (c x this.1 (by simpa using this.2))
          rw [ea]
          exact iteF ⟨rfl, s6, c⟩
        · have ea : (((Qm.dks T T).filter fun c : Nat => decide (Qm.mo p c ≠ 0)).map fun c => decide (c ≤ 360)).all id = false := by
            refine Bool.eq_false_iff.mpr fun z => c fun x hx h0 => ?_
            rw [List.all_map] at z
            exact of_decide_eq_true (List.all_eq_true.mp z x (List.mem_filter.mpr ⟨hx, by simpa using h0⟩))
          rw [ea]
          have k7 : ∃ c ∈ Qm.dks T T, Qm.mo p c ≠ 0 ∧ 360 < c := by
            refine Classical.not_not.mp fun z => c fun x hx h0 => ?_
            refine Classical.not_not.mp fun y => z ⟨x, hx, h0, by omega⟩
          exact iteT (mk_init fun d H' h1 h2 h3 => k5 k7 d H' (s4.free (s6.free h1)) ((s4.trans s6).trans h2) h3)
    rintro σ5 H5 ⟨rfl, s5, hc⟩
    obtain ⟨k7, k8⟩ := k6 hc
    have s45 := s4.trans s5
    exact ⟨_, rfl, tn <| ⟨pd, Qm.mo p, Qm.dks T T, rfl, s5 _ _ e4, Qm.dks_asc T T, dl, k7, fun r H6 hr6 s6 e6 => k8 r H6 (s45.free hr6) (s45.trans s6) e6⟩⟩

end
end K85

set_option Elab.async false
set_option linter.all false
set_option maxRecDepth 100000
set_option maxHeartbeats 4000000
set_option pp.maxSteps 3000
set_option exponentiation.threshold 500000
namespace K85
open PySem PySem.Spec PyProof.Rows L2 Dr Xv LamX Ps Gn Fm
section
variable {P : Program} {w : World} {K : PySem.W.Frag} {mg : Str → Option Value} {base : Heap}
theorem Ev_low' {n k : Nat} (h : k < n) : Ev n k = 0 := by
  unfold Ev
  rw [if_neg]
  rintro ⟨z, d⟩
  have := Nat.le_of_dvd (by omega) d
  omega
abbrev s1' : S := fun _ => 1
def sp__law_sigmas : Sp := fun vs H Q _ => ∃ mo : Nat, vs = [.int (mo : Int)] ∧ mo ≤ 100 ∧
  ∀ (p : Addr) (H' : Hp), H p = none → Same H H' → H' p = some (.lst (rowOf (mo + 1) (sS s1' mo))) → Q (.ref p) H'
theorem ok__law_sigmas (M : Mod P w K mg base) : FnOk P w K mg base CX0 1 M.f__law_sigmas M.d__law_sigmas ["most"] sp__law_sigmas := by
  refine M.F__law_sigmas.ok sc__law_sigmas (fun vs H Q E h => ?_) (fun cdv A outer s H vs Q E hr h => ?_)
  · obtain ⟨mo, rfl, _⟩ := h
    rfl
  · obtain ⟨mo, rfl, hmo, q⟩ := h
    refine ⟨_, PSs.nox (pss_cons (ps_setLc (i := 1) (own := [("n", 3)]) (g := (gName 3)) (by rfl) sc__law_sigmas.nd rfl rfl (sw_true rfl rfl rfl (by decide +kernel)) (pi_range1 (by rfl) M.range0 (pa_cons (pe_op op_add (pv 0) pe_int) pa_nil)) (blkOk_by (own := [("n", 3)]) (N := N__law_sigmas) (sc := defScope s__law_sigmas) (by decide +kernel))
        (fun _ _ _ _ _ => (pg_name (i := 3) sc__law_sigmas.nd rfl (Or.inl rfl))) (fun _ _ _ _ _ => pts_nil) (fun _ _ _ _ _ => pe_int))
      (pss_cons (ps_for PassesOwn.never rfl (pi_range2 (by rfl) M.range0 (pa_cons pe_int (pa_cons (pe_op op_add (pv 0) pe_int) pa_nil))) (pg_name (i := 2) sc__law_sigmas.nd rfl (Or.inl rfl)) 
        (pss_one (ps_for PassesOwn.never rfl (pi_range3 (by rfl) M.range0 (pa_cons (pv 2) (pa_cons (pe_op op_add (pv 0) pe_int) (pa_cons (pv 2) pa_nil)))) (pg_name (i := 3) sc__law_sigmas.nd rfl (Or.inl rfl)) 
          (pss_one (ps_asg (pe_op op_add (pe_ix ix_list (pv 1) (pv 3) (fun _ _ => rfl)) (pv 2)) (pg_sub (pv 1) (pv 3) set_list))))))
      (pss_one (ps_ret (pv 1))))), ?_⟩
    obtain ⟨N, eN⟩ : ∃ N, N = mo + 1 := ⟨_, rfl⟩
    have eI : (mo : Int) + 1 = (N : Int) := by omega
    refine ⟨_, rfl, _, _, rfl, rfl, _, rfl, by omega, by omega, fun D hD => lc_range (lo := 0) (n := ((mo : Int) + 1).toNat) (fun i H' => H' D = some (.lst (rowOf i fun _ => 0)) ∧ Same H H') ⟨by rw [upd_same]; rfl, same_new hD⟩ ?_ ?_⟩
    · rintro i H4 hi ⟨h4, s5⟩
      refine ⟨rfl, yesT ⟨_, h4, ?_, ?_, ?_⟩⟩
      · rw [row_len, sizeLine_eq]
        omega
      · rw [upd_same, row_succ]
      · intro b' o' e'
        rw [upd_ne (ne_of_none e' hD)]
        exact s5 _ _ e'
    rintro H4 ⟨e4, s4⟩
    have e0 : ((mo : Int) + 1).toNat = N := by omega
    rw [e0] at e4
    refine ⟨_, rfl, _, _, rfl, rfl, 1, _, rfl, ⟨by decide, by decide, by omega, by omega⟩, ?_⟩
    refine for_range (lo := 1) (n := ((mo : Int) + 1 - 1).toNat) (fun i σ H' => ∃ x2 x3, σ = [some (.int (mo : Int)), some (.ref D), x2, x3] ∧ H' D = some (.lst (rowOf N (sS s1' i))) ∧ SameO D H4 H') ⟨_, _, rfl, e4, SameO.refl⟩ ?_ ?_
    · rintro i σ H5 hi ⟨x2, x3, rfl, h5, so⟩
      have ec : (1 + (i : Int)) = ((i + 1 : Nat) : Int) := by omega
      rw [ec]
      have rg : RgC ((i + 1 : Nat) : Int) ((mo : Int) + 1) ((i + 1 : Nat) : Int) (upN (i + 1) N (i + 1)) := by
        rw [eI]
        exact rg_up (a := i + 1) (b := N) (d := i + 1) (by omega) (by omega) (by omega) (by omega)
      refine ⟨_, rfl, _, rfl, _, _, rfl, rfl, _, rfl, _, _, _, _, rfl, rg, ?_⟩
      obtain ⟨v, ev⟩ : ∃ v, v = ((i + 1 : Nat) : Int) := ⟨_, rfl⟩
      have estep : ∀ k, sS s1' (i + 1) k = sS s1' i k + v * Ev (i + 1) k := fun k => by
        show sS s1' i k + ((i + 1 : Nat) : Int) * 1 * Ev (i + 1) k = _
        rw [ev, Int.mul_one]
      refine for_rangeC (fun j σ H' => ∃ x3, σ = [some (.int (mo : Int)), some (.ref D), some (.int v), x3] ∧
          H' D = some (.lst (rowOf N fun k => sS s1' i k + (if k < (i + 1) + j * (i + 1) then v * Ev (i + 1) k else 0))) ∧ SameO D H4 H') ⟨_, by rw [ev]; rfl, ?_, so⟩ ?_ ?_
      · rw [h5]
        congr 2
        refine row_ext fun k _ => ?_
        split
        · rw [Ev_low' (by omega), Int.mul_zero, Int.add_zero]
        · rw [Int.add_zero]
      · rintro j σ H6 hj ⟨x3, rfl, h6, so6⟩
        have hj2 := (lt_upN (by omega)).mp hj
        obtain ⟨n, en⟩ : ∃ n, n = (i + 1) + j * (i + 1) := ⟨_, rfl⟩
        have ei : ((i + 1 : Nat) : Int) + (j : Int) * ((i + 1 : Nat) : Int) = (n : Int) := by
          rw [en]
          push_cast
          rfl
        rw [ei]
        rw [← en] at hj2
        refine ⟨_, rfl, _, rfl, D, _, _, _, rfl, rfl, SqL.of h6, row_val hj2, _, rfl, _, _, rfl, rfl, _, rfl, _, rfl, D, _, _, _, rfl, rfl, h6, row_at hj2, _, rfl, ?_, so6.trans .put⟩
        rw [upd_same]
        congr 2
        have dn : (i + 1) ∣ n := ⟨1 + j, by rw [en, Nat.add_comm 1 j, Nat.mul_comm (i + 1) (j + 1), Nat.add_mul j 1, Nat.one_mul]; exact Nat.add_comm _ _⟩
        refine row_set hj2 ?_ fun k hk hne => ?_
        · show _ + (if n < (i + 1) + (j + 1) * (i + 1) then _ else 0) = _
          rw [if_pos (by rw [Nat.add_mul]; omega), ← en, if_neg (Nat.lt_irrefl _)]
          have z : Ev (i + 1) n = 1 := by
            unfold Ev
            rw [if_pos ⟨by omega, dn⟩]
          rw [z, Int.mul_one, Int.add_zero]
        · show _ + (if k < (i + 1) + (j + 1) * (i + 1) then _ else 0) = _ + (if k < (i + 1) + j * (i + 1) then _ else 0)
          by_cases q1 : k < (i + 1) + j * (i + 1)
          · rw [if_pos q1, if_pos (by rw [Nat.add_mul]; omega)]
          · rw [if_neg q1]
            by_cases q2 : k < (i + 1) + (j + 1) * (i + 1)
            · rw [if_pos q2]
              have z : Ev (i + 1) k = 0 := by
                unfold Ev
                rw [if_neg]
                rintro ⟨_, dk⟩
                have d2 := Nat.dvd_sub dk dn
                have := Nat.le_of_dvd (by omega) d2
                rw [Nat.add_mul] at q2
                omega
              rw [z, Int.mul_zero]
            · rw [if_neg q2]
      · rintro σ H6 ⟨x3, rfl, h6, so6⟩
        refine ⟨_, _, rfl, ?_, so6⟩
        rw [h6]
        congr 2
        refine row_ext fun k hk => ?_
        rw [estep, if_pos]
        have z : ¬ (i + 1 + upN (i + 1) N (i + 1) * (i + 1) < N) := fun z => Nat.lt_irrefl _ ((lt_upN (by omega)).mpr z)
        omega
    · rintro σ H5 ⟨x2, x3, rfl, h5, so⟩
      have em : ((mo : Int) + 1 - 1).toNat = mo := by omega
      rw [em, eN] at h5
      exact ⟨_, rfl, q D H5 hD (so.back s4 hD) h5⟩
/-- the weights of the first of them -/
def wS (f : Nat → Int) (l : List Nat) : S := fun k => (l.map fun c => f c * (c : Int) * (Ev c k * sS s1' 60 (k / c))).sum
theorem wS_nil (f : Nat → Int) (k : Nat) : wS f [] k = 0 := rfl
theorem wS_snoc (f : Nat → Int) (l : List Nat) (c k : Nat) : wS f (l ++ [c]) k = wS f l k + f c * (c : Int) * (Ev c k * sS s1' 60 (k / c)) := by
  unfold wS
  rw [List.map_append, List.sum_append]
  simp
theorem row_div {p w : S} (hw : ∀ k, 1 ≤ k → k ≤ 60 → w k = -(sS p 60 k)) {n : Nat} (h1 : 1 ≤ n) (h : n ≤ 60) : (-(sm (fun k => w (1 + k) * prA p 60 (n - (1 + k))) n)).fdiv (n : Int) = prA p 60 n := by
  have L := (lg_prA p 60).at_ n
  have e : -(sm (fun k => w (1 + k) * prA p 60 (n - (1 + k))) n) = sm (fun i => sS p 60 (i + 1) * prA p 60 (n - (i + 1))) n := by
    rw [← Int.neg_one_mul, ← sm_mul]
    refine sm_congr n fun k hk => ?_
    rw [hw (1 + k) (by omega) (by omega), Nat.add_comm 1 k, Int.neg_mul, Int.one_mul, Int.neg_mul, Int.neg_neg]
  rw [e, ← L, Int.mul_comm, Int.mul_fdiv_cancel _ (by omega)]
def sp__law_row : Sp := fun vs H Q _ => ∃ (q : Addr) (f : Nat → Int) (l : List Nat) (p : S), vs = [.ref q, .int 60] ∧ H q = some (.dK (Qm.kvs f l)) ∧ (∀ c ∈ l, 1 ≤ c ∧ c < 433 ∧ (f c).natAbs ≤ 99) ∧ (∀ i, (p i).natAbs ≤ 9) ∧ (∀ k, 1 ≤ k → k ≤ 60 → wS f l k = -(sS p 60 k)) ∧ ∀ (r : Addr) (H' : Hp), H r = none → Same H H' → H' r = some (.lst (rowOf 61 (prA p 60))) → Q (.ref r) H'
theorem ok__law_row (M : Mod P w K mg base) : FnOk P w K mg base CX0 2 M.f__law_row M.d__law_row ["quotient", "most"] sp__law_row := by
  refine M.F__law_row.ok sc__law_row (fun vs H Q E h => ?_) (fun cdv A outer s H vs Q E hr h => ?_)
  · obtain ⟨a, f, l, p, rfl, _⟩ := h
    rfl
  · obtain ⟨a, f, l, p, rfl, ha, hb, hpb, hw, q⟩ := h
    have wb : ∀ k, 1 ≤ k → k ≤ 60 → -(2 ^ 64) < wS f l k ∧ wS f l k < 2 ^ 64 := fun k h1 h2 => by
      have z := sS_bound (p := p) (c := 9) hpb 60 k
      rw [hw k h1 h2]
      omega
    have hu := hu_of hr
    refine ⟨_, PSs.nox (pss_cons (ps_asg (pe_tup (pa_cons (pe_call (ok__law_sigmas M) (hr.mono (by decide)) rfl M.g__law_sigmas M.k__law_sigmas M.b__law_sigmas .nil pass0 (pa_cons (pv 1) pa_nil)) (pa_cons (pe_lc (own := [("n", 5)]) (g := (gName 5)) (by rfl) sc__law_row.nd (pi_range1 (by rfl) M.range0 (pa_cons (pe_op op_add (pv 1) pe_int) pa_nil)) (blkOk_by (own := [("n", 5)]) (N := N__law_row) (sc := defScope s__law_row) (by decide +kernel))
        (fun _ _ _ _ _ => (pg_name (i := 5) sc__law_row.nd rfl (Or.inl rfl))) (fun _ _ _ _ _ => pts_nil) (fun _ _ _ _ _ => pe_int)) pa_nil))) (pg_tup rfl (pgs_cons (pg_name (i := 2) sc__law_row.nd rfl (Or.inl rfl)) (pgs_cons (pg_name (i := 3) sc__law_row.nd rfl (Or.inr rfl)) pgs_nil))))
      (pss_cons (ps_lock (ps_for PassesOwn.never rfl (pi_keys (pv 0)) (pg_name (i := 4) sc__law_row.nd rfl (Or.inl rfl)) 
        (pss_one (ps_for PassesOwn.never rfl (pi_range3 (by rfl) M.range0 (pa_cons (pv 4) (pa_cons (pe_op op_add (pv 1) pe_int) (pa_cons (pv 4) pa_nil)))) (pg_name (i := 5) sc__law_row.nd rfl (Or.inr rfl)) 
          (pss_one (ps_asg (pe_op op_add (pe_ix ix_list (pv 3) (pv 5) (fun _ _ => rfl)) (pe_op op_mul (pe_op op_mul (pe_dget hu (pv 0) (pv 4) (fun _ _ => rfl)) (pv 4)) (pe_ix ix_list (pv 2) (pe_op op_fdivB (pv 5) (pv 4)) (fun _ _ => rfl)))) (pg_sub (pv 3) (pv 5) set_list)))))))
      (pss_cons (ps_set (i := 6) sc__law_row.nd rfl (Or.inr rfl) (pe_lst (pa_cons pe_int pa_nil)))
      (pss_cons (ps_for PassesOwn.never rfl (pi_range2 (by rfl) M.range0 (pa_cons pe_int (pa_cons (pe_op op_add (pv 1) pe_int) pa_nil))) (pg_name (i := 5) sc__law_row.nd rfl (Or.inr rfl)) 
        (pss_one (ps_expr (pe_bm PySem.F.plainAttrs_list PySem.F.slot_list_append PySem.F.type_list_append mt_append (pv 6) (pa_cons (pe_op op_fdivB (pe_un un_neg (pe_callB (cr_sum rfl) (by rfl) M.sum0 (by decide +kernel) (pa_cons (pe_lc (own := [("k", 7)]) (g := (gName 7)) (by rfl) sc__law_row.nd (pi_range2 (by rfl) M.range0 (pa_cons pe_int (pa_cons (pe_op op_add (pv 5) pe_int) pa_nil))) (blkOk_by (own := [("k", 7)]) (N := N__law_row) (sc := defScope s__law_row) (by decide +kernel))
        (fun _ _ _ _ _ => (pg_name (i := 7) sc__law_row.nd rfl (Or.inl rfl))) (fun _ _ _ _ _ => pts_nil) (fun _ _ _ _ _ => (pe_op op_mul (pe_ix (r := rIxL K) ix_list (pv 3) (pv 7) (fun _ _ => rfl)) (pe_ix (r := rIxL K) ix_list (pv 6) (pe_op op_sub (pv 5) (pv 7)) (fun _ _ => rfl))))) pa_nil))) (pv 5)) pa_nil)))))
      (pss_one (ps_ret (pv 6))))))), ?_⟩
    refine ⟨_, rfl, 60, rfl, by decide, fun p1 H1 h1 s1 e1 => ?_⟩
    refine ⟨_, rfl, _, _, rfl, rfl, _, rfl, by decide, by decide, fun D hD => lc_range (lo := 0) (n := ((60 : Int) + 1).toNat) (fun i H' => H' D = some (.lst (rowOf i fun _ => 0)) ∧ Same H1 H') ⟨by rw [upd_same]; rfl, same_new hD⟩ ?_ ?_⟩
    · rintro i H4 hi ⟨h4, s5⟩
      refine ⟨rfl, yesT ⟨_, h4, ?_, ?_, ?_⟩⟩
      · rw [row_len, sizeLine_eq]
        have : i < 61 := hi
        omega
      · rw [upd_same, row_succ]
      · intro b' o' e'
        rw [upd_ne (ne_of_none e' hD)]
        exact s5 _ _ e'
    rintro H4 ⟨e4, s4⟩
    have e5 : H4 p1 = some (.lst (rowOf 61 (sS s1' 60))) := s4 _ _ e1
    refine ⟨(by show 2 ≤ sizeLine; decide), fun t ht => ⟨t, _, rfl, SqT.of upd_same, rfl, _, _, rfl, _, _, rfl, rfl, ?_⟩⟩
    have u1 := same_new (o := .tup [.ref p1, .ref D]) ht
    have a4 : H4 a = some (.dK (Qm.kvs f l)) := s4 _ _ (s1 _ _ ha)
    have hD1 : H D = none := s1.free hD
    have np : p1 ≠ D := ne_of_none e1 hD
    have nad : a ≠ D := ne_of_none (s1 _ _ ha) hD
    have nap : a ≠ p1 := ne_of_none ha h1
    obtain ⟨H5, eH5⟩ : ∃ H5, H5 = upd H4 t (.tup [.ref p1, .ref D]) := ⟨_, rfl⟩
    rw [← eH5] at u1 ⊢
    have a5 := u1 _ _ a4
    have s5 : Same H H5 := (s1.trans s4).trans u1
    have f5 : H5 D = some (.lst (rowOf 61 fun _ => 0)) := u1 _ _ e4
    have g5 : H5 p1 = some (.lst (rowOf 61 (sS s1' 60))) := u1 _ _ e5
    clear eH5 u1 ht a4 e4 e5 s4 hD e1 s1 h1
    refine ⟨a, _, a5, trivial, fun od => ?_⟩
    refine ⟨_, rfl, a, od, rfl, .inl ⟨_, upd_same, for_it walk_keys (fun i σ H' => ∃ x4 x5 x6 x7, σ = [some (.ref a), some (.int 60), some (.ref p1), some (.ref D), x4, x5, x6, x7] ∧ H' a = some (.frz od (.dK (Qm.kvs f l))) ∧ H' p1 = some (.lst (rowOf 61 (sS s1' 60))) ∧ H' D = some (.lst (rowOf 61 (wS f (l.take i)))) ∧ ∀ b o, H b = some o → b ≠ a → H' b = some o)
      ⟨_, _, _, _, rfl, upd_same, by rw [upd_ne nap.symm]; exact g5, by rw [upd_ne nad.symm]; exact f5, fun b o e ne => by rw [upd_ne ne]; exact s5 _ _ e⟩ (fun i σ H' _ ⟨_, _, _, _, _, h, _⟩ => h) ?_ ?_⟩⟩
    · rintro i x σ H6 H7 hi ⟨x4, x5, x6, x7, rfl, fa, fp, fd, fs⟩ ⟨rfl, k, v, ek, rfl⟩
      obtain ⟨c, hc, rfl, rfl⟩ := Qm.kvs_at ek
      have hcl := List.mem_of_getElem? hc
      obtain ⟨c1, c2, c3⟩ := hb c hcl
      have et : l.take (i + 1) = l.take i ++ [c] := by
        rw [List.take_succ, hc]
        rfl
      have rg : RgC (c : Int) (61 : Int) (c : Int) (upN c 61 c) := rg_up (a := c) (b := 61) (d := c) (by omega) (by omega) (by decide) (by omega)
      refine ⟨_, rfl, _, rfl, _, _, rfl, rfl, _, rfl, _, _, _, _, rfl, rg, ?_⟩
      refine for_rangeC (fun j σ H' => ∃ x5, σ = [some (.ref a), some (.int 60), some (.ref p1), some (.ref D), some (.int (c : Int)), x5, x6, x7] ∧ H' a = some (.frz od (.dK (Qm.kvs f l))) ∧ H' p1 = some (.lst (rowOf 61 (sS s1' 60))) ∧ H' D = some (.lst (rowOf 61 fun k => wS f (l.take i) k + (if k < c + j * c then f c * (c : Int) * (Ev c k * sS s1' 60 (k / c)) else 0))) ∧ ∀ b o, H b = some o → b ≠ a → H' b = some o) ⟨_, rfl, fa, fp, ?_, fs⟩ ?_ ?_
      · rw [fd]
        refine congrArg some (congrArg HO.lst (row_ext fun k _ => ?_))
        split
        · rw [Ev_low' (by omega), Int.zero_mul, Int.mul_zero, Int.add_zero]
        · rw [Int.add_zero]
      · rintro j σ H7 hj ⟨y5, rfl, ga, gp, gd, gs⟩
        have hj2 := (lt_upN (by omega)).mp hj
        obtain ⟨n, en⟩ : ∃ n, n = c + j * c := ⟨_, rfl⟩
        have ei : (c : Int) + (j : Int) * (c : Int) = (n : Int) := by
          rw [en]
          push_cast
          rfl
        rw [ei]
        rw [← en] at hj2
        have dn : c ∣ n := ⟨1 + j, by rw [en, Nat.mul_add, Nat.mul_one, Nat.mul_comm c j]⟩
        have n1 : 1 ≤ n := by
          rw [en]
          omega
        have fv : ((n : Nat) : Int).fdiv (c : Int) = ((n / c : Nat) : Int) := by
          rw [Int.fdiv_eq_ediv_of_nonneg _ (by omega)]
          exact (Int.natCast_ediv n c).symm
        have nc : n / c < 61 := Nat.lt_of_le_of_lt (Nat.div_le_self n c) hj2
        have m99 : (f c * (c : Int)).natAbs ≤ 99 * 432 := by
          rw [Int.natAbs_mul, Int.natAbs_natCast]
          exact Nat.mul_le_mul c3 (by omega)
        refine ⟨_, rfl, _, rfl, D, _, _, _, rfl, rfl, SqL.of gd, row_val hj2, _, rfl, _, rfl, a, _, rfl, .inl ⟨_, .inl (c : Int), .inr ⟨od, ga⟩, rfl, by rw [Qm.kvs_val, if_pos hcl]⟩, _, rfl, _, _, rfl, rfl, .inl ⟨by omega, by omega⟩, _, rfl, _, rfl, _, rfl, _, _, rfl, rfl, ⟨by omega, log_small2 (by omega)⟩, p1, _, _, _, rfl, rfl, SqL.of gp, by rw [fv]; exact row_val nc, _, _, rfl, rfl, .inl ⟨by omega, by omega⟩, _, _, rfl, rfl, _, rfl, _, rfl, D, _, _, _, rfl, rfl, gd, row_at hj2, _, rfl, ?_, ?_, ?_, ?_⟩
        · rw [upd_ne nad]
          exact ga
        · rw [upd_ne np]
          exact gp
        · rw [upd_same]
          congr 2
          refine row_set hj2 ?_ fun k hk hne => ?_
          · show _ + (if n < c + (j + 1) * c then _ else 0) = _
            rw [if_pos (by rw [Nat.add_mul]; omega), ← en, if_neg (Nat.lt_irrefl _), Int.add_zero]
            have z : Ev c n = 1 := by
              unfold Ev
              rw [if_pos ⟨by omega, dn⟩]
            rw [z, Int.one_mul]
          · show _ + (if k < c + (j + 1) * c then _ else 0) = _ + (if k < c + j * c then _ else 0)
            by_cases q1 : k < c + j * c
            · rw [if_pos q1, if_pos (by rw [Nat.add_mul]; omega)]
            · rw [if_neg q1]
              by_cases q2 : k < c + (j + 1) * c
              · rw [if_pos q2]
                have z : Ev c k = 0 := by
                  unfold Ev
                  rw [if_neg]
                  rintro ⟨_, dk⟩
                  have d2 := Nat.dvd_sub dk dn
                  have := Nat.le_of_dvd (by omega) d2
                  rw [Nat.add_mul] at q2
                  omega
                rw [z, Int.zero_mul, Int.mul_zero]
              · rw [if_neg q2]
        · intro b o e ne
          rw [upd_ne (ne_of_none e hD1)]
          exact gs _ _ e ne
      · rintro σ H7 ⟨y5, rfl, ga, gp, gd, gs⟩
        refine ⟨_, _, _, _, rfl, ga, gp, ?_, gs⟩
        rw [gd, et]
        refine congrArg some (congrArg HO.lst (row_ext fun k hk => ?_))
        rw [wS_snoc, if_pos]
        have z : ¬ (c + upN c 61 c * c < 61) := fun z => Nat.lt_irrefl _ ((lt_upN (by omega)).mpr z)
        omega
    rintro σ H6 ⟨x4, x5, x6, x7, rfl, fa, fp, fd, fs⟩
    rw [Qm.kvs_len, List.take_length] at fd
    refine ⟨fa, ?_⟩
    have s6 : Same H (upd H6 a (.dK (Qm.kvs f l))) := fun b o e => by
      by_cases c : b = a
      · rw [c] at e ⊢
        rw [ha] at e
        rw [upd_same]
        exact e
      · rw [upd_ne c]
        exact fs _ _ e c
    have d6 : (upd H6 a (.dK (Qm.kvs f l))) D = some (.lst (rowOf 61 (wS f l))) := by
      rw [upd_ne nad.symm]
      exact fd
    generalize upd H6 a (.dK (Qm.kvs f l)) = H7 at s6 d6 ⊢
    clear fa fp fd fs
    refine ⟨(by show 1 ≤ sizeLine; decide), fun p6 h6 => ?_⟩
    have s8 := s6.trans (same_new (o := .lst [V.int 1]) h6)
    have hp6 : H p6 = none := s6.free h6
    have d8 := (same_new (o := .lst [V.int 1]) h6) _ _ d6
    have d6' := d6
    clear d6
    have e8 : (upd H7 p6 (.lst [V.int 1])) p6 = some (.lst (rowOf 1 (prA p 60))) := by
      rw [upd_same]
      have : (prA p 60) 0 = 1 := prA_zero _ _
      show _ = some (HO.lst [V.int ((prA p 60) 0)])
      rw [this]
    generalize upd H7 p6 (.lst [V.int 1]) = H8 at s8 d8 e8 ⊢
    have n6 : D ≠ p6 := ne_of_none d6' h6
    clear h6 d6' s6
    refine ⟨_, rfl, _, _, rfl, rfl, 1, 61, rfl, ⟨by decide, by decide, by decide, by decide⟩, ?_⟩
    refine for_range (lo := 1) (n := ((61 : Int) - 1).toNat) (fun i σ H' => ∃ x5 x7, σ = [some (.ref a), some (.int 60), some (.ref p1), some (.ref D), x4, x5, some (.ref p6), x7] ∧ H' p6 = some (.lst (rowOf (i + 1) (prA p 60))) ∧ SameO p6 H8 H') ⟨_, _, rfl, e8, SameO.refl⟩ ?_ ?_
    · rintro i σ H9 hi ⟨x5, x7, rfl, e9, s9⟩
      have hi2 : i < 60 := hi
      have ec : (1 + (i : Int)) = ((i + 1 : Nat) : Int) := by omega
      rw [ec]
      have d9 := s9 _ _ d8 n6
      refine ⟨_, rfl, .inl ⟨rfl, _, SqL.of e9⟩, _, rfl, _, _, rfl, rfl, 1, _, rfl, ⟨by decide, by decide, by omega, by omega⟩, fun D2 hD2 => ?_⟩
      refine lc_range (lo := 1) (n := (((i + 1 : Nat) : Int) + 1 - 1).toNat) (fun j H' => H' D2 = some (.lst (rowOf j fun k => wS f l (1 + k) * (prA p 60) (i + 1 - (1 + k)))) ∧ Same H9 H') ⟨upd_same, same_new hD2⟩ ?_ ?_
      · rintro j H10 hj ⟨e10, s10⟩
        have hj2 : j < i + 1 := by omega
        have ej : (1 + (j : Int)) = ((1 + j : Nat) : Int) := by omega
        rw [ej]
        have ix : atI (rowOf (i + 1) (prA p 60)) (((i + 1 : Nat) : Int) - ((1 + j : Nat) : Int)) = some (.int ((prA p 60) (i + 1 - (1 + j)))) := by
          have e1 : ((i + 1 : Nat) : Int) - ((1 + j : Nat) : Int) = ((i + 1 - (1 + j) : Nat) : Int) := by omega
          rw [e1]
          exact row_val (by omega)
        refine ⟨rfl, yesT ⟨_, rfl, _, rfl, D, _, _, _, rfl, rfl, SqL.of (s10 _ _ d9), row_val (by omega), _, rfl, _, rfl, _, rfl, _, _, rfl, rfl, p6, _, _, _, rfl, rfl, SqL.of (s10 _ _ e9), ix, _, _, rfl, rfl, .inl (wb _ (by omega) (by omega)), _, e10, ?_, ?_, ?_⟩⟩
        · rw [row_len, sizeLine_eq]
          omega
        · rw [upd_same, row_succ]
        · intro b' o' e'
          rw [upd_ne (ne_of_none e' hD2)]
          exact s10 _ _ e'
      · rintro H10 ⟨e10, s10⟩
        have en : (((i + 1 : Nat) : Int) + 1 - 1).toNat = i + 1 := by omega
        rw [en] at e10
        refine ⟨D2, (List.range (i + 1)).map fun k => wS f l (1 + k) * (prA p 60) (i + 1 - (1 + k)), rfl, SqL.of e10, ?_⟩
        rw [sum_sm]
        refine ⟨_, rfl, _, rfl, _, _, rfl, rfl, ⟨by omega, log_small2 (by omega)⟩, ?_⟩
        refine ⟨p6, _, _, rfl, rfl, s10 _ _ e9, ?_, _, _, rfl, ?_, ?_⟩
        · rw [row_len, sizeLine_eq]
          omega
        · rw [upd_same, row_succ (n := i + 1)]
          have ef := row_div hw (n := i + 1) (by omega) (by omega)
          show some (HO.lst (_ ++ [V.int ((-(sm (fun k => wS f l (1 + k) * (prA p 60) (i + 1 - (1 + k))) (i + 1))).fdiv ((i + 1 : Nat) : Int))])) = _
          rw [ef]
        · exact s9.trans ((SameO.of s10).trans .put)
    · rintro σ H9 ⟨x5, x7, rfl, e9, s9⟩
      exact ⟨_, rfl, q p6 H9 hp6 (s9.back s8 hp6) e9⟩

end
end K85

set_option Elab.async false
set_option linter.all false
set_option maxRecDepth 100000
set_option maxHeartbeats 4000000
set_option pp.maxSteps 3000
set_option exponentiation.threshold 500000
namespace K85
open PySem PySem.Spec PyProof.Rows L2 Dr Xv LamX Ps Gn Fm
section
variable {P : Program} {w : World} {K : PySem.W.Frag} {mg : Str → Option Value} {base : Heap}
theorem ints_isN (ns : List Int) : PyData.eqv (.list (intsD ns)) (.list (intsD [])) = decide (ns = []) := by
  have z := ints_ne ns
  cases e : PyData.eqv (.list (intsD ns)) (.list (intsD [])) <;> rw [e] at z <;> by_cases c : ns = [] <;> simp_all
def sp__law_glaisher : Sp := fun vs H Q _ => ∃ (d : Nat) (t : Addr) (ns : List Int), vs = [.int (d : Int), .ref t] ∧ 2 ≤ d ∧ d ≤ 5 ∧ H t = some (.tup (ns.map V.int)) ∧ (∀ x ∈ ns, 1 ≤ x) ∧ ns.sum ≤ 200 ∧ ns.length ≤ 20 ∧ kp (Pg.fO d) ns = true ∧
  ∀ (p : Addr) H' (zs : List Int), H p = none → H' p = some (.tup (zs.map V.int)) → Same H H' → Pg.PairR (Pg.fO d) (Pg.fT d) ns zs → Q (.ref p) H'
theorem ok__law_glaisher (M : Mod P w K mg base) : FnOk P w K mg base CX0 1 M.f__law_glaisher M.d__law_glaisher ["d", "partition"] sp__law_glaisher := by
  refine M.F__law_glaisher.ok sc__law_glaisher (fun vs H Q E h => ?_) (fun cdv A outer s H vs Q E hr h => ?_)
  · obtain ⟨d, t, ns, rfl, _⟩ := h
    rfl
  · obtain ⟨d, t, ns, rfl, d2, d5, et, lo, hs2, hl, hk, q⟩ := h
    refine ⟨_, PSs.nox (pss_cons (ps_set (i := 2) sc__law_glaisher.nd rfl (Or.inr rfl) (pe_callTy call_list_of (by rfl) M.list0 (by decide +kernel) (pa_cons (pv 1) pa_nil)))
      (pss_cons (ps_for PassesOwn.never rfl (pi_range1 (by rfl) M.range0 (pa_cons pe_int pa_nil)) (pg_name (i := 3) sc__law_glaisher.nd rfl (Or.inl rfl)) 
        (pss_cons (ps_setLc (i := 4) (own := [("part", 6)]) (g := (gName 6)) (by rfl) sc__law_glaisher.nd rfl rfl (sw_true rfl rfl rfl (by decide +kernel)) (pi_list (pv 2)) (blkOk_by (own := [("part", 6)]) (N := N__law_glaisher) (sc := defScope s__law_glaisher) (by decide +kernel))
        (fun _ _ _ _ _ => (pg_name (i := 6) sc__law_glaisher.nd rfl (Or.inr rfl))) (fun _ _ _ _ _ => (pts_one (pt_cmpR op_ge (pe_callB (r := rLenK K) call_len (by rfl) M.len0 PySem.boot_len (pa_cons (pe_lc (wi := iList K (tVar 2)) (own := [("item", 7)]) (g := (gName 7)) (by rfl) sc__law_glaisher.nd (pi_list (pv 2)) (blkOk_by (own := [("item", 7)]) (N := N__law_glaisher) (by kernel_rfl))
        (fun _ _ _ _ _ => (pg_name (i := 7) sc__law_glaisher.nd rfl (Or.inl rfl))) (fun _ _ _ _ _ => (pts_one (pt_cmpR op_eq (pv 7) (pv 6) (nomark _)))) (fun _ _ _ _ _ => pe_int)) pa_nil)) (pv 0) (nomark _)))) (fun _ _ _ _ _ => (pv 6)))
        (C8.pss_cut (ps_if (pt_cmpR (op_eqD hr.units) (pv 4) (pe_lst pa_nil) (nomark _)) 
          (pss_one (ps_ret (pe_callTy call_tuple_of (by rfl) M.tuple0 (by decide +kernel) (pa_cons (pe_callBK (cr_sortedRev (b := true)) (by rfl) M.sorted0 (by decide +kernel) (pa_cons (pv 2) pa_nil) (pk_cons pe_bl pk_nil)) pa_nil)))) pss_nil)
        (pss_cons (ps_for PassesOwn.never rfl (pi_range1 (by rfl) M.range0 (pa_cons (pv 0) pa_nil)) (pg_name (i := 5) sc__law_glaisher.nd rfl (Or.inl rfl)) 
          (pss_one (ps_expr (pe_bm PySem.F.plainAttrs_list PySem.F.slot_list_remove PySem.F.type_list_remove mt_remove (pv 2) (pa_cons (pe_ix ix_list (pv 4) pe_int (fun _ _ => rfl)) pa_nil)))))
        (pss_one (ps_expr (pe_bm PySem.F.plainAttrs_list PySem.F.slot_list_append PySem.F.type_list_append mt_append (pv 2) (pa_cons (pe_op op_mul (pv 0) (pe_ix ix_list (pv 4) pe_int (fun _ _ => rfl))) pa_nil))))))))
      (pss_one (ps_ret (pe_tup pa_nil))))), ?_⟩
    have hd : (2 : Int) ≤ (d : Int) ∧ (d : Int) ≤ 5 := ⟨by omega, by omega⟩
    have F := Pg.gm_fair (Pg.goodO hd) (Pg.goodT hd) (Pg.eqF_of (Pg.goodO hd) (Pg.goodT hd) (Pg.tiedG hd).du)
    have I0 := Pg.inv_of (Pg.goodO hd) (Pg.goodT hd) (Pg.eqF_of (Pg.goodO hd) (Pg.goodT hd) (Pg.tiedG hd).du) lo (N := 200) (by omega) hk
    refine ⟨_, rfl, tn <| ⟨t, _, rfl, .inr (SqT.of et), fun ph hph => ?_⟩⟩
    have s0 := same_new (o := .lst (ns.map V.int)) hph
    have e0 : (upd H ph (.lst (ns.map V.int))) ph = some (.lst (ns.map V.int)) := upd_same
    generalize upd H ph (.lst (ns.map V.int)) = H1 at s0 e0 ⊢
    refine ⟨400, rfl, by decide, by decide, for_range (lo := 0) (n := (400 : Int).toNat) (fun i σ H' => ∃ (hs : List Int) (x3 x4 x5 : Option V) (k : Nat), σ = [some (.int (d : Int)), some (.ref t), some (.ref ph), x3, x4, x5, none, none] ∧ Same H H' ∧ H' ph = some (.lst (hs.map V.int)) ∧ Pg.Inv (Pg.gm (Pg.fO d) (Pg.fT d)) 200 (Pg.ctx hs) ∧ (Pg.gm (Pg.fO d) (Pg.fT d)).Run k (Pg.ctx ns) (Pg.ctx hs) ∧ i ≤ k) ⟨ns, _, _, _, 0, rfl, s0, e0, I0, .nil _, Nat.le_refl _⟩ ?_ ?_⟩
    · clear e0 s0 H1
      rintro i σ H2 hi ⟨hs, x3, x4, x5, k, rfl, s2, e2, I, R, ik⟩
      obtain ⟨rg, _⟩ := Pg.len_of I
      have hlen : hs.length + k ≤ 20 := by
        have z := Pg.run_len F (Pg.gle hd) R I0
        rw [Pg.tot1_ctx hs 200 rg, Pg.tot1_ctx ns 200 (Pg.part_le lo (by omega))] at z
        omega
      refine ⟨_, rfl, ph, rfl, ⟨_, SqL.of e2⟩, fun D hD => lc_list (K := K) (a := ph) (xs := hs.map V.int) (fun j H' => H' D = some (.lst (((hs.take j).filter fun p => decide ((d : Int) ≤ (ct p hs : Int))).map V.int)) ∧ Same H2 H') ⟨upd_same, same_new hD⟩ (fun j H' _ ⟨_, s⟩ => SqL.of (s _ _ e2)) ?_ ?_⟩
      · rintro j y H3 hj ⟨e3, s3⟩
        obtain ⟨z, hz, rfl⟩ := int_at hj
        have et2 : hs.take (j + 1) = hs.take j ++ [z] := by
          rw [List.take_succ, hz]
          rfl
        have hjl := (List.getElem?_eq_some_iff.mp hz).1
        refine ⟨rfl, _, rfl, ph, rfl, ⟨_, SqL.of (s3 _ _ e2)⟩, fun D2 hD2 => lc_list (K := K) (a := ph) (xs := hs.map V.int) (fun u H' => H' D2 = some (.lst (List.replicate (ct z (hs.take u)) (.int 1))) ∧ Same H3 H')
            ⟨upd_same, same_new hD2⟩ (fun u H' _ ⟨_, s⟩ => SqL.of (s _ _ (s3 _ _ e2))) ?_ ?_⟩
        · rintro u y H6 hu ⟨h4, s6⟩
          obtain ⟨v, hv, rfl⟩ := int_at hu
          have ej : hs.take (u + 1) = hs.take u ++ [v] := by
            rw [List.take_succ, hv]
            rfl
          refine ⟨rfl, _, rfl, _, rfl, rfl, _, rfl, ?_⟩
          rw [ej, ct_snoc]
          by_cases c : v = z
          · refine iteT' (decide_eq_true (by rw [c])) ⟨_, h4, ?_, ?_, fun b o ob => by rw [upd_ne (ne_of_none ob hD2)]; exact s6 b o ob⟩
            · rw [List.length_replicate, sizeLine_eq]
              have h5 : ct z (hs.take u) ≤ (hs.take u).length := List.countP_le_length
              rw [List.length_take] at h5
              omega
            · rw [upd_same, if_pos c, List.replicate_succ']
          · refine iteF' (decide_eq_false (fun h => c (by injection h))) ⟨?_, s6⟩
            rw [if_neg c, Nat.add_zero]
            exact h4
        · rintro H6 ⟨h4, s6⟩
          rw [List.length_map, List.take_length] at h4
          have s36 := s3.trans s6
          refine tn <| ⟨_, _, rfl, .inl ⟨_, SqL.of h4, rfl⟩, _, rfl, _, _, rfl, rfl, _, rfl, ?_⟩
          rw [List.length_replicate, et2, List.filter_append]
          by_cases c : (d : Int) ≤ (ct z hs : Int)
          · refine iteT' (decide_eq_true c) ⟨_, rfl, _, s6 _ _ e3, ?_, ?_, fun b o ob => ?_⟩
            · rw [List.length_map]
              have := List.length_filter_le (fun p => decide ((d : Int) ≤ (ct p hs : Int))) (hs.take j)
              rw [List.length_take] at this
              rw [sizeLine_eq]
              omega
            · rw [upd_same, List.filter_cons_of_pos (by exact decide_eq_true c), List.map_append]
              rfl
            · rw [upd_ne (ne_of_none ob hD)]
              exact s36 _ _ ob
          · refine iteF' (decide_eq_false c) ⟨?_, s36⟩
            rw [List.filter_cons_of_neg (by rw [decide_eq_false c]; exact Bool.false_ne_true), List.filter_nil, List.append_nil]
            exact s6 _ _ e3
      · rintro H3 ⟨e3, s3⟩
        rw [List.length_map, List.take_length] at e3
        have nDp : D ≠ ph := (ne_of_none e2 hD).symm
        have f3 := s3 _ _ e2
        have s23 := s2.trans s3
        obtain ⟨fl, efl⟩ : ∃ fl, fl = Pg.ful (d : Int) hs := ⟨_, rfl⟩
        have e3' : H3 D = some (.lst (fl.map V.int)) := by
          rw [efl]
          exact e3
        have fll : fl.length ≤ 20 := by
          rw [efl]
          exact Nat.le_trans (List.length_filter_le _ _) (by omega)
        clear e3
        have hphH : H ph = none := hph
        refine ⟨fun σ' H' => σ' = [some (.int (d : Int)), some (.ref t), some (.ref ph), some (.int (0 + (i : Int))), some (.ref D), x5, none, none] ∧ Same H H' ∧ H' ph = some (.lst (hs.map V.int)) ∧ H' D = some (.lst (fl.map V.int)) ∧ fl ≠ [], ?_, ?_⟩
        · refine ⟨_, rfl, (by show 0 ≤ sizeLine; decide), fun y hy => ?_⟩
          have sy := same_new (o := .lst []) hy
          have ey : (upd H3 y (.lst [])) y = some (.lst (List.map V.int [])) := upd_same
          have g5 := sy _ _ e3'
          have f5 := sy _ _ f3
          have s5 := s23.trans sy
          generalize upd H3 y (.lst []) = H5 at ey g5 f5 s5 ⊢
          refine ⟨.list (intsD fl), .list (intsD []), .lst (SqL.of g5) (ints_dp _), .lst (SqL.of ey) (ints_dp _), ints_shaped _, ints_shaped _, _, rfl, ?_⟩
          rw [ints_isN]
          by_cases cf : fl = []
          · refine iteT' (decide_eq_true cf) ⟨_, rfl, ph, hs, rfl, rfl, SqL.of f5, fun ys p hp hd2 h1 => ⟨p, _, rfl, .inl ⟨SqL.of upd_same, fun t' ht' => ?_⟩⟩⟩
            have hd' : ys.Pairwise (fun x y => y ≤ x) := hd2
            have sA := (same_new (o := .lst (ys.map V.int)) h1).trans (same_new (o := .tup (ys.map V.int)) ht')
            have ec := Pg.ctx_perm hp
            have st := Pg.ful_none hd (efl.symm.trans cf)
            exact q t' _ ys (s5.free ((same_new (o := .lst (ys.map V.int)) h1).free ht')) upd_same (s5.trans sA) ⟨hd', fun y hy => (rg y (hp.mem_iff.mp hy)).1, ⟨k, by rw [ec]; exact R⟩, by rw [ec]; exact st⟩
          · exact iteF' (decide_eq_false cf) ⟨rfl, s5, f5, g5, cf⟩
        clear s23 f3 e3' s3 s2 e2
        rintro σ H4 ⟨rfl, s4, f4, g4, nf⟩
        obtain ⟨z, r, er⟩ : ∃ z r, fl = z :: r := by
          cases fl with
          | nil => exact absurd rfl nf
          | cons z r => exact ⟨z, r, rfl⟩
        have hz : z ∈ Pg.ful (d : Int) hs := by
          rw [← efl, er]
          exact List.mem_cons_self
        obtain ⟨hz1, hz2⟩ := List.mem_filter.mp hz
        rw [decide_eq_true_eq] at hz2
        obtain ⟨z1, z2⟩ := rg z hz1
        obtain ⟨a, rfl⟩ : ∃ a : Nat, z = (a : Int) := ⟨z.toNat, by omega⟩
        obtain ⟨em, eg, eb⟩ := Pg.mateT hd (a := a) rfl (by omega)
        have ok : (Pg.gm (Pg.fO (d : Int)) (Pg.fT (d : Int))).ok (Pg.ctx hs) (a : Int) := ⟨by rw [eb]; omega, by
          rw [eb]
          show d ≤ ct (a : Int) hs
          omega⟩
        have g0 : ∀ H', H' D = some (.lst (fl.map V.int)) → ∃ xs, SqL K H' D xs ∧ atI xs 0 = some (.int (a : Int)) := fun H' e => ⟨_, SqL.of e, by
          rw [er]
          exact atI_nat (xs := (List.map V.int ((a : Int) :: r))) (j := 0) rfl⟩
        refine ⟨_, rfl, tn <| ⟨(d : Int), rfl, by omega, by omega, for_range (lo := 0) (n := ((d : Int)).toNat) (fun i' σ H' => ∃ (x5 : Option V) (hs' : List Int), σ = [some (.int (d : Int)), some (.ref t), some (.ref ph), some (.int (0 + (i : Int))), some (.ref D), x5, none, none] ∧ Same H H' ∧ H' D = some (.lst (fl.map V.int)) ∧ H' ph = some (.lst (hs'.map V.int)) ∧ hs'.length ≤ 20 ∧ ∀ r, ct r hs' = ct r hs - if r = (a : Int) then i' else 0) ⟨x5, hs, rfl, s4, g4, f4, by omega, fun r => by split <;> omega⟩ ?_ ?_⟩⟩
        · rintro i' σ H9 hi' ⟨y5, hs', rfl, s9, g9, f9, l9, c9⟩
          have hi2 : i' < d := by omega
          obtain ⟨j, j1, j2, j3⟩ := Pg.rem_at (ns := hs') (k := (a : Int)) (by
            rw [c9, if_pos rfl]
            omega)
          obtain ⟨xs, gx1, gx2⟩ := g0 _ g9
          refine ⟨_, rfl, .inl ⟨rfl, _, SqL.of f9⟩, _, rfl, D, xs, 0, _, rfl, rfl, gx1, gx2, tn <| ⟨ph, hs', (a : Int), j, rfl, rfl, f9, j1, j2, ?_⟩⟩
          refine ⟨_, hs'.eraseIdx j, rfl, fun b o eb => ?_, by rw [upd_ne nDp]; exact g9, upd_same, ?_, fun r => ?_⟩
          · rw [upd_ne (ne_of_none eb hphH)]
            exact s9 b o eb
          · have := List.length_eraseIdx_le hs' j
            omega
          · rw [j3, c9]
            split <;> omega
        · rintro σ H9 ⟨y5, hs', rfl, s9, g9, f9, l9, c9⟩
          have c10 : ∀ r, ct r hs' = ct r hs - if r = (a : Int) then d else 0 := c9
          have ec := Pg.fire_list (G := Pg.gm (Pg.fO (d : Int)) (Pg.fT (d : Int))) (p := (a : Int)) (c := ((d * a : Nat) : Int)) (b := d) (g := 1) eb em eg c10
          obtain ⟨xs, gx1, gx2⟩ := g0 _ g9
          refine ⟨_, rfl, .inl ⟨rfl, _, SqL.of f9⟩, _, rfl, _, rfl, D, xs, 0, _, rfl, rfl, gx1, gx2, _, _, rfl, rfl, .inl ⟨by omega, by omega⟩, tn <| ⟨ph, _, _, rfl, rfl, f9, ?_, ?_⟩⟩
          · rw [List.length_map, sizeLine_eq]
            omega
          have ev : (d : Int) * (a : Int) = ((d * a : Nat) : Int) := (Int.natCast_mul d a).symm
          have er2 : hs'.map V.int ++ [V.int ((d : Int) * (a : Int))] = (hs' ++ List.replicate 1 ((d * a : Nat) : Int)).map V.int := by
            rw [ev, List.map_append]
            rfl
          refine ⟨hs' ++ List.replicate 1 ((d * a : Nat) : Int), _, _, _, k + 1, rfl, fun b o eb => ?_, ?_, ?_, ?_, by omega⟩
          · rw [upd_ne (ne_of_none eb hphH)]
            exact s9 b o eb
          · rw [upd_same]
            exact congrArg (fun l => some (HO.lst l)) er2
          · rw [ec]
            exact I.fire F ok
          · rw [ec]
            exact Pg.Run.trans R (.cons (a : Int) ok (.nil _))
    · rintro σ H2 ⟨hs, x3, x4, x5, k, rfl, s2, e2, I, R, ik⟩
      obtain ⟨rg, _⟩ := Pg.len_of I
      have z := Pg.run_len F (Pg.gle hd) R I0
      rw [Pg.tot1_ctx ns 200 (Pg.part_le lo (by omega))] at z
      have ik' : 400 ≤ k := ik
      omega

end
end K85

set_option Elab.async false
set_option linter.all false
set_option maxRecDepth 100000
set_option maxHeartbeats 4000000
set_option pp.maxSteps 3000
set_option exponentiation.threshold 500000
namespace K85
open PySem PySem.Spec PyProof.Rows L2 Dr Xv LamX Ps Gn Fm
section
variable {P : Program} {w : World} {K : PySem.W.Frag} {mg : Str → Option Value} {base : Heap}
abbrev XL (P : Program) (w : World) (K : PySem.W.Frag) (mg : Str → Option Value) (base : Heap) (f c : Addr) (A : Around) (outer : List Env) (s : Shared) (H : Hp) (E : XK) : Cx := (cxOf CX0 P w K mg base N_law "law" (defScope s_law) f (.ref c) A outer s H E).nox
/-- _law_caught(lambda: body) -/
theorem pe_law {f c Pt : Addr} {A : Around} {outer : List Env} {s : Shared} {H : Hp} {E : XK} {body : Expr} {scope : Scope} {t : XK → TE} {k : Nat} {p lpos pos : Pos} (M : Mod P w K mg base) (TB : TabB base mg c Pt) (hr : Room (k + 2) (XL P w K mg base f c A outer s H E).A) (L : lamSB (defScope s_law) scope = true)
    (hg : Gl (XL P w K mg base f c A outer s H E) "_law_caught")
    (hbody : ∀ (A' : Around) (outer' : List Env) (s' : Shared) (H' : Hp) (E' : XK) (f' c' : Addr), Room k (A'.deeper (lamEnv (XL P w K mg base f c A outer s H E) scope s'.heap.objs.size f' c')) → PE (lamCx (XL P w K mg base f c A outer s H E) A' outer' s' H' E' scope f' c') body (t E')) :
    PE (XL P w K mg base f c A outer s H E) (.Call (.Name "_law_caught" p) [.Lambda noArgs body scope lpos] [] pos) (tLam [(Pt, qL)] (TCaught K M.a_SeriesError) t) := by
  obtain ⟨oc, od, dV, kV, doc, pm, an, cdv, ct, osl, e, lk, hcd, hD, hK⟩ := M.F__law_caught.ex
  have bC : L2.Binds K M.d__law_caught ["work"] [] := M.b__law_caught
  rw [e] at lk bC
  exact pe_lamcall (X := XL P w K mg base f c A outer s H E) (T := [(Pt, qL)]) (a := "work") hg M.g__law_caught M.k__law_caught lk hcd bC sc__law_caught rfl (Or.inl rfl)
    (caught_gives sc__law_caught rfl rfl rfl rfl M.g_SeriesError) TB rfl (List.mem_singleton.mpr rfl) (fun p hp _ => by rw [List.mem_singleton.mp hp]; rfl) hr (lamS_by L) rfl (fun _ _ _ _ _ => rfl) hbody

end
def forBody : Stmt → List Stmt
  | .For _ _ b _ _ => b
  | _ => []
abbrev lapB : List Stmt := forBody ((defBody s_law).getD 1 (.Pass ⟨0, 0, 0, 0⟩))
abbrev tailB : List Stmt := (defBody s_law).drop 2
/-- the law's slots: the draw is known -/
def Slots (a d : Addr) (σ : L2.St) : Prop := ∃ x2 x3 x4 x5 x6 x7 x8 x9 x10 x11 x12 x13 x14 x15 x16 x17 x18 x19, σ = [some (.ref a), some (.ref d), x2, x3, x4, x5, x6, x7, x8, x9, x10, x11, x12, x13, x14, x15, x16, x17, x18, x19]
theorem use_row {cF cM a : Addr} {fam : List Rule} {m : Nat} {H : Hp} {Q : VK} {E : XK} (hF : FamAt H a fam) (G : Good fam) (hm : m ≤ 100) (q : ∀ (p : Addr) (H' : Hp), H p = none → Same H H' → H' p = some (.lst (rowOf (m + 1) (prA (pS fam) m))) → Q (.ref p) H') : sp_family_row cF cM [.ref a, .int (m : Int)] H Q E := by
  refine ⟨_, _, _, rfl, hF.v G, .int _, fun z => ?_, fun _ z => ?_, fun _ _ => ⟨a, fam, m, rfl, rfl, hF, G, hm, q⟩⟩
  · rw [fmOk_good G] at z
    cases z
  · rw [within_yes (by omega) (by omega)] at z
    cases z
/-- the keys of the quotient -/
def qK (fam : List Rule) : List Nat := (Qm.dks (per fam) (per fam)).filter fun c => decide (Qm.mo (pS fam) c ≠ 0)
theorem qK_ok {fam : List Rule} {c : Nat} (h : c ∈ qK fam) : 1 ≤ c ∧ c ≤ per fam ∧ Qm.mo (pS fam) c ≠ 0 := by
  obtain ⟨h1, h2⟩ := List.mem_filter.mp h
  have := (Qm.dks_mem.mp h1).1
  exact ⟨this.1, this.2, by simpa using h2⟩
theorem qK_asc (fam : List Rule) : (qK fam).Pairwise (· < ·) := (Qm.dks_asc _ _).filter _
theorem qK_len {fam : List Rule} (h : per fam < 433) : (qK fam).length < 64 := Nat.lt_of_le_of_lt (List.length_filter_le _ _) (Qm.dks_len _ h)
theorem use_fq {cF cT a : Addr} {fam : List Rule} {H : Hp} {Q : VK} {E : XK} (hF : FamAt H a fam) (G : Good fam) (h5 : ∀ r ∈ fam, r.2.2 ≤ 5) (hp : per fam ≤ 240) (q1 : ¬ Qm.Like (pS fam) (per fam) → ∀ H', Same H H' → Q .non H')
    (q2 : Qm.Like (pS fam) (per fam) → ∀ (p : Addr) H', H p = none → Same H H' → H' p = some (.dK (Qm.kvs (Qm.mo (pS fam)) (qK fam))) → Q (.ref p) H') : sp_family_quotient cF cT [.ref a] H Q E := by
  refine ⟨_, _, rfl, hF.v G, fun z => ?_, fun _ => ⟨a, fam, rfl, hF, G, fun z => ?_, fun _ => ⟨by omega, q1, fun hL => ⟨fun hc => ?_, fun _ => ⟨fun c hc => ?_, q2 hL⟩⟩⟩⟩⟩
  · rw [fmOk_good G] at z
    cases z
  · omega
  · obtain ⟨c, h1, _, h3⟩ := hc
    have := (Qm.dks_mem.mp h1).1
    omega
  · have c1 := (Qm.dks_mem.mp hc).1
    have := Qm.mo_bound (b := 5) (Qm.pS_small G h5) c1.1 (by omega)
    omega
/-- where it is unlike -/
def ulk (p : S) (T i : Nat) : List Int := ((List.range i).filter fun i => decide (p i ≠ p (Nat.gcd (i + 1) T - 1))).map fun i => ((i + 1 : Nat) : Int)
theorem ulk_succ (p : S) (T i : Nat) : ulk p T (i + 1) = ulk p T i ++ if p i = p (Nat.gcd (i + 1) T - 1) then [] else [((i + 1 : Nat) : Int)] := by
  unfold ulk
  rw [List.range_succ, List.filter_append, List.map_append]
  congr 1
  by_cases c : p i = p (Nat.gcd (i + 1) T - 1)
  · rw [if_pos c, List.filter_cons_of_neg (by simpa using c)]
    rfl
  · rw [if_neg c, List.filter_cons_of_pos (by simpa using c)]
    rfl
theorem ulk_len (p : S) (T i : Nat) : (ulk p T i).length ≤ i := by
  unfold ulk
  rw [List.length_map]
  have := List.length_filter_le (fun i => decide (p i ≠ p (Nat.gcd (i + 1) T - 1))) (List.range i)
  rw [List.length_range] at this
  exact this
theorem ulk_nil {p : S} {T : Nat} : ulk p T T = [] ↔ Qm.Like p T := by
  unfold ulk
  rw [List.map_eq_nil_iff, List.filter_eq_nil_iff]
  constructor
  · intro h n h1 h2
    have z := h (n - 1) (List.mem_range.mpr (by omega))
    rw [show n - 1 + 1 = n by omega] at z
    exact Classical.not_not.mp (by simpa using z)
  · intro h i hi
    have := List.mem_range.mp hi
    simpa using h (i + 1) (by omega) (by omega)
theorem asg {te : TE} {g : TG} {tb : TS} {D : Ends} {σ : L2.St} {H : Hp} (h : te σ H fun x H1 => g x σ H1 fun σ' H' => tb D σ' H') : tSeq (tAsg te g) tb D σ H := h
theorem tst {r : R2} {ta tb : TE} {σ : L2.St} {H : Hp} {Q : Bool → Hp → Prop} (h : ta σ H fun x H1 => tb σ H1 fun y H2 => r x y H2 fun z H3 => ∃ k, z = .bl k ∧ Q k H3) : tTest (tOp r ta tb) σ H Q := h
end K85

set_option Elab.async false
set_option linter.all false
set_option maxRecDepth 100000
set_option maxHeartbeats 4000000
set_option pp.maxSteps 3000
set_option exponentiation.threshold 500000
namespace K85
open PySem PySem.Spec PyProof.Rows L2 Dr Xv LamX Ps Gn Fm
section
variable {P : Program} {w : World} {K : PySem.W.Frag} {mg : Str → Option Value} {base : Heap} {f c Pt : Addr} {A : Around} {outer : List Env} {s : Shared} {H : Hp} {E : XK}
theorem _root_.Gn.Sta.perm {Pt : Addr} {H : Hp} {d l c : Addr} {os os' : List (Addr × HO)} (S : Sta Pt H d l c os) (h : os.Perm os') : Sta Pt H d l c os' := ⟨S.W, fun x hx => S.O x (h.mem_iff.mpr hx), (h.pairwise_iff fun z => z.symm).mp S.P⟩
theorem _root_.Fm.FamAt.ext {H H' : Hp} {a : Addr} {fam : List Rule} (h : FamAt H a fam) (s : ExtN H H') : FamAt H' a fam := by
  obtain ⟨ts, rs, e, R⟩ := h
  exact ⟨ts, rs, s _ _ e (fun _ z => nomatch z), R.l1, R.l2, fun i t r f a b c => ⟨s _ _ (R.at_ i t r f a b c).1 (fun _ z => nomatch z), s _ _ (R.at_ i t r f a b c).2 (fun _ z => nomatch z)⟩⟩
theorem _root_.Fm.FamAt.putL {H : Hp} {a y : Addr} {fam : List Rule} {xs : List V} {o : HO} (h : FamAt H a fam) (n : a ≠ y) (e : H y = some (.lst xs)) : FamAt (upd H y o) a fam := by
  obtain ⟨ts, rs, ea, R⟩ := h
  have tu : ∀ {b : Addr} {zs : List V}, H b = some (.tup zs) → (upd H y o) b = some (.tup zs) := fun {b zs} eb => by
    rw [upd_ne (fun z => by rw [z, e] at eb; cases eb)]
    exact eb
  exact ⟨ts, rs, by rw [upd_ne n]; exact ea, R.l1, R.l2, fun i t r f a b c => ⟨tu (R.at_ i t r f a b c).1, tu (R.at_ i t r f a b c).2⟩⟩
theorem ints_isN' (ns : List Int) : (!PyData.eqv (.list (intsD ns)) (.list (intsD []))) = decide (ns ≠ []) := ints_ne ns
theorem lap_ok (M : Mod P w K mg base) (TB : TabB base mg c Pt) (hr : Room 10 (XL P w K mg base f c A outer s H E).A) :
    ∃ t, PSs (XL P w K mg base f c A outer s H E) lapB t ∧ ∀ (D : Ends) (σ : L2.St) (H0 : Hp) (os : List (Addr × HO)) (ra d l cc : Addr), Slots ra d σ → Sta Pt H0 d l cc os → (∀ σ' H', Slots ra d σ' → Sta Pt H' d l cc os → D.nx σ' H') → (∀ σ' H', Slots ra d σ' → Sta Pt H' d l cc os → D.ct σ' H') → t D σ H0 := by
  have hrL : Room 10 (XL P w K mg base f c A outer s H E).A := hr
  have hu := hu_of hr
  have hx : ∀ {X : Cx}, Passes (L2.CX X.prog X.w) X (fun _ _ _ => False) := fun {X} => passes_call L2.takes0 (fun _ _ _ _ z => z)
  refine ⟨_, (pss_cons (ps_set (i := 3) sc_law.nd rfl (Or.inr rfl) (pe_call (ok__law_family M) (hr.mono (by decide)) rfl M.g__law_family M.k__law_family M.b__law_family .nil pass0 (pa_cons (pv 1) pa_nil)))
      (C8.pss_cut (ps_if (pt_cmpR op_eq (pe_call (ok__law_take M) (hr.mono (by decide)) rfl M.g__law_take M.k__law_take M.b__law_take .nil pass0 (pa_cons (pv 1) (pa_cons pe_int pa_nil))) pe_int (nomark _)) 
        (pss_one (ps_set (i := 3) sc_law.nd rfl (Or.inr rfl) (pe_lc (own := [("k", 17)]) (g := (gName 17)) (by rfl) sc_law.nd (pi_range1 (by rfl) M.range0 (pa_cons (pe_call (ok__law_take M) (hr.mono (by decide)) rfl M.g__law_take M.k__law_take M.b__law_take .nil pass0 (pa_cons (pv 1) (pa_cons pe_int pa_nil))) pa_nil)) (blkOk_by (own := [("k", 17)]) (N := N_law) (sc := defScope s_law) (by decide +kernel))
        (fun _ _ _ _ _ => (pg_name (i := 17) sc_law.nd rfl (Or.inl rfl))) (fun _ _ _ _ _ => pts_nil) (fun _ _ _ _ _ => (pe_tup (pa_cons (pe_call (ok__law_pick M) (hr.mono (by decide)) rfl M.g__law_pick M.k__law_pick M.b__law_pick .nil pass0 (pa_cons (pv 1) (pa_cons (pe_lst (pa_cons pe_int (pa_cons pe_int (pa_cons pe_int (pa_cons pe_int (pa_cons pe_int pa_nil)))))) pa_nil))) (pa_cons (pe_tup (pa_cons pe_int pa_nil)) (pa_cons (pe_op op_add pe_int (pe_call (ok__law_take M) (hr.mono (by decide)) rfl M.g__law_take M.k__law_take M.b__law_take .nil pass0 (pa_cons (pv 1) (pa_cons pe_int pa_nil)))) pa_nil)))))))) pss_nil)
      (pss_cons (ps_asg (pe_tup (pa_cons (pe_call (ok__law_period M) (hr.mono (by decide)) rfl M.g__law_period M.k__law_period M.b__law_period .nil pass0 (pa_cons (pv 3) pa_nil)) (pa_cons (pe_lst pa_nil) pa_nil))) (pg_tup rfl (pgs_cons (pg_name (i := 4) sc_law.nd rfl (Or.inr rfl)) (pgs_cons (pg_name (i := 5) sc_law.nd rfl (Or.inr rfl)) pgs_nil))))
      (C8.pss_cut (ps_if (pt_cmpR op_gt (pv 4) pe_int (nomark _)) 
        (pss_one ps_continue) pss_nil)
      (pss_cons (ps_set (i := 6) sc_law.nd rfl (Or.inr rfl) (pe_lc (own := [("n", 10)]) (g := (gName 10)) (by rfl) sc_law.nd (pi_range2 (by rfl) M.range0 (pa_cons pe_int (pa_cons (pe_op op_add (pv 4) pe_int) pa_nil))) (blkOk_by (own := [("n", 10)]) (N := N_law) (sc := defScope s_law) (by decide +kernel))
        (fun _ _ _ _ _ => (pg_name (i := 10) sc_law.nd rfl (Or.inl rfl))) (fun _ _ _ _ _ => pts_nil) (fun _ _ _ _ _ => (pe_op op_sub pe_int (pe_callB (r := rLenK K) call_len (by rfl) M.len0 PySem.boot_len (pa_cons (pe_call (ok__law_mates M) (hr.mono (by decide)) rfl M.g__law_mates M.k__law_mates M.b__law_mates .nil pass0 (pa_cons (pv 3) (pa_cons (pv 10) pa_nil))) pa_nil))))))
      (pss_cons (ps_setLc (i := 7) (own := [("n", 10)]) (g := (gName 10)) (by rfl) sc_law.nd rfl rfl (sw_true rfl rfl rfl (by decide +kernel)) (pi_range2 (by rfl) M.range0 (pa_cons pe_int (pa_cons (pe_op op_add (pv 4) pe_int) pa_nil))) (blkOk_by (own := [("n", 10)]) (N := N_law) (sc := defScope s_law) (by decide +kernel))
        (fun _ _ _ _ _ => (pg_name (i := 10) sc_law.nd rfl (Or.inl rfl))) (fun _ _ _ _ _ => (pts_one (pt_cmpR op_ne (pe_ix (r := rIxL K) ix_list (pv 6) (pe_op op_sub (pv 10) pe_int) (fun _ _ => rfl)) (pe_ix (r := rIxL K) ix_list (pv 6) (pe_op op_sub (pe_call (ok__law_common M) (hr.mono (by decide)) rfl M.g__law_common M.k__law_common M.b__law_common .nil pass0 (pa_cons (pv 10) (pa_cons (pv 4) pa_nil))) pe_int) (fun _ _ => rfl)) (nomark _)))) (fun _ _ _ _ _ => (pv 10)))
      (pss_cons (ps_set (i := 8) sc_law.nd rfl (Or.inl rfl) (pe_law (t := fun E' => (tBM K "list" rAppend (tVar 5) (tCons (tCallK (sp_family_quotient M.a_BadFamily M.a_TooMany) gR E' tNil (tCons (tVar 3) tNil)) tNil))) M TB hrL (by decide +kernel) rfl
          (fun A' outer' s' H' E' f' c' hr' => (pe_bm PySem.F.plainAttrs_list PySem.F.slot_list_append PySem.F.type_list_append mt_append (pv 5) (pa_cons (pe_callK0 (ok_family_quotient M) (hr'.mono (by decide)) rfl M.g_family_quotient M.k_family_quotient M.h_family_quotient (passes_call (takes_of rfl rfl rfl rfl) (fun _ _ _ _ h => h)) (pk_cons (pv 3) pk_nil)) pa_nil)))))
      (C8.pss_cut (ps_if (pt_cmpR op_notN (pv 8) pe_non (nomark _)) 
        (pss_one (ps_ret pe_bl)) pss_nil)
      (C8.pss_cut (ps_if (pt_cmpR (op_neD hr.units) (pv 7) (pe_lst pa_nil) (nomark _)) 
        (C8.pss_cut (ps_if (pt_cmpR op_notN (pe_ix ix_list (pv 5) pe_int (fun _ _ => rfl)) pe_non (nomark _)) 
          (pss_one (ps_ret pe_bl)) pss_nil)
        (pss_one ps_continue)) pss_nil)
      (pss_cons (ps_set (i := 9) sc_law.nd rfl (Or.inr rfl) (pe_ix ix_list (pv 5) pe_int (fun _ _ => rfl)))
      (C8.pss_cut (ps_if (PW.pt (pw_or (pt_not (pt_val (pe_callB call_isi (by rfl) M.isinstance0 boot_isinstance (pa_cons (pv 9) (pa_cons (pe_bltn (v := .ty "dict") rfl M.dict0 (by decide +kernel) rfl) pa_nil))))) (pw_or (pt_cmpR (op_neD hr.units) (pe_callTy (call_listD rfl) (by rfl) M.list0 (by decide +kernel) (pa_cons (pv 9) pa_nil)) (pe_callB (call_sortedDI rfl) (by rfl) M.sorted0 (by decide +kernel) (pa_cons (pv 9) pa_nil)) (nomark _)) (pw_or1 (pt_cmpR op_in_seq pe_int (pe_listVals rfl (by rfl) M.list0 (pv 9)) (by rfl)))))) 
        (pss_one (ps_ret pe_bl)) pss_nil)
      (C8.pss_cut (ps_if (PW.pt (pw_or (pt_cmpR (op_neD hr.units) (pe_call (ok__law_row M) (hr.mono (by decide)) rfl M.g__law_row M.k__law_row M.b__law_row .nil pass0 (pa_cons (pv 9) (pa_cons pe_int pa_nil))) (pe_call (ok_family_row M) (hr.mono (by decide)) rfl M.g_family_row M.k_family_row M.b_family_row .nil hx (pa_cons (pv 3) (pa_cons pe_int pa_nil))) (nomark _)) (pw_or1 (pt_cmpR (op_neDK hr.units) (pe_call (ok_family_quotient M) (hr.mono (by decide)) rfl M.g_family_quotient M.k_family_quotient M.b_family_quotient .nil hx (pa_cons (pv 3) pa_nil)) (pv 9) (nomark _))))) 
        (pss_one (ps_ret pe_bl)) pss_nil)
      (pss_one (ps_for PassesOwn.never rfl (pi_range2 (by rfl) M.range0 (pa_cons pe_int (pa_cons (pe_op op_add (pv 4) pe_int) pa_nil))) (pg_name (i := 10) sc_law.nd rfl (Or.inr rfl)) 
        (pss_one (ps_if (pt_cmpR op_ne (pe_callB (cr_sum rfl) (by rfl) M.sum0 (by decide +kernel) (pa_cons (pe_lock (pe_lc (own := [("c", 18)]) (g := (gName 18)) (by rfl) sc_law.nd (pi_keys (pv 9)) (blkOk_by (own := [("c", 18)]) (N := N_law) (sc := defScope s_law) (by decide +kernel))
        (fun _ _ _ _ _ => (pg_name (i := 18) sc_law.nd rfl (Or.inl rfl))) (fun _ _ _ _ _ => (pts_one (pt_cmpR op_eq (pe_op op_modN (pv 10) (pv 18)) pe_int (nomark _)))) (fun _ _ _ _ _ => (pe_dget hu (pv 9) (pv 18) (fun _ _ => rfl))))) pa_nil)) (pe_un un_neg (pe_ix ix_list (pv 6) (pe_op op_sub (pv 10) pe_int) (fun _ _ => rfl))) (nomark _)) 
          (pss_one (ps_ret pe_bl)) pss_nil)))))))))))))))), ?_⟩
  rintro D σ H0 os ra d l cc ⟨x2, x3, x4, x5, x6, x7, x8, x9, x10, x11, x12, x13, x14, x15, x16, x17, x18, x19, rfl⟩ S0 fin finc
  refine ⟨_, rfl, tn <| ⟨d, l, cc, rfl, S0.dr, fun a0 H1 fam0 ha0 nd0 nl0 D1 s1 hF1 dr => ?_⟩⟩
  have S1 := S0.sx s1 D1
  -- which family
  refine ⟨fun σ' H' => ∃ (a : Addr) (fam : List Rule), σ' = [some (.ref ra), some (.ref d), x2, some (.ref a), x4, x5, x6, x7, x8, x9, x10, x11, x12, x13, x14, x15, x16, x17, x18, x19] ∧ Sta Pt H' d l cc os ∧ FamAt H' a fam ∧ Good fam ∧ (∀ r ∈ fam, r.2.2 ≤ 5) ∧ a ≠ l, ?_, ?_⟩
  · refine ⟨_, rfl, tn0 <| ⟨d, l, cc, 2, rfl, S1.dr, by decide, log_small (n := 2) (by decide), fun u H2 u0 u1 D2 s2 => ⟨rfl, _, rfl, ?_⟩⟩⟩
    have S2 := S1.sx s2 D2
    by_cases hu0 : u = 0
    · refine iteT' (decide_eq_true (by rw [hu0])) ?_
      refine ⟨_, rfl, tn0 <| ⟨d, l, cc, 3, rfl, D2, by decide, log_small (n := 3) (by decide), fun v H3 v0 v1 D3 s3 => ?_⟩⟩
      have S3 := S2.sx s3 D3
      obtain ⟨n, rfl⟩ : ∃ n : Nat, v = (n : Int) := ⟨v.toNat, by omega⟩
      refine tn <| ⟨(n : Int), rfl, by omega, by omega, fun Df hDf => lc_range (lo := 0) (n := ((n : Nat) : Int).toNat) (fun j H' => ∃ ts rs fam, H' Df = some (.lst (ts.map V.ref)) ∧ RulesAt H' ts rs fam ∧ fam.length = j ∧ (∀ f ∈ fam, GoodR f ∧ f.2.2 ≤ 5) ∧ Draw H' d l cc ∧ SameX d l H3 H') ⟨[], [], [], upd_same, ⟨rfl, rfl, fun i t r f a => by cases a⟩, rfl, (fun f h => by cases h), D3.same (same_new hDf), sameX_new hDf⟩ ?_ ?_⟩
      · rintro j H4 hj ⟨ts, rs, fam, e4, R, hl, hf, D4, s4⟩
        obtain ⟨nfd, nfl, nfc⟩ := D3.ne hDf
        refine ⟨rfl, yesT ⟨_, rfl, (by show 5 ≤ sizeLine; decide), fun z1 h1 => ?_⟩⟩
        have s5 := same_new (o := .lst [.int 1, .int 2, .int 3, .int 4, .int 6]) h1
        have D5 := D4.same s5
        refine tn <| ⟨d, l, cc, z1, [.int 1, .int 2, .int 3, .int 4, .int 6], rfl, D5, (fun H' s' => SqL.of (s' _ _ upd_same (D4.ne h1).1 (D4.ne h1).2.1)), by simp, (by show 5 ≤ 1000; decide), fun mv H6 hmv D6 s6 => ?_⟩
        obtain ⟨m, rfl, m1, m2⟩ : ∃ m : Int, mv = .int m ∧ 1 ≤ m ∧ m ≤ 6 := by
          simp only [List.mem_cons, List.not_mem_nil, or_false] at hmv
          rcases hmv with rfl | rfl | rfl | rfl | rfl
          · exact ⟨1, rfl, by decide, by decide⟩
          · exact ⟨2, rfl, by decide, by decide⟩
          · exact ⟨3, rfl, by decide, by decide⟩
          · exact ⟨4, rfl, by decide, by decide⟩
          · exact ⟨6, rfl, by decide, by decide⟩
        have s46 : SameX d l H4 H6 := (SameX.of s5).trans s6
        refine ⟨(by show 1 ≤ sizeLine; decide), fun r hr => ?_⟩
        have s7 := same_new (o := .tup [.int 0]) hr
        have e7 : (upd H6 r (.tup [.int 0])) r = some (.tup (([0] : List Int).map V.int)) := upd_same
        have D7 := D6.same s7
        generalize upd H6 r (.tup [.int 0]) = H7 at s7 e7 D7 ⊢
        refine ⟨_, rfl, tn0 <| ⟨d, l, cc, 5, rfl, D7, by decide, log_small (n := 5) (by decide), fun lv H8 l0 l1 D8 s8 => ⟨_, _, rfl, rfl, tn <| ⟨(by show 3 ≤ sizeLine; decide), fun t ht => ?_⟩⟩⟩⟩
        have s9 := same_new (o := .tup [.int m, .ref r, .int (1 + lv)]) ht
        have t9 : (upd H8 t (.tup [.int m, .ref r, .int (1 + lv)])) t = some (.tup [.int m, .ref r, .int (1 + lv)]) := upd_same
        have D9 := D8.same s9
        have s49 : SameX d l H4 (upd H8 t (.tup [.int m, .ref r, .int (1 + lv)])) := s46.trans ((SameX.of s7).trans (s8.trans (.of s9)))
        have e9 := s9 _ _ (tup_sx D7 s8 e7)
        generalize upd H8 t (.tup [.int m, .ref r, .int (1 + lv)]) = H9 at s9 t9 D9 s49 e9 ⊢
        have f9 := s49 _ _ e4 nfd nfl
        refine ⟨_, f9, ?_, ts ++ [t], rs ++ [r], fam ++ [(m, [0], 1 + lv)], ?_, ?_, ?_, ?_, D9.put nfd nfl nfc, ?_⟩
        · rw [List.length_map, R.l1, hl, sizeLine_eq]
          omega
        · rw [upd_same, List.map_append]
          rfl
        · have ntu : ∀ {b : Addr} {xs : List V}, H9 b = some (.tup xs) → (upd H9 Df (.lst (List.map V.ref ts ++ [V.ref t]))) b = some (.tup xs) := fun {b xs} eb => by
            rw [upd_ne (fun z => by rw [z, f9] at eb; cases eb)]
            exact eb
          exact R.snoc (fun b xs eb => ntu (tup_sx D4 s49 eb)) (ntu t9) (ntu e9)
        · rw [List.length_append, hl]
          rfl
        · intro f hf2
          rcases List.mem_append.mp hf2 with h | h
          · exact hf f h
          · rw [List.mem_singleton.mp h]
            exact ⟨good0 m1 (by omega) (by show 1 ≤ 1 + lv; omega) (by show 1 + lv ≤ 9; omega), by show 1 + lv ≤ 5; omega⟩
        · intro b o e b1 b2
          rw [upd_ne (ne_of_none e hDf)]
          exact (s4.trans s49) b o e b1 b2
      · rintro H4 ⟨ts, rs, fam, e4, R, hl, hf, D4, s4⟩
        have hl3 : fam.length ≤ 6 := by omega
        exact ⟨Df, fam, rfl, S3.sx s4 D4, ⟨ts, rs, e4, R⟩, ⟨hl3, fun f h => (hf f h).1⟩, fun f h => (hf f h).2, (D3.ne hDf).2.1⟩
    · refine iteF' (decide_eq_false (fun h => hu0 (by injection h))) ⟨a0, fam0, rfl, S2, hF1.sx S1.dr nl0 s2, dr.good, fun r hr => ?_, nl0⟩
      have := (dr.r r hr).2.2
      omega
  clear S1 D1 s1 hF1 dr nl0 nd0 ha0 S0 a0 fam0 H1
  rintro σ1 H1 ⟨a, fam, rfl, S1, hF1, G, h5, al⟩
  -- period, told
  obtain ⟨T, eT⟩ : ∃ T, T = per fam := ⟨_, rfl⟩
  obtain ⟨p, ep⟩ : ∃ p, p = pS fam := ⟨_, rfl⟩
  have T1 : 1 ≤ T := by
    rw [eT]
    exact per_pos G
  refine ⟨_, rfl, tn <| ⟨a, fam, rfl, hF1, G, fun H2 s2 => ⟨(by show 0 ≤ sizeLine; decide), fun y hy => tn <| ⟨(by show 2 ≤ sizeLine; decide), fun Tp hT => ⟨Tp, _, rfl, SqT.of upd_same, rfl, _, _, rfl, _, _, rfl, rfl, ?_⟩⟩⟩⟩⟩
  rw [← eT]
  have S3 := ((S1.same s2).newL (xs := []) hy).same (same_new (o := .tup [.int (T : Int), .ref y]) hT)
  have hF3 := hF1.same (s2.trans ((same_new (o := .lst []) hy).trans (same_new (o := .tup [.int (T : Int), .ref y]) hT)))
  generalize upd (upd H2 y (.lst [])) Tp (.tup [.int (T : Int), .ref y]) = H3 at S3 hF3 ⊢
  have nay : a ≠ y := (hF1.same s2).ne hy
  clear S1 hF1 s2 hy hT
  refine ⟨fun σ' H' => σ' = [some (.ref ra), some (.ref d), x2, some (.ref a), some (.int (T : Int)), some (.ref y), x6, x7, x8, x9, x10, x11, x12, x13, x14, x15, x16, x17, x18, x19] ∧ H' = H3 ∧ T ≤ 240, ?_, ?_⟩
  · refine ⟨_, rfl, _, _, rfl, rfl, _, rfl, ?_⟩
    by_cases c : T ≤ 240
    · exact iteF' (decide_eq_false (by omega)) ⟨rfl, rfl, c⟩
    · exact iteT' (decide_eq_true (by omega)) (finc _ _ ⟨_, _, _, _, _, _, _, _, _, _, _, _, _, _, _, _, _, _, rfl⟩ S3.tl)
  rintro σ H4 ⟨rfl, rfl, hT⟩
  -- powers
  refine ⟨_, rfl, _, _, rfl, rfl, 1, _, rfl, ⟨by decide, by decide, by omega, by omega⟩, fun p6 hp6 => lc_range (lo := 1) (n := ((T : Int) + 1 - 1).toNat) (fun i H' => H' p6 = some (.lst (rowOf i p)) ∧ Same H4 H') ⟨by rw [upd_same]; rfl, same_new hp6⟩ ?_ ?_⟩
  · rintro i H5 hi ⟨h5', s5⟩
    refine ⟨rfl, yesT ?_⟩
    have en : (1 : Int) + (i : Int) = (i : Int) + 1 := by omega
    refine ⟨_, rfl, _, rfl, tn <| ⟨a, fam, (i : Int) + 1, (by show [V.ref a, V.int (1 + (i : Int))] = _; rw [en]), hF3.same s5, G, fun q6 H6 hq6 s6 e6 => ?_⟩⟩
    refine tn <| ⟨_, _, rfl, .inl ⟨_, SqL.of e6, rfl⟩, _, _, rfl, rfl, _, s6 _ _ h5', ?_, ?_, fun b o ob => ?_⟩
    · rw [row_len, sizeLine_eq]
      omega
    · rw [upd_same, row_succ, List.length_map, ep]
      rfl
    · rw [upd_ne (ne_of_none ob hp6)]
      exact s6 _ _ (s5 _ _ ob)
  rintro H5 ⟨e5, s5⟩
  have eN : ((T : Int) + 1 - 1).toNat = T := by omega
  rw [eN] at e5
  have S5 := S3.resL hp6 s5 e5
  have hF5 := hF3.same s5
  clear S3 hF3 s5 hp6
  -- unlike
  refine ⟨_, rfl, _, _, rfl, rfl, 1, _, rfl, ⟨by decide, by decide, by omega, by omega⟩, fun p7 hp7 => lc_range (lo := 1) (n := ((T : Int) + 1 - 1).toNat) (fun i H' => H' p7 = some (.lst ((ulk p T i).map V.int)) ∧ Same H5 H') ⟨by rw [upd_same]; rfl, same_new hp7⟩ ?_ ?_⟩
  · rintro i H6 hi ⟨h6, s6⟩
    have hi2 : i < T := by omega
    have ec : (1 + (i : Int)) = ((i + 1 : Nat) : Int) := by omega
    rw [ec]
    have e6 := s6 _ _ e5
    have g0 : 1 ≤ Nat.gcd (i + 1) T := Nat.gcd_pos_of_pos_left _ (by omega)
    have gT : Nat.gcd (i + 1) T ≤ T := Nat.le_of_dvd T1 (Nat.gcd_dvd_right _ T)
    have ix1 : atI (rowOf T p) (((i + 1 : Nat) : Int) - 1) = some (.int (p i)) := by
      rw [show ((i + 1 : Nat) : Int) - 1 = (i : Int) by omega]
      exact row_val hi2
    have ix2 : atI (rowOf T p) (((Nat.gcd (i + 1) T : Nat) : Int) - 1) = some (.int (p (Nat.gcd (i + 1) T - 1))) := by
      rw [show ((Nat.gcd (i + 1) T : Nat) : Int) - 1 = ((Nat.gcd (i + 1) T - 1 : Nat) : Int) by omega]
      exact row_val (by omega)
    refine ⟨rfl, _, rfl, _, rfl, _, _, rfl, rfl, p6, _, _, _, rfl, rfl, SqL.of e6, ix1, _, rfl, _, rfl, _, rfl, tn <| ⟨i + 1, T, rfl, _, _, rfl, rfl, p6, _, _, _, rfl, rfl, SqL.of e6, ix2, rfl, _, rfl, ?_⟩⟩
    rw [ulk_succ]
    by_cases c : p i = p (Nat.gcd (i + 1) T - 1)
    · refine iteF' (by rw [c]; simp) ⟨?_, s6⟩
      rw [if_pos c, List.append_nil]
      exact h6
    · refine iteT' (by
        rw [Bool.not_eq_true', decide_eq_false_iff_not]
        exact fun z => c (by injection z)) ⟨_, rfl, _, h6, ?_, ?_, fun b o ob => ?_⟩
      · have := ulk_len p T i
        rw [List.length_map, sizeLine_eq]
        omega
      · rw [upd_same, if_neg c, List.map_append]
        rfl
      · rw [upd_ne (ne_of_none ob hp7)]
        exact s6 _ _ ob
  rintro H6 ⟨e6, s6⟩
  rw [eN] at e6
  have S6 : Sta Pt H6 d l cc ((y, .lst []) :: (p7, .lst ((ulk p T T).map V.int)) :: (p6, .lst (rowOf T p)) :: os) := (S5.resL hp7 s6 e6).perm (List.Perm.trans (.cons _ (.swap _ _ _)) (.swap _ _ _))
  have hF6 := hF5.same s6
  clear S5 hF5 s6 hp7 e5 e6
  by_cases hL : Qm.Like p T
  · refine ⟨S6.tb, fun H7 eN7 T7 => ?_⟩
    have S7 := S6.ext eN7 T7
    have hF7 := hF6.ext eN7
    clear S6 eN7 T7 hF6
    have un : ulk p T T = [] := ulk_nil.mpr hL
    rw [un] at S7
    refine ⟨_, rfl, .inl ⟨rfl, _, SqL.of (S7.g 0 rfl)⟩, _, rfl, tn <| use_fq hF7 G h5 (by omega) (fun z => absurd (by rw [eT, ep] at hL; exact hL) z) fun _ pq H8 hpq s8 e8 => ?_⟩
    rw [← ep] at e8
    have S8 := (S7.res hpq s8 e8 (fun _ z => nomatch z)).perm (.swap _ _ _)
    have hF8 := hF7.same s8
    clear S7 hF7 s8 e8 hpq
    refine tn <| ⟨y, _, _, rfl, rfl, S8.g 0 rfl, (by show 0 < sizeLine; decide), ⟨_, rfl, ?_⟩⟩
    have S9 : Sta Pt (upd H8 y (.lst ([] ++ [.ref pq]))) d l cc ((y, .lst [.ref pq]) :: _) := S8.put
    have hF9 : FamAt (upd H8 y (.lst ([] ++ [.ref pq]))) a fam := hF8.putL nay (S8.g 0 rfl)
    generalize upd H8 y (.lst ([] ++ [.ref pq])) = H9 at S9 hF9 ⊢
    clear S8 hF8
    refine ⟨fun σ' H' => σ' = [some (.ref ra), some (.ref d), x2, some (.ref a), some (.int (T : Int)), some (.ref y), some (.ref p6), some (.ref p7), some .non, x9, x10, x11, x12, x13, x14, x15, x16, x17, x18, x19] ∧ H' = H9, ⟨_, rfl, rfl, _, rfl, iteF' (by simp) ⟨rfl, rfl⟩⟩, ?_⟩
    rintro σ H10 ⟨rfl, rfl⟩
    refine ⟨fun σ' H' => σ' = [some (.ref ra), some (.ref d), x2, some (.ref a), some (.int (T : Int)), some (.ref y), some (.ref p6), some (.ref p7), some .non, x9, x10, x11, x12, x13, x14, x15, x16, x17, x18, x19] ∧ Same H10 H', ⟨_, rfl, (by show 0 ≤ sizeLine; decide), fun z hz => ?_⟩, ?_⟩
    · have sz := same_new (o := .lst []) hz
      have ez : (upd H10 z (.lst [])) z = some (.lst (List.map V.int [])) := upd_same
      refine ⟨.list (intsD []), .list (intsD []), .lst (SqL.of (sz _ _ (S9.g 2 rfl))) (ints_dp _), .lst (SqL.of ez) (ints_dp _), ints_shaped _, ints_shaped _, _, rfl, ?_⟩
      rw [ints_ne]
      exact iteF' (decide_eq_false (fun h => h rfl)) ⟨rfl, sz⟩
    rintro σ H11 ⟨rfl, s11⟩
    have S11 := S9.same s11
    have hF11 := hF9.same s11
    clear S9 hF9 s11
    refine ⟨_, rfl, y, _, _, _, rfl, rfl, SqL.of (S11.g 0 rfl), atI_nat (xs := [V.ref pq]) (j := 0) rfl, ?_⟩
    have ek : (Qm.kvs (Qm.mo p) (qK fam)).map (fun kv => kV kv.1) = ((qK fam).map fun c : Nat => (c : Int)).map V.int := by
      unfold Qm.kvs
      rw [List.map_map, List.map_map]
      rfl
    have ev : (Qm.kvs (Qm.mo p) (qK fam)).map (·.2) = ((qK fam).map (Qm.mo p)).map V.int := by
      unfold Qm.kvs
      rw [List.map_map, List.map_map]
      rfl
    have ql : (qK fam).length < 64 := qK_len (by omega)
    have hper : ∀ i, p (i % T) = p i := fun i => by
      rw [ep, eT]
      exact pS_mod G (Nat.dvd_refl _)
    refine ⟨fun σ' H' => σ' = [some (.ref ra), some (.ref d), x2, some (.ref a), some (.int (T : Int)), some (.ref y), some (.ref p6), some (.ref p7), some .non, some (.ref pq), x10, x11, x12, x13, x14, x15, x16, x17, x18, x19] ∧ Same H11 H', ?_, ?_⟩
    · have e1 := S11.g 1 rfl
      refine ⟨_, rfl, .ref pq, _, _, _, _, rfl, .ty "dict", .base (.dK e1), kit_ty (r := true) (by decide +kernel), true, rfl, _, rfl, ?_⟩
      refine ⟨pq, _, rfl, .inl e1, fun r1 hr1 => ?_⟩
      rw [ek]
      have s12 := same_new (o := .lst (((qK fam).map fun c : Nat => (c : Int)).map V.int)) hr1
      have f12 : (upd H11 r1 (.lst (((qK fam).map fun c : Nat => (c : Int)).map V.int))) r1 = some (.lst (((qK fam).map fun c : Nat => (c : Int)).map V.int)) := upd_same
      have e12 := s12 _ _ e1
      generalize upd H11 r1 (.lst (((qK fam).map fun c : Nat => (c : Int)).map V.int)) = H12 at s12 f12 e12 ⊢
      refine ⟨_, rfl, tn <| ⟨pq, _, (qK fam).map fun c : Nat => (c : Int), rfl, .inl e12, Qm.kvs_keys _ _, by rw [List.length_map]; exact ql, fun ys r2 hp hd hr2 => ?_⟩⟩
      have ey : ys = (qK fam).map fun c : Nat => (c : Int) := by
        refine List.Perm.eq_of_pairwise (fun a b _ _ h1 h2 => by omega) hd ?_ hp
        rw [List.pairwise_map]
        exact (qK_asc fam).imp fun h => by omega
      subst ey
      have s13 := same_new (o := .lst (((qK fam).map fun c : Nat => (c : Int)).map V.int)) hr2
      refine ⟨.list (intsD ((qK fam).map fun c : Nat => (c : Int))), .list (intsD ((qK fam).map fun c : Nat => (c : Int))), .lst (SqL.of (s13 _ _ f12)) (ints_dp _), .lst (SqL.of upd_same) (ints_dp _), ints_shaped _, ints_shaped _, _, rfl, iteF' (eq_no _) ?_⟩
      have e13 := s13 _ _ e12
      have s14 := s12.trans s13
      generalize upd H12 r2 (.lst (((qK fam).map fun c : Nat => (c : Int)).map V.int)) = H13 at e13 s14 ⊢
      refine ⟨_, rfl, pq, _, rfl, e13, fun r3 hr3 => ?_⟩
      rw [ev]
      have fl : (((qK fam).map (Qm.mo p)).map V.int).all flatV = true := by
        rw [List.all_map]
        exact List.all_eq_true.mpr fun _ _ => rfl
      refine ⟨r3, _, rfl, .inl (SqL.of upd_same), rfl, fl, _, rfl, ?_⟩
      have nz : ((qK fam).map (Qm.mo p)).contains 0 = false := by
        rw [Bool.eq_false_iff]
        intro z
        obtain ⟨c, hc, e⟩ := List.mem_map.mp (List.contains_iff_mem.mp z)
        have := (qK_ok hc).2.2
        rw [← ep] at this
        exact this e
      exact iteF' (by rw [in_ints, nz]; rfl) ⟨rfl, s14.trans (same_new hr3)⟩
    rintro σ H12 ⟨rfl, s12⟩
    have S12 := S11.same s12
    have hF12 := hF11.same s12
    clear S11 hF11 s12
    -- the rows, once more the quotient
    have hT4 : T < 433 := by omega
    have hLf : Qm.Like (pS fam) (per fam) := by
      rw [← ep, ← eT]
      exact hL
    refine ⟨fun σ' H' => σ' = [some (.ref ra), some (.ref d), x2, some (.ref a), some (.int (T : Int)), some (.ref y), some (.ref p6), some (.ref p7), some .non, some (.ref pq), x10, x11, x12, x13, x14, x15, x16, x17, x18, x19] ∧ Same H12 H', ?_, ?_⟩
    · have e1 := S12.g 1 rfl
      have hb : ∀ c ∈ qK fam, 1 ≤ c ∧ c < 433 ∧ (Qm.mo p c).natAbs ≤ 99 := fun c hc => by
        obtain ⟨c1, c2, _⟩ := qK_ok hc
        have := Qm.mo_bound (p := p) (b := 5) (by rw [ep]; exact Qm.pS_small G h5) c1 (by omega)
        exact ⟨c1, by omega, by omega⟩
      have hpb : ∀ i, (p i).natAbs ≤ 9 := fun i => by
        rw [ep]
        have := Qm.pS_small G h5 i
        omega
      have hw : ∀ k, 1 ≤ k → k ≤ 60 → wS (Qm.mo p) (qK fam) k = -(sS p 60 k) := fun k k1 k2 => by
        have z := Qm.wS_eq T1 hT4 hL hper k1 k2
        unfold wS qK
        rw [← ep, ← eT]
        exact z
      refine ⟨_, rfl, tn0 <| ⟨pq, Qm.mo p, qK fam, p, rfl, e1, hb, hpb, hw, fun r1 H13 hr1 s13 f13 => ?_⟩⟩
      refine ⟨_, rfl, tn0 <| use_row (m := 60) (hF12.same s13) G (by decide) fun r2 H14 hr2 s14 f14 => ?_⟩
      rw [← ep] at f14
      refine ⟨.list (intsD (intsOf 61 (prA p 60))), .list (intsD (intsOf 61 (prA p 60))), .lst (SqL.of (s14 _ _ f13)) (ints_dp _), .lst (SqL.of f14) (ints_dp _), ints_shaped _, ints_shaped _, _, rfl, iteF' (eq_no _) ?_⟩
      have s12 := s13.trans s14
      refine ⟨_, rfl, tn <| use_fq (hF12.same s12) G h5 (by omega) (fun z => absurd hLf z) fun _ pq2 H15 hpq2 s15 f15 => ?_⟩
      rw [← ep] at f15
      refine ⟨_, rfl, pq2, pq, _, rfl, rfl, f15, s15 _ _ (s12 _ _ e1), fun kv hkv => ?_, _, rfl, iteF' rfl ⟨rfl, s12.trans s15⟩⟩
      obtain ⟨i, hi⟩ := List.mem_iff_getElem?.mp hkv
      obtain ⟨k, v⟩ := kv
      obtain ⟨c, hc, rfl, rfl⟩ := Qm.kvs_at hi
      exact ⟨by rw [Qm.kvs_val, if_pos (List.mem_of_getElem? hc)], _, rfl⟩
    rintro σ H13 ⟨rfl, s13⟩
    have S13 := S12.same s13
    clear S12 hF12 s13
    refine ⟨_, rfl, _, _, rfl, rfl, 1, _, rfl, ⟨by decide, by decide, by omega, by omega⟩, ?_⟩
    refine for_range (lo := 1) (n := ((T : Int) + 1 - 1).toNat) (fun i σ H' => ∃ x10, σ = [some (.ref ra), some (.ref d), x2, some (.ref a), some (.int (T : Int)), some (.ref y), some (.ref p6), some (.ref p7), some .non, some (.ref pq), x10, x11, x12, x13, x14, x15, x16, x17, x18, x19] ∧ Sta Pt H' d l cc ((y, .lst [.ref pq]) :: (pq, .dK (Qm.kvs (Qm.mo p) (qK fam))) :: (p7, .lst (List.map V.int [])) :: (p6, .lst (rowOf T p)) :: os)) ⟨_, rfl, S13⟩ ?_ ?_
    · rintro i σ H14 hi ⟨y10, rfl, S14⟩
      have hi2 : i < T := by omega
      have ec : (1 + (i : Int)) = ((i + 1 : Nat) : Int) := by omega
      rw [ec]
      have e4 := S14.g 1 rfl
      refine ⟨pq, _, e4, trivial, fun od => ?_⟩
      have e5 : (upd H14 pq (.frz od (.dK (Qm.kvs (Qm.mo p) (qK fam))))) pq = some (.frz od (.dK (Qm.kvs (Qm.mo p) (qK fam)))) := upd_same
      refine ⟨_, rfl, pq, od, rfl, .inl ⟨_, e5, fun D9 hD => lc_it walk_keys (fun j H' => H' D9 = some (.lst (((((qK fam).take j).filter fun c : Nat => decide (((i + 1 : Nat) : Int).fmod (c : Int) = 0)).map (Qm.mo p)).map V.int)) ∧ Same (upd H14 pq (.frz od (.dK (Qm.kvs (Qm.mo p) (qK fam))))) H') ⟨upd_same, same_new hD⟩ (fun j H' _ ⟨_, s⟩ => s _ _ e5) ?_ ?_⟩⟩
      · rintro j x H5 H6 hj ⟨h5', s5⟩ ⟨rfl, k, v, hk, rfl⟩
        obtain ⟨cc', hc, rfl, rfl⟩ := Qm.kvs_at hk
        have hcm := (qK_ok (List.mem_of_getElem? hc)).1
        have et : (qK fam).take (j + 1) = (qK fam).take j ++ [cc'] := by
          rw [List.take_succ, hc]
          rfl
        refine ⟨rfl, _, rfl, _, rfl, _, _, rfl, rfl, (by show (cc' : Int) ≠ 0; omega), rfl, _, rfl, ?_⟩
        by_cases c0 : ((i + 1 : Nat) : Int).fmod (cc' : Int) = 0
        · refine iteT' (decide_eq_true (congrArg V.int c0)) ⟨_, rfl, _, rfl, pq, _, rfl, .inl ⟨_, .inl (cc' : Int), .inr ⟨od, s5 _ _ e5⟩, rfl, by rw [Qm.kvs_val, if_pos (List.mem_of_getElem? hc)]⟩, _, h5', ?_, ?_, fun b o ob => ?_⟩
          · rw [List.length_map, List.length_map]
            have := List.length_filter_le (fun c : Nat => decide (((i + 1 : Nat) : Int).fmod (c : Int) = 0)) ((qK fam).take j)
            rw [List.length_take] at this
            rw [sizeLine_eq]
            omega
          · rw [upd_same, et, List.filter_append, List.filter_cons_of_pos (by simpa using c0), List.map_append, List.map_append]
            rfl
          · rw [upd_ne (ne_of_none ob hD)]
            exact s5 _ _ ob
        · refine iteF' (decide_eq_false (fun z => c0 (by injection z))) ⟨?_, s5⟩
          rw [et, List.filter_append, List.filter_cons_of_neg (by simpa using c0)]
          simpa using h5'
      · rintro H5 ⟨h5', s5⟩
        rw [Qm.kvs_len, List.take_length] at h5'
        have nD : D9 ≠ pq := fun z => by
          rw [z, e5] at hD
          cases hD
        have s6 := same_lock e4 s5
        refine ⟨s5 _ _ e5, tn <| ⟨D9, _, rfl, SqL.of (by rw [upd_ne nD]; exact h5'), ?_⟩⟩
        have S15 := S14.same s6
        generalize upd H5 pq (.dK (Qm.kvs (Qm.mo p) (qK fam))) = H15 at S15 ⊢
        have sl := Qm.last_sum T1 hT4 hL hper (n := i + 1) (by omega)
        have ix1 : atI (rowOf T p) (((i + 1 : Nat) : Int) - 1) = some (.int (p i)) := by
          rw [show ((i + 1 : Nat) : Int) - 1 = (i : Int) by omega]
          exact row_val hi2
        have sl2 : (((qK fam).filter fun c : Nat => decide (((i + 1 : Nat) : Int).fmod (c : Int) = 0)).map (Qm.mo p)).sum = -p i := by
          unfold qK
          rw [← ep, ← eT]
          exact sl
        rw [sl2]
        refine ⟨_, rfl, _, rfl, _, _, rfl, rfl, p6, _, _, _, rfl, rfl, SqL.of (S15.g 3 rfl), ix1, _, rfl, rfl, _, rfl, iteF' (by simp) ⟨_, rfl, S15⟩⟩
    · rintro σ H14 ⟨y10, rfl, S14⟩
      exact fin _ _ ⟨_, _, _, _, _, _, _, _, _, _, _, _, _, _, _, _, _, _, rfl⟩ S14.tl.tl.tl.tl
  · -- no quotient
    have nu : ulk p T T ≠ [] := fun z => hL (ulk_nil.mp z)
    refine ⟨S6.tb, fun H7 eN7 T7 => ?_⟩
    have S7 := S6.ext eN7 T7
    have hF7 := hF6.ext eN7
    clear S6 eN7 T7 hF6
    refine ⟨_, rfl, .inl ⟨rfl, _, SqL.of (S7.g 0 rfl)⟩, _, rfl, tn <| use_fq hF7 G h5 (by omega) (fun _ H8 s8 => ?_) fun z => absurd (by rw [eT, ep] at hL; exact hL z) id⟩
    have S8 := S7.same s8
    clear S7 hF7 s8
    refine tn <| ⟨y, _, _, rfl, rfl, S8.g 0 rfl, (by show 0 < sizeLine; decide), ⟨_, rfl, ?_⟩⟩
    have S9 : Sta Pt (upd H8 y (.lst ([] ++ [.non]))) d l cc ((y, .lst [.non]) :: _) := S8.put
    generalize upd H8 y (.lst ([] ++ [.non])) = H9 at S9 ⊢
    clear S8
    refine ⟨fun σ' H' => σ' = [some (.ref ra), some (.ref d), x2, some (.ref a), some (.int (T : Int)), some (.ref y), some (.ref p6), some (.ref p7), some .non, x9, x10, x11, x12, x13, x14, x15, x16, x17, x18, x19] ∧ H' = H9, ⟨_, rfl, rfl, _, rfl, iteF' (by simp) ⟨rfl, rfl⟩⟩, ?_⟩
    rintro σ H10 ⟨rfl, rfl⟩
    refine ⟨fun _ _ => False, ⟨_, rfl, (by show 0 ≤ sizeLine; decide), fun z hz => ?_⟩, fun _ _ z => z.elim⟩
    have S11 := S9.newL (xs := []) hz
    have ez : (upd H10 z (.lst [])) z = some (.lst (List.map V.int [])) := upd_same
    generalize upd H10 z (.lst []) = H11 at S11 ez ⊢
    refine ⟨.list (intsD (ulk p T T)), .list (intsD []), .lst (SqL.of (S11.g 2 rfl)) (ints_dp _), .lst (SqL.of ez) (ints_dp _), ints_shaped _, ints_shaped _, _, rfl, ?_⟩
    rw [ints_ne]
    refine iteT' (decide_eq_true nu) ?_
    refine ⟨fun σ' H' => σ' = [some (.ref ra), some (.ref d), x2, some (.ref a), some (.int (T : Int)), some (.ref y), some (.ref p6), some (.ref p7), some .non, x9, x10, x11, x12, x13, x14, x15, x16, x17, x18, x19] ∧ H' = H11, ⟨_, rfl, y, _, _, _, rfl, rfl, SqL.of (S11.g 1 rfl), atI_nat (xs := [V.non]) (j := 0) rfl, rfl, _, rfl, iteF' (by simp) ⟨rfl, rfl⟩⟩, ?_⟩
    rintro σ H12 ⟨rfl, rfl⟩
    exact finc _ _ ⟨_, _, _, _, _, _, _, _, _, _, _, _, _, _, _, _, _, _, rfl⟩ S11.tl.tl.tl.tl
end
end K85

set_option Elab.async false
set_option linter.all false
set_option maxRecDepth 100000
set_option maxHeartbeats 4000000
set_option pp.maxSteps 3000
set_option exponentiation.threshold 500000
namespace K85
open PySem PySem.Spec PyProof.Rows L2 Dr Xv LamX Ps Gn Fm
theorem sum_most : ∀ {ns : List Int} {b : Nat}, (∀ x ∈ ns, x ≤ (b : Int)) → ns.sum ≤ ((ns.length * b : Nat) : Int)
  | [], b, _ => by
    rw [List.sum_nil]
    omega
  | x :: r, b, h => by
    have h1 := sum_most (ns := r) (b := b) fun y hy => h y (List.mem_cons_of_mem _ hy)
    have h2 := h x List.mem_cons_self
    rw [List.sum_cons, List.length_cons, Nat.add_mul, Nat.one_mul]
    omega
theorem fam_of {H : Hp} {u t r : Addr} {m l : Int} {rs : List Int} (e1 : H u = some (.lst [.ref t])) (e2 : H t = some (.tup [.int m, .ref r, .int l])) (e3 : H r = some (.tup (rs.map V.int))) : FamAt H u [(m, rs, l)] := by
  refine ⟨[t], [r], e1, rfl, rfl, fun i t' r' f a b c => ?_⟩
  match i, a, b, c with
  | 0, a, b, c =>
    cases a
    cases b
    cases c
    exact ⟨e2, e3⟩
theorem fam_two {H : Hp} {f t r t1 r1 : Addr} {m l m1 l1 : Int} {rs rs1 : List Int} (e1 : H f = some (.lst [.ref t, .ref t1])) (g1 : H t = some (.tup [.int m, .ref r, .int l])) (g2 : H r = some (.tup (rs.map V.int))) (g3 : H t1 = some (.tup [.int m1, .ref r1, .int l1])) (g4 : H r1 = some (.tup (rs1.map V.int))) : FamAt H f [(m, rs, l), (m1, rs1, l1)] := by
  refine ⟨[t, t1], [r, r1], e1, rfl, rfl, fun i t' r' f' a b c => ?_⟩
  match i, a, b, c with
  | 0, a, b, c =>
    cases a
    cases b
    cases c
    exact ⟨g1, g2⟩
  | 1, a, b, c =>
    cases a
    cases b
    cases c
    exact ⟨g3, g4⟩
theorem use_pairG {cF cT cN cP a b t : Addr} {d : Int} {ns : List Int} {H : Hp} {Q : VK} {E : XK} (hd : 2 ≤ d ∧ d ≤ 5) (hF : FamAt H a (Pg.fO d)) (hF2 : FamAt H b (Pg.fT d)) (et : H t = some (.tup (ns.map V.int))) (ds : ns.Pairwise (fun x y => y ≤ x)) (lo : ∀ x ∈ ns, 1 ≤ x) (hs : ns.sum ≤ 200) (hl : ns.length ≤ 20) (hk : kp (Pg.fO d) ns = true)
    (q : ∀ (ys : List Int) (p : Addr) (H' : Hp), Pg.PairR (Pg.fO d) (Pg.fT d) ns ys → H p = none → Same H H' → H' p = some (.tup (ys.map V.int)) → Q (.ref p) H') : sp_paired cF cT cN cP [.ref a, .ref b, .ref t] H Q E := by
  have T := Pg.tiedG hd
  have G1 := Pg.goodO hd
  have G2 := Pg.goodT hd
  have E0 := Pg.eqF_of G1 G2 T.du
  have pl := Pg.part_le lo (N := 200) (by omega)
  have ok : okT (some (ns.map V.int)) = true := by
    show ((ns.map V.int).all isNum && _root_.Pt.isPt (numsV (ns.map V.int))) = true
    rw [all_num, Bool.true_and, numsV_map]
    unfold _root_.Pt.isPt _root_.Pt.small
    rw [decide_eq_true (by omega : ns.length ≤ 200), _root_.Pt.zip_desc ds, Bool.true_and, Bool.and_true]
    refine List.all_eq_true.mpr fun x hx => ?_
    have := pl x hx
    rw [decide_eq_true this.1, decide_eq_true (by omega : x ≤ 1000000)]
    rfl
  refine ⟨_, _, _, _, _, rfl, hF.v G1, hF2.v G2, fun z => ?_, fun _ z => ?_, fun _ _ => ⟨a, b, Pg.fO d, Pg.fT d, rfl, rfl, hF, G1, hF2, G2, T.lc, fun z => absurd T.du z, fun _ => ⟨some (ns.map V.int), .tup et, short_ints (by omega), pv_ints _, fun z => ?_, fun _ => ⟨ns, rfl, fun z => ?_, fun _ => ⟨fun z => ?_, fun _ => ?_⟩⟩⟩⟩⟩
  · rw [fmOk_good G1] at z
    cases z
  · rw [fmOk_good G2] at z
    cases z
  · rw [ok] at z
    cases z
  · rw [hk] at z
    cases z
  · omega
  · obtain ⟨ys, PR, _⟩ := Pg.pair_ex G1 G2 E0 T.cl lo hk
    obtain ⟨kk, R⟩ := PR.run
    have I0 := Pg.inv_of G1 G2 E0 lo (N := 200) (by omega) hk
    have z := Pg.run_len (Pg.gm_fair G1 G2 E0) (Pg.gle hd) R I0
    rw [Pg.tot1_ctx ns 200 pl] at z
    exact ⟨ys, kk, R, by omega, PR, fun p H' hp s e => q ys p H' PR hp s e⟩
theorem fq_far {cF cT a : Addr} {fam : List Rule} {H : Hp} {Q : VK} {E : XK} (hF : FamAt H a fam) (G : Good fam) (hp : 5040 < per fam) (q : ∀ d H', H d = none → Same H H' → H' d = some (.xd [(("most" : Str), .int 5040)]) → E (.ref cT) (some d) H') : sp_family_quotient cF cT [.ref a] H Q E := by
  refine ⟨_, _, rfl, hF.v G, fun z => ?_, fun _ => ⟨a, fam, rfl, hF, G, fun _ => q, fun z => ?_⟩⟩
  · rw [fmOk_good G] at z
    cases z
  · omega
theorem fq_late {cF cT a : Addr} {H : Hp} {Q : VK} {E : XK} (hF : FamAt H a Qm.fLate) (G : Good Qm.fLate) (q : ∀ d H', H d = none → Same H H' → H' d = some (.xd [(("most" : Str), .int 360)]) → E (.ref cT) (some d) H') : sp_family_quotient cF cT [.ref a] H Q E := by
  have hp := Qm.late_per
  refine ⟨_, _, rfl, hF.v G, fun z => ?_, fun _ => ⟨a, Qm.fLate, rfl, hF, G, fun z => ?_, fun _ => ⟨by omega, fun z => ?_, fun _ => ⟨fun _ => q, fun z => ?_⟩⟩⟩⟩
  · rw [fmOk_good G] at z
    cases z
  · omega
  · rw [hp] at z
    exact absurd Qm.late_like z
  · rw [hp] at z
    have := z 432 Qm.late_in Qm.late_mo
    omega
/-- no family, wherever these objects are -/
def BadF (os : List (Addr × HO)) (v : V) : Prop := ∀ H : Hp, (∀ x ∈ os, H x.1 = some x.2) → ∃ o, FmV H v o ∧ fmOk o = false
theorem no_fam {H : Hp} {v : V} (h : Items H v none) : ∃ o, FmV H v o ∧ fmOk o = false := ⟨none, ⟨none, h, (fun _ e => by cases e), .inl ⟨rfl, rfl⟩⟩, rfl⟩
theorem short_n {xs : List V} (h : xs.length ≤ 1000) : short (some xs) := fun ys e => by
  cases e
  rw [sizeLine_eq]
  omega
theorem one_bad {H : Hp} {a : Addr} {v : V} (h : H a = some (.lst [v])) (r : RlV H v false) : ∃ o, FmV H (.ref a) o ∧ fmOk o = false := by
  refine ⟨some [false], ⟨some [v], .lst h, short_n (by show 1 ≤ 1000; decide), .inr ⟨[v], [false], rfl, rfl, rfl, fun i w b e1 e2 => ?_⟩⟩, rfl⟩
  match i, e1, e2 with
  | 0, e1, e2 =>
    cases e1
    cases e2
    exact r
theorem fq_bad {cF cT : Addr} {x : V} {o : Option (List Bool)} {H : Hp} {Q : VK} {E : XK} (h1 : FmV H x o) (h2 : fmOk o = false) (q : ∀ H', Same H H' → E (.ref cF) none H') : sp_family_quotient cF cT [x] H Q E := by
  refine ⟨x, o, rfl, h1, fun _ => q, fun z => ?_⟩
  rw [h2] at z
  cases z
theorem gF1 : GoodR (24, [0], 5) := ⟨by decide, by decide, by decide, by decide, (fun z => by cases z), rfl, rfl⟩
theorem gF2 : GoodR (23, [1], 7) := ⟨by decide, by decide, by decide, by decide, (fun z => by cases z), rfl, rfl⟩
theorem gF3 : GoodR (24, [0], 9) := ⟨by decide, by decide, by decide, by decide, (fun z => by cases z), rfl, rfl⟩
theorem gF4 : GoodR (16, [0], 1) := ⟨by decide, by decide, by decide, by decide, (fun z => by cases z), rfl, rfl⟩
section
variable {P : Program} {w : World} {K : PySem.W.Frag} {mg : Str → Option Value} {base : Heap} {f c Pt : Addr} {A : Around} {outer : List Env} {s : Shared} {H : Hp} {E : XK}
theorem tail_ok (M : Mod P w K mg base) (TB : TabB base mg c Pt) (hr : Room 10 (XL P w K mg base f c A outer s H E).A) :
    ∃ t, PSs (XL P w K mg base f c A outer s H E) tailB t ∧ ∀ (D : Ends) (σ : L2.St) (H0 : Hp) (os : List (Addr × HO)) (ra d l cc : Addr), Slots ra d σ → Sta Pt H0 d l cc os → (∀ H', D.rt (.bl true) H') → t D σ H0 := by
  have hrL : Room 10 (XL P w K mg base f c A outer s H E).A := hr
  have hu := hu_of hr
  have hx : ∀ {X : Cx}, Passes (L2.CX X.prog X.w) X (fun _ _ _ => False) := fun {X} => passes_call L2.takes0 (fun _ _ _ _ z => z)
  refine ⟨_, (pss_cons (ps_set (i := 11) sc_law.nd rfl (Or.inr rfl) (pe_op op_add pe_int (pe_call (ok__law_take M) (hr.mono (by decide)) rfl M.g__law_take M.k__law_take M.b__law_take .nil pass0 (pa_cons (pv 1) (pa_cons pe_int pa_nil)))))
      (pss_cons (ps_set (i := 12) sc_law.nd rfl (Or.inl rfl) (pe_callTy call_tuple_of (by rfl) M.tuple0 (by decide +kernel) (pa_cons (pe_callBK (cr_sortedRev (b := true)) (by rfl) M.sorted0 (by decide +kernel) (pa_cons (pe_lc (own := [("part", 19)]) (g := (gName 19)) (by rfl) sc_law.nd (pi_list (pe_lc (own := [("k", 17)]) (g := (gName 17)) (by rfl) sc_law.nd (pi_range1 (by rfl) M.range0 (pa_cons pe_int pa_nil)) (blkOk_by (own := [("k", 17)]) (N := N_law) (sc := defScope s_law) (by decide +kernel))
        (fun _ _ _ _ _ => (pg_name (i := 17) sc_law.nd rfl (Or.inl rfl))) (fun _ _ _ _ _ => pts_nil) (fun _ _ _ _ _ => (pe_op op_add pe_int (pe_call (ok__law_take M) (hr.mono (by decide)) rfl M.g__law_take M.k__law_take M.b__law_take .nil pass0 (pa_cons (pv 1) (pa_cons pe_int pa_nil))))))) (blkOk_by (own := [("part", 19)]) (N := N_law) (sc := defScope s_law) (by decide +kernel))
        (fun _ _ _ _ _ => (pg_name (i := 19) sc_law.nd rfl (Or.inl rfl))) (fun _ _ _ _ _ => (pts_one (pt_cmpR op_ne (pe_op op_modN (pv 19) (pv 11)) pe_int (nomark _)))) (fun _ _ _ _ _ => (pv 19))) pa_nil) (pk_cons pe_bl pk_nil)) pa_nil)))
      (C8.pss_cut (ps_if (pt_cmpR (op_neD hr.units) (pe_call (ok_paired M) (hr.mono (by decide)) rfl M.g_paired M.k_paired M.b_paired .nil hx (pa_cons (pe_lst (pa_cons (pe_tup (pa_cons (pv 11) (pa_cons (pe_tup (pa_cons pe_int pa_nil)) (pa_cons pe_int pa_nil)))) pa_nil)) (pa_cons (pe_lst (pa_cons (pe_tup (pa_cons pe_int (pa_cons (pe_tup (pa_cons pe_int pa_nil)) (pa_cons (pv 11) pa_nil)))) pa_nil)) (pa_cons (pv 12) pa_nil)))) (pe_call (ok__law_glaisher M) (hr.mono (by decide)) rfl M.g__law_glaisher M.k__law_glaisher M.b__law_glaisher .nil pass0 (pa_cons (pv 11) (pa_cons (pv 12) pa_nil))) (nomark _)) 
        (pss_one (ps_ret pe_bl)) pss_nil)
      (pss_cons (ps_set (i := 13) sc_law.nd rfl (Or.inl rfl) (pe_law (t := fun E' => (tCall (sp_family_quotient M.a_BadFamily M.a_TooMany) [] E' (tCons (tLst (tCons (tTup (tCons (tC (.int 24)) (tCons (tTup (tCons (tC (.int 0)) tNil)) (tCons (tC (.int 5)) tNil)))) (tCons (tTup (tCons (tC (.int 23)) (tCons (tTup (tCons (tC (.int 1)) tNil)) (tCons (tC (.int 7)) tNil)))) tNil))) tNil))) M TB hrL (by decide +kernel) rfl
          (fun A' outer' s' H' E' f' c' hr' => (pe_call (ok_family_quotient M) (hr'.mono (by decide)) rfl M.g_family_quotient M.k_family_quotient M.b_family_quotient .nil (passes_call (takes_of rfl rfl rfl rfl) (fun _ _ _ _ h => h)) (pa_cons (pe_lst (pa_cons (pe_tup (pa_cons pe_int (pa_cons (pe_tup (pa_cons pe_int pa_nil)) (pa_cons pe_int pa_nil)))) (pa_cons (pe_tup (pa_cons pe_int (pa_cons (pe_tup (pa_cons pe_int pa_nil)) (pa_cons pe_int pa_nil)))) pa_nil))) pa_nil)))))
      (pss_cons (ps_set (i := 14) sc_law.nd rfl (Or.inl rfl) (pe_law (t := fun E' => (tCall (sp_family_quotient M.a_BadFamily M.a_TooMany) [] E' (tCons (tCall (spPick K) [] E0 (tCons (tVar 1) (tCons (tLst (tCons (tC .non) (tCons (tLst (tCons (tC (.int 5)) tNil)) (tCons (tLst (tCons (tTup (tCons (tC (.int 2)) (tCons (tTup (tCons (tC (.int 0)) tNil)) (tCons (tC (.int 0)) tNil)))) tNil)) tNil)))) tNil))) tNil))) M TB hrL (by decide +kernel) rfl
          (fun A' outer' s' H' E' f' c' hr' => (pe_call (ok_family_quotient M) (hr'.mono (by decide)) rfl M.g_family_quotient M.k_family_quotient M.b_family_quotient .nil (passes_call (takes_of rfl rfl rfl rfl) (fun _ _ _ _ h => h)) (pa_cons (pe_call (ok__law_pick M) (hr'.mono (by decide)) rfl M.g__law_pick M.k__law_pick M.b__law_pick .nil pass0 (pa_cons (pv 1) (pa_cons (pe_lst (pa_cons pe_non (pa_cons (pe_lst (pa_cons pe_int pa_nil)) (pa_cons (pe_lst (pa_cons (pe_tup (pa_cons pe_int (pa_cons (pe_tup (pa_cons pe_int pa_nil)) (pa_cons pe_int pa_nil)))) pa_nil)) pa_nil)))) pa_nil))) pa_nil)))))
      (pss_cons (ps_set (i := 15) sc_law.nd rfl (Or.inl rfl) (pe_law (t := fun E' => (tCall (sp_family_quotient M.a_BadFamily M.a_TooMany) [] E' (tCons (tLst (tCons (tTup (tCons (tC (.int 24)) (tCons (tTup (tCons (tC (.int 0)) tNil)) (tCons (tC (.int 9)) tNil)))) (tCons (tTup (tCons (tC (.int 16)) (tCons (tTup (tCons (tC (.int 0)) tNil)) (tCons (tC (.int 1)) tNil)))) tNil))) tNil))) M TB hrL (by decide +kernel) rfl
          (fun A' outer' s' H' E' f' c' hr' => (pe_call (ok_family_quotient M) (hr'.mono (by decide)) rfl M.g_family_quotient M.k_family_quotient M.b_family_quotient .nil (passes_call (takes_of rfl rfl rfl rfl) (fun _ _ _ _ h => h)) (pa_cons (pe_lst (pa_cons (pe_tup (pa_cons pe_int (pa_cons (pe_tup (pa_cons pe_int pa_nil)) (pa_cons pe_int pa_nil)))) (pa_cons (pe_tup (pa_cons pe_int (pa_cons (pe_tup (pa_cons pe_int pa_nil)) (pa_cons pe_int pa_nil)))) pa_nil))) pa_nil)))))
      (pss_cons (ps_set (i := 16) sc_law.nd rfl (Or.inl rfl) (pe_lst (pa_cons (pe_and (pe_callB call_isC (by rfl) M.isinstance0 boot_isinstance (pa_cons (pv 13) (pa_cons (pe_glob (v := .ref M.a_TooMany) rfl M.g_TooMany rfl) pa_nil))) (pe_one (pe_cmpR op_eq (pe_erC (pv 13)) pe_int (nomark _)))) (pa_cons (pe_callB call_isC (by rfl) M.isinstance0 boot_isinstance (pa_cons (pv 14) (pa_cons (pe_glob (v := .ref M.a_BadFamily) rfl M.g_BadFamily rfl) pa_nil))) pa_nil))))
      (pss_cons (ps_expr (pe_bm PySem.F.plainAttrs_list PySem.F.slot_list_append PySem.F.type_list_append mt_append (pv 16) (pa_cons (pe_and (pe_callB call_isC (by rfl) M.isinstance0 boot_isinstance (pa_cons (pv 15) (pa_cons (pe_glob (v := .ref M.a_TooMany) rfl M.g_TooMany rfl) pa_nil))) (pe_one (pe_cmpR op_eq (pe_erC (pv 15)) pe_int (nomark _)))) pa_nil)))
      (pss_one (ps_ret (pe_cmpR op_notIn_seq pe_bl (pv 16) (by rfl)))))))))))), ?_⟩
  rintro D σ Ha os ra d l cc ⟨x2, x3, x4, x5, x6, x7, x8, x9, x10, x11, x12, x13, x14, x15, x16, x17, x18, x19, rfl⟩ S00 q
  have Sa := S00.sub (os' := []) (List.nil_sublist _)
  clear S00
  refine ⟨_, rfl, tn0 <| ⟨d, l, cc, 4, rfl, Sa.dr, by decide, log_small (n := 4) (by decide), fun u H1 u0 u1 D1 s1 => ⟨_, _, rfl, rfl, ?_⟩⟩⟩
  have S1 := Sa.sx s1 D1
  obtain ⟨n, rfl⟩ : ∃ n : Nat, u = (n : Int) := ⟨u.toNat, by omega⟩
  obtain ⟨dd, edd⟩ : ∃ dd : Nat, dd = 2 + n := ⟨_, rfl⟩
  have hd : (2 : Int) ≤ (dd : Int) ∧ (dd : Int) ≤ 5 := by omega
  have e2 : (2 : Int) + (n : Int) = (dd : Int) := by omega
  clear Sa s1 D1
  show tSeq _ _ _ [some (.ref ra), some (.ref d), x2, x3, x4, x5, x6, x7, x8, x9, x10, some (.int (2 + (n : Int))), x12, x13, x14, x15, x16, x17, x18, x19] H1
  rw [e2]
  -- the partition
  refine ⟨12, rfl, by decide, by decide, fun D1 hD1 => lc_range (lo := 0) (n := (12 : Int).toNat) (fun i H' => ∃ ns : List Int, H' D1 = some (.lst (ns.map V.int)) ∧ (∀ x ∈ ns, 1 ≤ x ∧ x ≤ 14) ∧ ns.length = i ∧ Draw H' d l cc ∧ SameX d l H1 H') ⟨[], upd_same, (fun x h => by cases h), rfl, S1.dr.same (same_new hD1), sameX_new hD1⟩ ?_ ?_⟩
  · rintro i H2 hi ⟨ns, f2, b2, l2, D2, s2⟩
    have hi12 : i < 12 := hi
    obtain ⟨nd, nl, nc⟩ := S1.dr.ne hD1
    refine ⟨rfl, yesT ⟨_, rfl, tn0 <| ⟨d, l, cc, 14, rfl, D2, by decide, log_small (n := 14) (by decide), fun v H3 v0 v1 D3 s3 => ⟨_, _, rfl, rfl, _, s3 _ _ f2 nd nl, ?_, ns ++ [1 + v], ?_, ?_, ?_, D3.put nd nl nc, fun b o ob b1 b2 => ?_⟩⟩⟩⟩
    · rw [List.length_map, l2, sizeLine_eq]
      omega
    · rw [upd_same, List.map_append]
      rfl
    · intro x hx
      rcases List.mem_append.mp hx with h | h
      · exact b2 x h
      · rw [List.mem_singleton.mp h]
        omega
    · rw [List.length_append, l2]
      rfl
    · rw [upd_ne (ne_of_none ob hD1)]
      exact (s2.trans s3) _ _ ob b1 b2
  rintro H2 ⟨ns, f2, b2, l2, D2, s2⟩
  have l12 : ns.length = 12 := l2
  have S2 := S1.sx s2 D2
  clear S1 D2 s2 hD1 l2
  refine ⟨D1, rfl, ⟨_, SqL.of f2⟩, fun D2 hD2 => lc_list (K := K) (a := D1) (xs := ns.map V.int) (fun i H' => H' D2 = some (.lst (((ns.take i).filter fun x => decide (x.fmod (dd : Int) ≠ 0)).map V.int)) ∧ Same H2 H') ⟨upd_same, same_new hD2⟩ (fun i H' _ ⟨_, s⟩ => SqL.of (s _ _ f2)) ?_ ?_⟩
  · rintro i x H3 hi ⟨f3, s3⟩
    obtain ⟨z, hz, rfl⟩ := int_at hi
    have et : ns.take (i + 1) = ns.take i ++ [z] := by
      rw [List.take_succ, hz]
      rfl
    refine ⟨rfl, _, rfl, _, rfl, _, _, rfl, rfl, by omega, rfl, _, rfl, ?_⟩
    by_cases c : z.fmod (dd : Int) = 0
    · refine iteF' (by
        rw [decide_eq_true (congrArg V.int c)]
        rfl) ⟨?_, s3⟩
      rw [et, List.filter_append, List.filter_cons_of_neg (by simpa using c)]
      simpa using f3
    · refine iteT' (by
        rw [Bool.not_eq_true', decide_eq_false_iff_not]
        exact fun z => c (by injection z)) ⟨_, rfl, _, f3, ?_, ?_, fun b o ob => ?_⟩
      · have := List.length_filter_le (fun x => decide (x.fmod (dd : Int) ≠ 0)) (ns.take i)
        rw [List.length_take] at this
        rw [List.length_map, sizeLine_eq]
        omega
      · rw [upd_same, et, List.filter_append, List.filter_cons_of_pos (by simpa using c), List.map_append]
        rfl
      · rw [upd_ne (ne_of_none ob hD2)]
        exact s3 _ _ ob
  rintro H3 ⟨f3, s3⟩
  rw [List.length_map, List.take_length] at f3
  have S3 := S2.same s3
  clear S2 s3 hD2 f2
  refine tn <| ⟨D2, _, rfl, rfl, SqL.of f3, fun ys p hp hds h1 => ⟨p, _, rfl, .inl ⟨SqL.of upd_same, fun t ht => ?_⟩⟩⟩
  have hds' : ys.Pairwise (fun x y => y ≤ x) := hds
  have sA := (same_new (o := .lst (ys.map V.int)) h1).trans (same_new (o := .tup (ys.map V.int)) ht)
  have et : (upd (upd H3 p (.lst (ys.map V.int))) t (.tup (ys.map V.int))) t = some (.tup (ys.map V.int)) := upd_same
  have S4 := S3.same sA
  generalize upd (upd H3 p (.lst (ys.map V.int))) t (.tup (ys.map V.int)) = H4 at et S4 ⊢
  clear S3 sA f3 h1 ht
  have ym : ∀ x ∈ ys, (1 ≤ x ∧ x ≤ 14) ∧ x.fmod (dd : Int) ≠ 0 := fun x hx => by
    obtain ⟨h1, h2⟩ := List.mem_filter.mp (hp.mem_iff.mp hx)
    exact ⟨b2 x h1, by simpa using h2⟩
  have yl : ys.length ≤ 12 := by
    rw [hp.length_eq]
    have := List.length_filter_le (fun x => decide (x.fmod (dd : Int) ≠ 0)) ns
    omega
  have ysum : ys.sum ≤ 200 := by
    have z := sum_most (ns := ys) (b := 14) fun x hx => (ym x hx).1.2
    have z2 : ys.length * 14 ≤ 12 * 14 := Nat.mul_le_mul_right _ yl
    omega
  have ylo : ∀ x ∈ ys, 1 ≤ x := fun x hx => (ym x hx).1.1
  have yk : kp (Pg.fO (dd : Int)) ys = true := Pg.kpO fun x hx => (ym x hx).2
  -- paired
  refine ⟨fun σ' H' => σ' = [some (.ref ra), some (.ref d), x2, x3, x4, x5, x6, x7, x8, x9, x10, some (.int (dd : Int)), some (.ref t), x13, x14, x15, x16, x17, x18, x19] ∧ Same H4 H', ?_, ?_⟩
  · refine ⟨_, rfl, (by show 1 ≤ sizeLine; decide), fun r1 h1 => ⟨(by show 3 ≤ sizeLine; decide), fun t1 k1 => ⟨(by show 1 ≤ sizeLine; decide), fun f1 j1 => ?_⟩⟩⟩
    have F1 := fam1 (m := (dd : Int)) (l := 1) (rs := [0]) h1 k1 j1
    have sa := ((same_new (o := .tup [.int 0]) h1).trans (same_new (o := .tup [.int (dd : Int), .ref r1, .int 1]) k1)).trans (same_new (o := .lst [.ref t1]) j1)
    change FamAt (upd (upd (upd H4 r1 (.tup [.int 0])) t1 (.tup [.int (dd : Int), .ref r1, .int 1])) f1 (.lst [.ref t1])) f1 (Pg.fO (dd : Int)) at F1
    generalize upd (upd (upd H4 r1 (.tup [.int 0])) t1 (.tup [.int (dd : Int), .ref r1, .int 1])) f1 (.lst [.ref t1]) = H5 at F1 sa ⊢
    clear h1 k1 j1
    refine ⟨(by show 1 ≤ sizeLine; decide), fun r2 h2 => ⟨_, rfl, (by show 3 ≤ sizeLine; decide), fun t2 k2 => ⟨(by show 1 ≤ sizeLine; decide), fun f2 j2 => ?_⟩⟩⟩
    have F2 := fam1 (m := 1) (l := (dd : Int)) (rs := [0]) h2 k2 j2
    have sb := ((same_new (o := .tup [.int 0]) h2).trans (same_new (o := .tup [.int 1, .ref r2, .int (dd : Int)]) k2)).trans (same_new (o := .lst [.ref t2]) j2)
    change FamAt (upd (upd (upd H5 r2 (.tup [.int 0])) t2 (.tup [.int 1, .ref r2, .int (dd : Int)])) f2 (.lst [.ref t2])) f2 (Pg.fT (dd : Int)) at F2
    generalize upd (upd (upd H5 r2 (.tup [.int 0])) t2 (.tup [.int 1, .ref r2, .int (dd : Int)])) f2 (.lst [.ref t2]) = H6 at F2 sb ⊢
    clear h2 k2 j2
    have sab := sa.trans sb
    refine ⟨_, rfl, tn <| use_pairG hd (F1.same sb) F2 (sab _ _ et) hds' ylo ysum (by omega) yk fun zs p2 H7 PR hp2 s7 e7 => ?_⟩
    refine ⟨_, rfl, _, rfl, tn <| ⟨dd, t, ys, rfl, by omega, by omega, s7 _ _ (sab _ _ et), ylo, ysum, by omega, yk, fun p3 H8 zs2 hp3 e8 s8 PR2 => ?_⟩⟩
    refine ⟨tupD zs, tupD zs2, tup_dp (s8 _ _ e7), tup_dp e8, tup_shaped _, tup_shaped _, _, rfl, ?_⟩
    rw [PR.uniq PR2]
    exact iteF' (eq_tup _) ⟨rfl, sab.trans (s7.trans s8)⟩
  rintro σ H5 ⟨rfl, s5⟩
  have S5 := S4.same s5
  clear S4 s5
  -- far
  refine ⟨S5.tb, fun H6 eN6 T6 => ?_⟩
  have S6 := S5.ext eN6 T6
  clear S5 eN6 T6
  refine ⟨(by show 1 ≤ sizeLine; decide), fun r1 h1 => ⟨(by show 3 ≤ sizeLine; decide), fun t1 k1 => ⟨(by show 1 ≤ sizeLine; decide), fun r2 h2 => ⟨(by show 3 ≤ sizeLine; decide), fun t2 k2 => ⟨(by show 2 ≤ sizeLine; decide), fun f1 j1 => ?_⟩⟩⟩⟩⟩
  have S7 := ((((S6.newT (xs := [.int 0]) h1).newT (xs := [.int 24, .ref r1, .int 5]) k1).newT (xs := [.int 1]) h2).newT (xs := [.int 23, .ref r2, .int 7]) k2).newL (xs := [.ref t1, .ref t2]) j1
  generalize upd (upd (upd (upd (upd H6 r1 (.tup [.int 0])) t1 (.tup [.int 24, .ref r1, .int 5])) r2 (.tup [.int 1])) t2 (.tup [.int 23, .ref r2, .int 7])) f1 (.lst [.ref t1, .ref t2]) = H7 at S7 ⊢
  clear S6 h1 k1 h2 k2 j1
  have F1 := fam_two (m := 24) (l := 5) (m1 := 23) (l1 := 7) (rs := [0]) (rs1 := [1]) (S7.g 0 rfl) (S7.g 3 rfl) (S7.g 4 rfl) (S7.g 1 rfl) (S7.g 2 rfl)
  have S7 := S7.sub (os' := []) (List.nil_sublist _)
  refine tn <| fq_far F1 (good_two gF1 gF2) (by decide) fun d1 H8 hd1 s8 e8 => ⟨M.U_TooMany.m, fun far hfar => ?_⟩
  have S9 := (S7.res hd1 s8 e8 (fun _ z => nomatch z)).new (o := ErX (.ref M.a_TooMany) (some d1) far) hfar (fun _ z => by
    unfold ErX at z
    cases z)
  generalize upd H8 far (ErX (.ref M.a_TooMany) (some d1) far) = H9 at S9 ⊢
  clear S7 hd1 s8 e8 hfar F1
  -- bad
  refine ⟨S9.tb, fun H10 eN10 T10 => ?_⟩
  have S10 := S9.ext eN10 T10
  clear S9 eN10 T10
  refine ⟨_, rfl, (by show 1 ≤ sizeLine; decide), fun b1 h1 => ⟨(by show 1 ≤ sizeLine; decide), fun r1 h2 => ⟨(by show 3 ≤ sizeLine; decide), fun t1 h3 => ⟨(by show 1 ≤ sizeLine; decide), fun b2 h4 => ⟨(by show 3 ≤ sizeLine; decide), fun z hz => ?_⟩⟩⟩⟩⟩
  have S11 := ((((S10.newL (xs := [.int 5]) h1).newT (xs := [.int 0]) h2).newT (xs := [.int 2, .ref r1, .int 0]) h3).newL (xs := [.ref t1]) h4).newL (xs := [.non, .ref b1, .ref b2]) hz
  generalize upd (upd (upd (upd (upd H10 b1 (.lst [.int 5])) r1 (.tup [.int 0])) t1 (.tup [.int 2, .ref r1, .int 0])) b2 (.lst [.ref t1])) z (.lst [.non, .ref b1, .ref b2]) = H11 at S11 ⊢
  clear S10 h1 h2 h3 h4 hz
  refine tn <| ⟨d, l, cc, z, [.non, .ref b1, .ref b2], rfl, S11.dr, (fun H' s' => SqL.of (S11.gx 0 rfl s')), by simp, (by show 3 ≤ 1000; decide), fun bv H12 hbv D12 s12 => ?_⟩
  have S12 := S11.sx s12 D12
  clear S11 D12 s12
  obtain ⟨o, hB1, hB2⟩ : ∃ o, FmV H12 bv o ∧ fmOk o = false := by
    simp only [List.mem_cons, List.not_mem_nil, or_false] at hbv
    rcases hbv with rfl | rfl | rfl
    · exact no_fam .non
    · exact one_bad (S12.g 4 rfl) (.no (.int 5) (fun _ e => by cases e) (fun _ e => by cases e))
    · exact one_bad (S12.g 1 rfl) (RlV.tri (m := .int 2) (l := .int 0) (o := some [.int 0]) (.tup (S12.g 2 rfl)) (.int _) (.int _) (.tup (S12.g 3 rfl)) (short_n (by show 1 ≤ 1000; decide)) (pv_ints [0]))
  have S12 := S12.tl.tl.tl.tl.tl
  refine tn <| fq_bad hB1 hB2 fun H13 s13 => ⟨M.E_BadFamily.m, fun bad hbad => ?_⟩
  have S14 := (S12.same s13).new (o := ErX (.ref M.a_BadFamily) none bad) hbad (fun _ z => by
    unfold ErX at z
    cases z)
  generalize upd H13 bad (ErX (.ref M.a_BadFamily) none bad) = H14 at S14 ⊢
  clear S12 s13 hbad hB1 hB2 hbv
  -- late
  refine ⟨S14.tb, fun H15 eN15 T15 => ?_⟩
  have S15 := S14.ext eN15 T15
  clear S14 eN15 T15
  refine ⟨(by show 1 ≤ sizeLine; decide), fun r1 h1 => ⟨(by show 3 ≤ sizeLine; decide), fun t1 k1 => ⟨(by show 1 ≤ sizeLine; decide), fun r2 h2 => ⟨(by show 3 ≤ sizeLine; decide), fun t2 k2 => ⟨(by show 2 ≤ sizeLine; decide), fun f1 j1 => ?_⟩⟩⟩⟩⟩
  have S16 := ((((S15.newT (xs := [.int 0]) h1).newT (xs := [.int 24, .ref r1, .int 9]) k1).newT (xs := [.int 0]) h2).newT (xs := [.int 16, .ref r2, .int 1]) k2).newL (xs := [.ref t1, .ref t2]) j1
  generalize upd (upd (upd (upd (upd H15 r1 (.tup [.int 0])) t1 (.tup [.int 24, .ref r1, .int 9])) r2 (.tup [.int 0])) t2 (.tup [.int 16, .ref r2, .int 1])) f1 (.lst [.ref t1, .ref t2]) = H16 at S16 ⊢
  clear S15 h1 k1 h2 k2 j1
  have F1 : FamAt H16 f1 Qm.fLate := fam_two (m := 24) (l := 9) (m1 := 16) (l1 := 1) (rs := [0]) (rs1 := [0]) (S16.g 0 rfl) (S16.g 3 rfl) (S16.g 4 rfl) (S16.g 1 rfl) (S16.g 2 rfl)
  have S16 := S16.tl.tl.tl.tl.tl
  refine tn <| fq_late F1 (good_two gF3 gF4) fun d2 H17 hd2 s17 e17 => ⟨M.U_TooMany.m, fun late hlate => ?_⟩
  have S18 := (S16.res hd2 s17 e17 (fun _ z => nomatch z)).new (o := ErX (.ref M.a_TooMany) (some d2) late) hlate (fun _ z => by
    unfold ErX at z
    cases z)
  generalize upd H17 late (ErX (.ref M.a_TooMany) (some d2) late) = H18 at S18 ⊢
  clear S16 hd2 s17 e17 hlate F1
  -- late, d2, bad, far, d1
  have el : ErC H18 late M.a_TooMany (some [(("most" : Str), .int 360)]) := .inr ⟨d2, _, rfl, S18.g 0 rfl, S18.g 1 rfl⟩
  have eb : ErC H18 bad M.a_BadFamily none := .inl ⟨rfl, S18.g 2 rfl⟩
  have ef : ErC H18 far M.a_TooMany (some [(("most" : Str), .int 5040)]) := .inr ⟨d1, _, rfl, S18.g 3 rfl, S18.g 4 rfl⟩
  refine ⟨_, rfl, far, M.a_TooMany, _, _, _, true, rfl, ef, M.U_TooMany.e, fun u r => r, M.U_TooMany.i, true, rfl, iteT ⟨_, rfl, far, M.a_TooMany, _, .int 5040, rfl, ef, M.U_TooMany.x, M.U_TooMany.no, rfl, rfl, ?_⟩⟩
  refine ⟨_, rfl, bad, M.a_BadFamily, _, _, _, true, rfl, eb, M.E_BadFamily.e, fun u r => r, M.E_BadFamily.i, tn <| ⟨(by show 2 ≤ sizeLine; decide), fun C hC => ?_⟩⟩
  have Sx : Sta Pt (upd H18 C (.lst [.bl (decide (V.int 5040 = V.int 5040)), .bl true])) d l cc ((C, .lst [.bl true, .bl true]) :: _) := S18.newL (xs := [.bl true, .bl true]) hC
  generalize upd H18 C (.lst [.bl (decide (V.int 5040 = V.int 5040)), .bl true]) = H19 at Sx ⊢
  clear S18 hC el eb ef
  have el : ErC H19 late M.a_TooMany (some [(("most" : Str), .int 360)]) := .inr ⟨d2, _, rfl, Sx.g 1 rfl, Sx.g 2 rfl⟩
  refine ⟨_, rfl, .inl ⟨rfl, _, SqL.of (Sx.g 0 rfl)⟩, _, rfl, late, M.a_TooMany, _, _, _, true, rfl, el, M.U_TooMany.e, fun u r => r, M.U_TooMany.i, true, rfl, iteT ⟨_, rfl, late, M.a_TooMany, _, .int 360, rfl, el, M.U_TooMany.x, M.U_TooMany.no, rfl, rfl, tn <| ⟨C, _, _, rfl, rfl, Sx.g 0 rfl, (by show 2 < sizeLine; decide), ?_⟩⟩⟩
  have Sy : Sta Pt (upd H19 C (.lst ([.bl true, .bl true] ++ [.bl (decide (V.int 360 = V.int 360))]))) d l cc ((C, .lst [.bl true, .bl true, .bl true]) :: _) := Sx.put
  generalize upd H19 C (.lst ([.bl true, .bl true] ++ [.bl (decide (V.int 360 = V.int 360))])) = H20 at Sy ⊢
  clear Sx el
  refine ⟨_, rfl, C, _, rfl, .inl (SqL.of (Sy.g 0 rfl)), rfl, rfl, ?_⟩
  exact q _
end
end K85

set_option Elab.async false
set_option linter.all false
set_option maxRecDepth 100000
set_option maxHeartbeats 0
set_option pp.maxSteps 3000
namespace K85
open PySem PySem.Spec PyProof.Rows L2 Dr Xv LamX Ps Gn Fm
section
variable {P : Program} {w : World} {K : PySem.W.Frag} {mg : Str → Option Value} {base : Heap} {c Pt : Addr}
/-- the script as one of the law's objects (none where it is the module's) -/
theorem scr_own {H : Hp} {a d l cc : Addr} {xs : List V} (h : SqL K H a xs) (hd : H d = none) (hl : H l = none) (hc : H cc = none) : ∃ os : List (Addr × HO), os.length ≤ 1 ∧
    (∀ x ∈ os, H x.1 = some x.2 ∧ x.1 ≠ d ∧ x.1 ≠ l ∧ x.1 ≠ cc ∧ ∀ ps, x.2 ≠ .tbl ps) ∧ ∀ H', (∀ x ∈ os, H' x.1 = some x.2) → SqL K H' a xs := by
  have mk : ∀ o, H a = some o → (∀ ps, o ≠ .tbl ps) → (∀ H' : Hp, H' a = some o → SqL K H' a xs) → ∃ os : List (Addr × HO), os.length ≤ 1 ∧ (∀ x ∈ os, H x.1 = some x.2 ∧ x.1 ≠ d ∧ x.1 ≠ l ∧ x.1 ≠ cc ∧ ∀ ps, x.2 ≠ .tbl ps) ∧ ∀ H', (∀ x ∈ os, H' x.1 = some x.2) → SqL K H' a xs := fun o e nt k =>
    ⟨[(a, o)], Nat.le_refl _, fun x hx => by
      rw [List.mem_singleton.mp hx]
      exact ⟨e, ne_of_none e hd, ne_of_none e hl, ne_of_none e hc, nt⟩, fun H' h' => k H' (h' _ (List.mem_singleton.mpr rfl))⟩
  rcases h with (e | ⟨o, e⟩) | e
  · exact mk _ e (fun _ z => nomatch z) fun H' e' => .inl (.inl e')
  · exact mk _ e (fun _ z => nomatch z) fun H' e' => .inl (.inr ⟨o, e'⟩)
  · exact ⟨[], Nat.zero_le _, (fun x hx => absurd hx List.not_mem_nil), fun H' _ => Or.inr e⟩
def sp_law (K : PySem.W.Frag) (Pt : Addr) : Sp := fun vs H Q _ => ∃ (a : Addr) (ns : List Int), vs = [.ref a] ∧ SqL K H a (ns.map V.int) ∧ ns.length ≤ 1000 ∧ H Pt = some (.tbl #[]) ∧ ∀ H', Q (.bl true) H'
theorem ok_law (M : Mod P w K mg base) (hc : M.d_law.code = .ref c) (TB : TabB base mg c Pt) : FnOk P w K mg base CX0 11 M.f_law M.d_law ["script"] (sp_law K Pt) := by
  obtain ⟨oc, od, dV, kV, doc, pm, an, cdv, ct, osl, ed, lk, hcd, _, _⟩ := M.F_law.ex
  rw [ed] at hc lk ⊢
  have e : cdv = .ref c := hc
  subst e
  refine fn_of lk hcd sc_law (fun vs H Q E h => ?_) fun A outer s H vs Q E hr h => ?_
  · obtain ⟨a, ns, rfl, _⟩ := h
    rfl
  · obtain ⟨a, ns, rfl, hS, hlen, hT, q⟩ := h
    have hr' : Room 10 (XL P w K mg base M.f_law c A outer s H E).A := hr
    obtain ⟨tL, hL, rL⟩ := lap_ok (f := M.f_law) (c := c) (A := A) (outer := outer) (s := s) (H := H) (E := E) (Pt := Pt) M TB hr'
    obtain ⟨tT, hTl, rT⟩ := tail_ok (f := M.f_law) (c := c) (A := A) (outer := outer) (s := s) (H := H) (E := E) M TB hr'
    refine ⟨_, PSs.nox (pss_cons (ps_set (i := 1) sc_law.nd rfl (Or.inr rfl) (pe_call (ok__law_begun M) (hr.mono (by decide)) rfl M.g__law_begun M.k__law_begun M.b__law_begun .nil pass0 (pa_cons (pv 0) pa_nil)))
      (pss_cons (ps_for PassesOwn.never rfl (pi_range1 (by rfl) M.range0 (pa_cons (pe_op op_add pe_int (pe_callB (call_min2 rfl) (by rfl) M.min0 (by decide +kernel) (pa_cons (pe_callB call_len (by rfl) M.len0 PySem.boot_len (pa_cons (pv 0) pa_nil)) (pa_cons pe_int pa_nil)))) pa_nil)) (pg_name (i := 2) sc_law.nd rfl (Or.inl rfl)) hL)
      hTl)), ?_⟩
    refine ⟨_, rfl, a, ns, rfl, hS, hlen, fun d l cc H1 hd hl hcc s1 D1 => ?_⟩
    have W0 : Wd Pt H1 d l cc := ⟨D1, fun p hp => by
      rw [List.mem_singleton.mp hp]
      exact TabS.nil (s1 _ _ hT)⟩
    obtain ⟨os, o1, o2, o3⟩ := scr_own hS hd hl hcc
    have W1 : Sta Pt H1 d l cc os := ⟨W0, fun x hx => ⟨s1 _ _ (o2 x hx).1, (o2 x hx).2⟩, by
      cases os with
      | nil => exact List.Pairwise.nil
      | cons x r =>
        cases r with
        | nil => exact List.pairwise_singleton _ _
        | cons y r =>
          simp at o1⟩
    have hb : ∀ n : Nat, 0 ≤ (if (3 : Int) < (n : Int) then (3 : Int) else (n : Int)) ∧ (if (3 : Int) < (n : Int) then (3 : Int) else (n : Int)) ≤ 3 := fun n => by
      by_cases h4 : (3 : Int) < (n : Int)
      · rw [if_pos h4]
        exact ⟨by decide, by decide⟩
      · rw [if_neg h4]
        omega
    obtain ⟨hb1, hb2⟩ := hb (ns.map V.int).length
    refine ⟨_, rfl, _, _, rfl, .inl ⟨_, s1.seq hS, rfl⟩, _, _, rfl, _, _, rfl, rfl, _, rfl, ?_, ?_, ?_⟩
    · show -(2 ^ 62) ≤ 2 + _
      omega
    · show 2 + _ < 2 ^ 62
      omega
    refine for_range (lo := 0) (n := _) (fun i σ H' => Slots a d σ ∧ Sta Pt H' d l cc os) ⟨⟨_, _, _, _, _, _, _, _, _, _, _, _, _, _, _, _, _, _, rfl⟩, W1⟩ ?_ ?_
    · rintro i σ H2 hi ⟨⟨x2, x3, x4, x5, x6, x7, x8, x9, x10, x11, x12, x13, x14, x15, x16, x17, x18, x19, rfl⟩, W2⟩
      exact rL _ _ _ os a d l cc ⟨_, _, _, _, _, _, _, _, _, _, _, _, _, _, _, _, _, _, rfl⟩ W2 (fun σ' H' hs W' => ⟨hs, W'⟩) (fun σ' H' hs W' => ⟨hs, W'⟩)
    · rintro σ H2 ⟨hs, W2⟩
      exact rT _ _ _ os a d l cc hs W2 fun H' => q H'
end
end K85

set_option Elab.async false
set_option linter.all false
set_option maxRecDepth 100000
set_option maxHeartbeats 0
namespace K85
open PySem PySem.Spec PyProof.Rows L2 Dr Xv LamX Ps Gn Fm
def dd (x : Str) (st : Stmt) : He.DefD := ⟨(x, none), x, x, defArgs st, defBody st, defScope st, [], []⟩
def fn : List He.DefD := [dd "law" s_law, dd "is_number" s_is_number, dd "is_within" s_is_within, dd "are_numbers" s_are_numbers, dd "is_number_tuple" s_is_number_tuple, dd "check_most" s_check_most, dd "lcm_of" s_lcm_of, dd "is_partition" s_is_partition, dd "check_partition" s_check_partition, dd "row_from_sums" s_row_from_sums, dd "sums_over_divisors" s_sums_over_divisors, dd "is_family" s_is_family, dd "_is_rule" s__is_rule, dd "check_family" s_check_family, dd "bound_of" s_bound_of, dd "times_of_parts" s_times_of_parts, dd "keeps_rules" s_keeps_rules, dd "bounded_parts" s_bounded_parts, dd "powers_up_to" s_powers_up_to, dd "family_row" s_family_row, dd "family_powers" s_family_powers, dd "period_of" s_period_of, dd "_checked_period" s__checked_period, dd "first_unlike_count" s_first_unlike_count, dd "bounded_quotient" s_bounded_quotient, dd "paired" s_paired, dd "_part_to_change" s__part_to_change, dd "_mate_of" s__mate_of, dd "family_quotient" s_family_quotient, dd "_law_begun" s__law_begun, dd "_law_blend" s__law_blend, dd "_law_take" s__law_take, dd "_law_pick" s__law_pick, dd "_law_caught" s__law_caught, dd "_law_common" s__law_common, dd "_law_sigmas" s__law_sigmas, dd "_law_row" s__law_row, dd "_law_multiple" s__law_multiple, dd "_law_family" s__law_family, dd "_law_bound" s__law_bound, dd "_law_period" s__law_period, dd "_law_mates" s__law_mates, dd "_law_glaisher" s__law_glaisher, ⟨("TooMany", some "__init__"), "__init__", "TooMany.__init__", defArgs s_init_TooMany, defBody s_init_TooMany, defScope s_init_TooMany, [], []⟩]
def fa : List He.Fa := [.glo "law", .glo "is_number", .glo "is_within", .glo "are_numbers", .glo "is_number_tuple", .glo "check_most", .glo "lcm_of", .glo "is_partition", .glo "check_partition", .glo "row_from_sums", .glo "sums_over_divisors", .glo "is_family", .glo "_is_rule", .glo "check_family", .glo "bound_of", .glo "times_of_parts", .glo "keeps_rules", .glo "bounded_parts", .glo "powers_up_to", .glo "family_row", .glo "family_powers", .glo "period_of", .glo "_checked_period", .glo "first_unlike_count", .glo "bounded_quotient", .glo "paired", .glo "_part_to_change", .glo "_mate_of", .glo "family_quotient", .glo "_law_begun", .glo "_law_blend", .glo "_law_take", .glo "_law_pick", .glo "_law_caught", .glo "_law_common", .glo "_law_sigmas", .glo "_law_row", .glo "_law_multiple", .glo "_law_family", .glo "_law_bound", .glo "_law_period", .glo "_law_mates", .glo "_law_glaisher", .glo "SeriesError", .glo "BadFamily", .glo "BadMost", .glo "BadPartition", .glo "NotPaired", .glo "TooMany", .int "GREATEST_LEVEL" 360, .int "GREATEST_MOST" 3000, .int "MOST_PARTS" 200, .int "GREATEST_PART" 1000000, .int "MOST_RULES" 6, .int "GREATEST_MODULUS" 24, .int "GREATEST_LESS" 9, .int "LONGEST_PERIOD" 5040, .int "GREATEST_EXPONENT" 99, .int "GREATEST_SUM" 200, .free "abs", .free "all", .free "bool", .free "dict", .free "enumerate", .free "int", .free "isinstance", .free "len", .free "list", .free "min", .free "range", .free "sorted", .free "sum", .free "tuple", .free "zip"]
abbrev R : PySem.W.OpenRow := PySem.W.OpenLaw.row PySem.Challenge.rw_etasure_k85_families_that_are_quotients
abbrev ga (K : PySem.W.Frag) (x : Str) : Addr := He.ga K x
def up (K : PySem.W.Frag) (x : Str) : List Value := .ref (ga K x) :: .ref (ga K "SeriesError") :: veT
def upS (K : PySem.W.Frag) : List Value := .ref (ga K "SeriesError") :: veT
def ext (K : PySem.W.Frag) : Bool := clsB K (ga K "SeriesError") (upS K) && (clsB K (ga K "BadFamily") (up K "BadFamily") && (clsB K (ga K "BadMost") (up K "BadMost") && (clsB K (ga K "BadPartition") (up K "BadPartition") && (clsB K (ga K "NotPaired") (up K "NotPaired") && (PySem.W.excIn K (ga K "BadFamily") veT "ValueError.__new__" && (PySem.W.excIn K (ga K "BadMost") veT "ValueError.__new__" && (PySem.W.excIn K (ga K "BadPartition") veT "ValueError.__new__" && (PySem.W.excIn K (ga K "NotPaired") veT "ValueError.__new__" && (He.eqO (PySem.W.specialIn K (.builtin "object.__class__") "__get__") (some (some (.builtin "getset_descriptor.__get__"))) && (eqB (PySem.W.takesIn K (.builtin "object.__class__")) (some true) && (clsB K (ga K "TooMany") (up K "TooMany") && (oexB K (ga K "TooMany") && (He.eqO (PySem.W.findIn K (.ref (ga K "TooMany")) "__setattr__") (some (some (.builtin "object.__setattr__"))) && (He.eqO (PySem.W.findIn K (.ref (ga K "TooMany")) "__init__") (some (some (.ref (He.ma K (ga K "TooMany") "__init__")))) && (eqV2 (PySem.W.typeIn K (.ref (He.ma K (ga K "TooMany") "__init__"))) (some (.type "function")) && (He.eqO (PySem.W.findIn K (.ref (ga K "TooMany")) "most") (some none) && (PySem.W.readsIn K (ga K "SeriesError") (.type "type") && (He.eqO (PySem.W.specialIn K (.ref (ga K "SeriesError")) "__getattribute__") (some (some (.builtin "type.__getattribute__"))) && (cfB (PySem.W.findCls K (.ref (ga K "SeriesError")) (.type "type") "__init__") && (He.eqO (PySem.W.nsIn K mainGlobals "gcd") (some (some (.builtin "math.gcd"))) && (He.eqO (PySem.W.nsIn K mainGlobals "lcm") (some (some (.builtin "math.lcm"))))))))))))))))))))))))
def ob (s : PySem.W.SharedT) : AlE := obsE fa fn ext 4 (HandSHeadRun.getT s)
theorem ob_eq (s : PySem.W.SharedT) : ob s = (hookE fa fn ext 4).obs s.abs := by
  have e : HandSHeadRun.getT s = s.abs.heap.get? := funext (HandSHeadRun.getT_eq s)
  show obsE fa fn ext 4 (HandSHeadRun.getT s) = obsE fa fn ext 4 s.abs.heap.get?
  rw [e]
def loose : List PySem.Str := (List.map Str.ofString ["SeriesError", "BadFamily", "BadMost", "BadPartition", "NotPaired", "TooMany", "GREATEST_LEVEL", "GREATEST_MOST", "is_number", "is_within", "are_numbers", "is_number_tuple", "check_most", "lcm_of", "MOST_PARTS", "GREATEST_PART", "is_partition", "check_partition", "row_from_sums", "sums_over_divisors", "MOST_RULES", "GREATEST_MODULUS", "GREATEST_LESS", "LONGEST_PERIOD", "is_family", "_is_rule", "check_family", "bound_of", "times_of_parts", "keeps_rules", "bounded_parts", "powers_up_to", "family_row", "family_powers", "period_of", "_checked_period", "first_unlike_count", "GREATEST_EXPONENT", "bounded_quotient", "GREATEST_SUM", "paired", "_part_to_change", "_mate_of", "family_quotient", "_law_begun", "_law_blend", "_law_take", "_law_pick", "_law_caught", "_law_common", "_law_sigmas", "_law_row", "_law_multiple", "_law_family", "_law_bound", "_law_period", "_law_mates", "_law_glaisher"])
theorem errs_of {K : PySem.W.Frag} (e : ext K = true) : ErrT K (ga K "BadFamily") (ga K "SeriesError") ∧ ErrT K (ga K "BadMost") (ga K "SeriesError") ∧ ErrT K (ga K "BadPartition") (ga K "SeriesError") ∧ ErrT K (ga K "NotPaired") (ga K "SeriesError") ∧ PySem.W.nsIn K mainGlobals "gcd" = some (some (.builtin "math.gcd")) ∧ PySem.W.nsIn K mainGlobals "lcm" = some (some (.builtin "math.lcm")) ∧ InitT K (ga K "TooMany") (ga K "SeriesError") (He.ma K (ga K "TooMany") "__init__") "most" := by
  unfold ext at e
  simp only [Bool.and_eq_true] at e
  obtain ⟨eS, e_BadFamily, e_BadMost, e_BadPartition, e_NotPaired, x_BadFamily, x_BadMost, x_BadPartition, x_NotPaired, e7, e8, c_TooMany, o_TooMany, s_TooMany, n_TooMany, t_TooMany, a_TooMany, rS, sS, vS, i_gcd, i_lcm⟩ := e
  have cS := clsB_ok eS
  have ne : ∀ x, up K x ≠ [] := fun x z => by cases z
  have hasT : ∀ (x : Str) (v : Value), veT.contains v = true → (up K x).contains v = true := fun x v hv => by
    unfold up
    rw [List.contains_cons, List.contains_cons, hv, Bool.or_true, Bool.or_true]
  have e7' := He.eqO_ok e7
  have e8' : PySem.W.takesIn K (.builtin "object.__class__") = some true := of_decide_eq_true e8
  have xS := cS.excC (fun z => by cases z) (by unfold upS; rw [List.contains_cons, show veT.contains (.type "BaseException") = true from rfl, Bool.or_true]) (by unfold upS; rw [List.contains_cons, show veT.contains (.type "object") = true from rfl, Bool.or_true]) e7' e8'
  have subS : ∀ x, (up K x).contains (.ref (ga K "SeriesError")) = true := fun x => by
    unfold up
    rw [List.contains_cons, List.contains_cons]
    simp
  have mk : ∀ x, ClsOk K (ga K x) (up K x) → PySem.W.excIn K (ga K x) veT "ValueError.__new__" = true → ErrT K (ga K x) (ga K "SeriesError") := fun x cx hx =>
    have xx := cx.excC (ne x) (hasT x _ rfl) (hasT x _ rfl) e7' e8'
    { x := hx, k := cx.kp, b := xx.hs, t := cx.ty, m := PySem.W.exm_ref xS.hs xS.hd cS.ty (by rw [cx.sub (ne x), subS x]), e := xx, i := cx.kit (ne x) cx (by rw [decide_eq_true rfl]; rfl) }
  have mkI : ∀ x fI f, ClsOk K (ga K x) (up K x) → oexB K (ga K x) = true → He.eqO (PySem.W.findIn K (.ref (ga K x)) "__setattr__") (some (some (.builtin "object.__setattr__"))) = true → He.eqO (PySem.W.findIn K (.ref (ga K x)) "__init__") (some (some (.ref fI))) = true → eqV2 (PySem.W.typeIn K (.ref fI)) (some (.type "function")) = true → He.eqO (PySem.W.findIn K (.ref (ga K x)) f) (some none) = true → InitT K (ga K x) (ga K "SeriesError") fI f := fun x fI f cx o1 s1 n1 t1 a1 =>
    have xx := cx.excC (ne x) (hasT x _ rfl) (hasT x _ rfl) e7' e8'
    { ox := ⟨oexB_ok o1, He.eqO_ok s1, xx.hs, cx.ty, cx.kp⟩, iC := He.eqO_ok n1, tI := of_decide_eq_true t1, no := He.eqO_ok a1, m := PySem.W.exm_ref xS.hs xS.hd cS.ty (by rw [cx.sub (ne x), subS x]), e := xx, i := cx.kit (ne x) cx (by rw [decide_eq_true rfl]; rfl), x := ⟨xx.hg, xx.hk, xx.hs, xx.hd⟩, kS := cS.kp, rS := rS, sS := He.eqO_ok sS, vS := cfB_ok vS }
  exact ⟨mk _ (clsB_ok e_BadFamily) x_BadFamily, mk _ (clsB_ok e_BadMost) x_BadMost, mk _ (clsB_ok e_BadPartition) x_BadPartition, mk _ (clsB_ok e_NotPaired) x_NotPaired, He.eqO_ok i_gcd, He.eqO_ok i_lcm, mkI _ _ _ (clsB_ok c_TooMany) o_TooMany s_TooMany n_TooMany t_TooMany a_TooMany⟩
theorem run (w : World) : HandSHeadRun.RunEqI R (PySem.W.view R.prog [0, 68]) (hookE fa fn ext 4) ob 40000 loose w := by
  unfold HandSHeadRun.RunEqI
  kernel_rfl
theorem mod_of {P : Program} {w : World} {K : PySem.W.Frag} {h : Heap} {mg : Str → Option Value} {f : Addr} (X : K.In h) (G : h.Ns mainGlobals mg) (hfa : mg ("law" : Str) = some (.ref f)) (c : He.SaysD fa fn K) (ex : ext K = true) :
    ∃ fd, FnP K "law" s_law f fd ∧ ∀ base : Heap, ∃ M : Mod P w K mg base, M.f_law = f ∧ M.d_law = fd := by
  obtain ⟨fd0, F0⟩ := c.def_ 0 (d := dd "law" s_law) rfl
  obtain ⟨fd1, F1⟩ := c.def_ 1 (d := dd "is_number" s_is_number) rfl
  obtain ⟨fd2, F2⟩ := c.def_ 2 (d := dd "is_within" s_is_within) rfl
  obtain ⟨fd3, F3⟩ := c.def_ 3 (d := dd "are_numbers" s_are_numbers) rfl
  obtain ⟨fd4, F4⟩ := c.def_ 4 (d := dd "is_number_tuple" s_is_number_tuple) rfl
  obtain ⟨fd5, F5⟩ := c.def_ 5 (d := dd "check_most" s_check_most) rfl
  obtain ⟨fd6, F6⟩ := c.def_ 6 (d := dd "lcm_of" s_lcm_of) rfl
  obtain ⟨fd7, F7⟩ := c.def_ 7 (d := dd "is_partition" s_is_partition) rfl
  obtain ⟨fd8, F8⟩ := c.def_ 8 (d := dd "check_partition" s_check_partition) rfl
  obtain ⟨fd9, F9⟩ := c.def_ 9 (d := dd "row_from_sums" s_row_from_sums) rfl
  obtain ⟨fd10, F10⟩ := c.def_ 10 (d := dd "sums_over_divisors" s_sums_over_divisors) rfl
  obtain ⟨fd11, F11⟩ := c.def_ 11 (d := dd "is_family" s_is_family) rfl
  obtain ⟨fd12, F12⟩ := c.def_ 12 (d := dd "_is_rule" s__is_rule) rfl
  obtain ⟨fd13, F13⟩ := c.def_ 13 (d := dd "check_family" s_check_family) rfl
  obtain ⟨fd14, F14⟩ := c.def_ 14 (d := dd "bound_of" s_bound_of) rfl
  obtain ⟨fd15, F15⟩ := c.def_ 15 (d := dd "times_of_parts" s_times_of_parts) rfl
  obtain ⟨fd16, F16⟩ := c.def_ 16 (d := dd "keeps_rules" s_keeps_rules) rfl
  obtain ⟨fd17, F17⟩ := c.def_ 17 (d := dd "bounded_parts" s_bounded_parts) rfl
  obtain ⟨fd18, F18⟩ := c.def_ 18 (d := dd "powers_up_to" s_powers_up_to) rfl
  obtain ⟨fd19, F19⟩ := c.def_ 19 (d := dd "family_row" s_family_row) rfl
  obtain ⟨fd20, F20⟩ := c.def_ 20 (d := dd "family_powers" s_family_powers) rfl
  obtain ⟨fd21, F21⟩ := c.def_ 21 (d := dd "period_of" s_period_of) rfl
  obtain ⟨fd22, F22⟩ := c.def_ 22 (d := dd "_checked_period" s__checked_period) rfl
  obtain ⟨fd23, F23⟩ := c.def_ 23 (d := dd "first_unlike_count" s_first_unlike_count) rfl
  obtain ⟨fd24, F24⟩ := c.def_ 24 (d := dd "bounded_quotient" s_bounded_quotient) rfl
  obtain ⟨fd25, F25⟩ := c.def_ 25 (d := dd "paired" s_paired) rfl
  obtain ⟨fd26, F26⟩ := c.def_ 26 (d := dd "_part_to_change" s__part_to_change) rfl
  obtain ⟨fd27, F27⟩ := c.def_ 27 (d := dd "_mate_of" s__mate_of) rfl
  obtain ⟨fd28, F28⟩ := c.def_ 28 (d := dd "family_quotient" s_family_quotient) rfl
  obtain ⟨fd29, F29⟩ := c.def_ 29 (d := dd "_law_begun" s__law_begun) rfl
  obtain ⟨fd30, F30⟩ := c.def_ 30 (d := dd "_law_blend" s__law_blend) rfl
  obtain ⟨fd31, F31⟩ := c.def_ 31 (d := dd "_law_take" s__law_take) rfl
  obtain ⟨fd32, F32⟩ := c.def_ 32 (d := dd "_law_pick" s__law_pick) rfl
  obtain ⟨fd33, F33⟩ := c.def_ 33 (d := dd "_law_caught" s__law_caught) rfl
  obtain ⟨fd34, F34⟩ := c.def_ 34 (d := dd "_law_common" s__law_common) rfl
  obtain ⟨fd35, F35⟩ := c.def_ 35 (d := dd "_law_sigmas" s__law_sigmas) rfl
  obtain ⟨fd36, F36⟩ := c.def_ 36 (d := dd "_law_row" s__law_row) rfl
  obtain ⟨fd37, F37⟩ := c.def_ 37 (d := dd "_law_multiple" s__law_multiple) rfl
  obtain ⟨fd38, F38⟩ := c.def_ 38 (d := dd "_law_family" s__law_family) rfl
  obtain ⟨fd39, F39⟩ := c.def_ 39 (d := dd "_law_bound" s__law_bound) rfl
  obtain ⟨fd40, F40⟩ := c.def_ 40 (d := dd "_law_period" s__law_period) rfl
  obtain ⟨fd41, F41⟩ := c.def_ 41 (d := dd "_law_mates" s__law_mates) rfl
  obtain ⟨fd42, F42⟩ := c.def_ 42 (d := dd "_law_glaisher" s__law_glaisher) rfl
  obtain ⟨fdi0, DI0⟩ := c.def_ 43 rfl
  obtain ⟨X_BadFamily, X_BadMost, X_BadPartition, X_NotPaired, XI_gcd, XI_lcm, XU_TooMany⟩ := errs_of ex
  obtain ⟨t_GREATEST_LEVEL, c_GREATEST_LEVEL⟩ := He.int_ok X G (c.fact 49 (f := .int "GREATEST_LEVEL" 360) rfl)
  obtain ⟨t_GREATEST_MOST, c_GREATEST_MOST⟩ := He.int_ok X G (c.fact 50 (f := .int "GREATEST_MOST" 3000) rfl)
  obtain ⟨t_MOST_PARTS, c_MOST_PARTS⟩ := He.int_ok X G (c.fact 51 (f := .int "MOST_PARTS" 200) rfl)
  obtain ⟨t_GREATEST_PART, c_GREATEST_PART⟩ := He.int_ok X G (c.fact 52 (f := .int "GREATEST_PART" 1000000) rfl)
  obtain ⟨t_MOST_RULES, c_MOST_RULES⟩ := He.int_ok X G (c.fact 53 (f := .int "MOST_RULES" 6) rfl)
  obtain ⟨t_GREATEST_MODULUS, c_GREATEST_MODULUS⟩ := He.int_ok X G (c.fact 54 (f := .int "GREATEST_MODULUS" 24) rfl)
  obtain ⟨t_GREATEST_LESS, c_GREATEST_LESS⟩ := He.int_ok X G (c.fact 55 (f := .int "GREATEST_LESS" 9) rfl)
  obtain ⟨t_LONGEST_PERIOD, c_LONGEST_PERIOD⟩ := He.int_ok X G (c.fact 56 (f := .int "LONGEST_PERIOD" 5040) rfl)
  obtain ⟨t_GREATEST_EXPONENT, c_GREATEST_EXPONENT⟩ := He.int_ok X G (c.fact 57 (f := .int "GREATEST_EXPONENT" 99) rfl)
  obtain ⟨t_GREATEST_SUM, c_GREATEST_SUM⟩ := He.int_ok X G (c.fact 58 (f := .int "GREATEST_SUM" 200) rfl)
  have gl := hfa.symm.trans (He.glo_ok X G (c.fact 0 (f := .glo "law") rfl))
  cases gl
  have g0 := He.glo_ok X G (c.fact 0 (f := .glo "law") rfl)
  have g1 := He.glo_ok X G (c.fact 1 (f := .glo "is_number") rfl)
  have g2 := He.glo_ok X G (c.fact 2 (f := .glo "is_within") rfl)
  have g3 := He.glo_ok X G (c.fact 3 (f := .glo "are_numbers") rfl)
  have g4 := He.glo_ok X G (c.fact 4 (f := .glo "is_number_tuple") rfl)
  have g5 := He.glo_ok X G (c.fact 5 (f := .glo "check_most") rfl)
  have g6 := He.glo_ok X G (c.fact 6 (f := .glo "lcm_of") rfl)
  have g7 := He.glo_ok X G (c.fact 7 (f := .glo "is_partition") rfl)
  have g8 := He.glo_ok X G (c.fact 8 (f := .glo "check_partition") rfl)
  have g9 := He.glo_ok X G (c.fact 9 (f := .glo "row_from_sums") rfl)
  have g10 := He.glo_ok X G (c.fact 10 (f := .glo "sums_over_divisors") rfl)
  have g11 := He.glo_ok X G (c.fact 11 (f := .glo "is_family") rfl)
  have g12 := He.glo_ok X G (c.fact 12 (f := .glo "_is_rule") rfl)
  have g13 := He.glo_ok X G (c.fact 13 (f := .glo "check_family") rfl)
  have g14 := He.glo_ok X G (c.fact 14 (f := .glo "bound_of") rfl)
  have g15 := He.glo_ok X G (c.fact 15 (f := .glo "times_of_parts") rfl)
  have g16 := He.glo_ok X G (c.fact 16 (f := .glo "keeps_rules") rfl)
  have g17 := He.glo_ok X G (c.fact 17 (f := .glo "bounded_parts") rfl)
  have g18 := He.glo_ok X G (c.fact 18 (f := .glo "powers_up_to") rfl)
  have g19 := He.glo_ok X G (c.fact 19 (f := .glo "family_row") rfl)
  have g20 := He.glo_ok X G (c.fact 20 (f := .glo "family_powers") rfl)
  have g21 := He.glo_ok X G (c.fact 21 (f := .glo "period_of") rfl)
  have g22 := He.glo_ok X G (c.fact 22 (f := .glo "_checked_period") rfl)
  have g23 := He.glo_ok X G (c.fact 23 (f := .glo "first_unlike_count") rfl)
  have g24 := He.glo_ok X G (c.fact 24 (f := .glo "bounded_quotient") rfl)
  have g25 := He.glo_ok X G (c.fact 25 (f := .glo "paired") rfl)
  have g26 := He.glo_ok X G (c.fact 26 (f := .glo "_part_to_change") rfl)
  have g27 := He.glo_ok X G (c.fact 27 (f := .glo "_mate_of") rfl)
  have g28 := He.glo_ok X G (c.fact 28 (f := .glo "family_quotient") rfl)
  have g29 := He.glo_ok X G (c.fact 29 (f := .glo "_law_begun") rfl)
  have g30 := He.glo_ok X G (c.fact 30 (f := .glo "_law_blend") rfl)
  have g31 := He.glo_ok X G (c.fact 31 (f := .glo "_law_take") rfl)
  have g32 := He.glo_ok X G (c.fact 32 (f := .glo "_law_pick") rfl)
  have g33 := He.glo_ok X G (c.fact 33 (f := .glo "_law_caught") rfl)
  have g34 := He.glo_ok X G (c.fact 34 (f := .glo "_law_common") rfl)
  have g35 := He.glo_ok X G (c.fact 35 (f := .glo "_law_sigmas") rfl)
  have g36 := He.glo_ok X G (c.fact 36 (f := .glo "_law_row") rfl)
  have g37 := He.glo_ok X G (c.fact 37 (f := .glo "_law_multiple") rfl)
  have g38 := He.glo_ok X G (c.fact 38 (f := .glo "_law_family") rfl)
  have g39 := He.glo_ok X G (c.fact 39 (f := .glo "_law_bound") rfl)
  have g40 := He.glo_ok X G (c.fact 40 (f := .glo "_law_period") rfl)
  have g41 := He.glo_ok X G (c.fact 41 (f := .glo "_law_mates") rfl)
  have g42 := He.glo_ok X G (c.fact 42 (f := .glo "_law_glaisher") rfl)
  have gc0 := He.glo_ok X G (c.fact 43 (f := .glo "SeriesError") rfl)
  have gc1 := He.glo_ok X G (c.fact 44 (f := .glo "BadFamily") rfl)
  have gc2 := He.glo_ok X G (c.fact 45 (f := .glo "BadMost") rfl)
  have gc3 := He.glo_ok X G (c.fact 46 (f := .glo "BadPartition") rfl)
  have gc4 := He.glo_ok X G (c.fact 47 (f := .glo "NotPaired") rfl)
  have gc5 := He.glo_ok X G (c.fact 48 (f := .glo "TooMany") rfl)
  have b_abs := He.free_ok X G (c.fact 59 (f := .free "abs") rfl)
  have b_all := He.free_ok X G (c.fact 60 (f := .free "all") rfl)
  have b_bool := He.free_ok X G (c.fact 61 (f := .free "bool") rfl)
  have b_dict := He.free_ok X G (c.fact 62 (f := .free "dict") rfl)
  have b_enumerate := He.free_ok X G (c.fact 63 (f := .free "enumerate") rfl)
  have b_int := He.free_ok X G (c.fact 64 (f := .free "int") rfl)
  have b_isinstance := He.free_ok X G (c.fact 65 (f := .free "isinstance") rfl)
  have b_len := He.free_ok X G (c.fact 66 (f := .free "len") rfl)
  have b_list := He.free_ok X G (c.fact 67 (f := .free "list") rfl)
  have b_min := He.free_ok X G (c.fact 68 (f := .free "min") rfl)
  have b_range := He.free_ok X G (c.fact 69 (f := .free "range") rfl)
  have b_sorted := He.free_ok X G (c.fact 70 (f := .free "sorted") rfl)
  have b_sum := He.free_ok X G (c.fact 71 (f := .free "sum") rfl)
  have b_tuple := He.free_ok X G (c.fact 72 (f := .free "tuple") rfl)
  have b_zip := He.free_ok X G (c.fact 73 (f := .free "zip") rfl)
  exact ⟨fd0, F0, fun base => ⟨{ f_law := _, d_law := fd0, F_law := F0, g_law := g0, f_is_number := _, d_is_number := fd1, F_is_number := F1, g_is_number := g1, f_is_within := _, d_is_within := fd2, F_is_within := F2, g_is_within := g2, f_are_numbers := _, d_are_numbers := fd3, F_are_numbers := F3, g_are_numbers := g3, f_is_number_tuple := _, d_is_number_tuple := fd4, F_is_number_tuple := F4, g_is_number_tuple := g4, f_check_most := _, d_check_most := fd5, F_check_most := F5, g_check_most := g5, f_lcm_of := _, d_lcm_of := fd6, F_lcm_of := F6, g_lcm_of := g6, f_is_partition := _, d_is_partition := fd7, F_is_partition := F7, g_is_partition := g7, f_check_partition := _, d_check_partition := fd8, F_check_partition := F8, g_check_partition := g8, f_row_from_sums := _, d_row_from_sums := fd9, F_row_from_sums := F9, g_row_from_sums := g9, f_sums_over_divisors := _, d_sums_over_divisors := fd10, F_sums_over_divisors := F10, g_sums_over_divisors := g10, f_is_family := _, d_is_family := fd11, F_is_family := F11, g_is_family := g11, f__is_rule := _, d__is_rule := fd12, F__is_rule := F12, g__is_rule := g12, f_check_family := _, d_check_family := fd13, F_check_family := F13, g_check_family := g13, f_bound_of := _, d_bound_of := fd14, F_bound_of := F14, g_bound_of := g14, f_times_of_parts := _, d_times_of_parts := fd15, F_times_of_parts := F15, g_times_of_parts := g15, f_keeps_rules := _, d_keeps_rules := fd16, F_keeps_rules := F16, g_keeps_rules := g16, f_bounded_parts := _, d_bounded_parts := fd17, F_bounded_parts := F17, g_bounded_parts := g17, f_powers_up_to := _, d_powers_up_to := fd18, F_powers_up_to := F18, g_powers_up_to := g18, f_family_row := _, d_family_row := fd19, F_family_row := F19, g_family_row := g19, f_family_powers := _, d_family_powers := fd20, F_family_powers := F20, g_family_powers := g20, f_period_of := _, d_period_of := fd21, F_period_of := F21, g_period_of := g21, f__checked_period := _, d__checked_period := fd22, F__checked_period := F22, g__checked_period := g22, f_first_unlike_count := _, d_first_unlike_count := fd23, F_first_unlike_count := F23, g_first_unlike_count := g23, f_bounded_quotient := _, d_bounded_quotient := fd24, F_bounded_quotient := F24, g_bounded_quotient := g24, f_paired := _, d_paired := fd25, F_paired := F25, g_paired := g25, f__part_to_change := _, d__part_to_change := fd26, F__part_to_change := F26, g__part_to_change := g26, f__mate_of := _, d__mate_of := fd27, F__mate_of := F27, g__mate_of := g27, f_family_quotient := _, d_family_quotient := fd28, F_family_quotient := F28, g_family_quotient := g28, f__law_begun := _, d__law_begun := fd29, F__law_begun := F29, g__law_begun := g29, f__law_blend := _, d__law_blend := fd30, F__law_blend := F30, g__law_blend := g30, f__law_take := _, d__law_take := fd31, F__law_take := F31, g__law_take := g31, f__law_pick := _, d__law_pick := fd32, F__law_pick := F32, g__law_pick := g32, f__law_caught := _, d__law_caught := fd33, F__law_caught := F33, g__law_caught := g33, f__law_common := _, d__law_common := fd34, F__law_common := F34, g__law_common := g34, f__law_sigmas := _, d__law_sigmas := fd35, F__law_sigmas := F35, g__law_sigmas := g35, f__law_row := _, d__law_row := fd36, F__law_row := F36, g__law_row := g36, f__law_multiple := _, d__law_multiple := fd37, F__law_multiple := F37, g__law_multiple := g37, f__law_family := _, d__law_family := fd38, F__law_family := F38, g__law_family := g38, f__law_bound := _, d__law_bound := fd39, F__law_bound := F39, g__law_bound := g39, f__law_period := _, d__law_period := fd40, F__law_period := F40, g__law_period := g40, f__law_mates := _, d__law_mates := fd41, F__law_mates := F41, g__law_mates := g41, f__law_glaisher := _, d__law_glaisher := fd42, F__law_glaisher := F42, g__law_glaisher := g42, a_SeriesError := _, g_SeriesError := gc0, a_BadFamily := _, g_BadFamily := gc1, a_BadMost := _, g_BadMost := gc2, a_BadPartition := _, g_BadPartition := gc3, a_NotPaired := _, g_NotPaired := gc4, a_TooMany := _, g_TooMany := gc5, E_BadFamily := X_BadFamily, E_BadMost := X_BadMost, E_BadPartition := X_BadPartition, E_NotPaired := X_NotPaired, fi_TooMany := _, di_TooMany := fdi0, D_TooMany := DI0, U_TooMany := XU_TooMany, i_gcd := PySem.W.mg_of X G XI_gcd, i_lcm := PySem.W.mg_of X G XI_lcm, t_GREATEST_LEVEL := t_GREATEST_LEVEL, c_GREATEST_LEVEL := c_GREATEST_LEVEL, t_GREATEST_MOST := t_GREATEST_MOST, c_GREATEST_MOST := c_GREATEST_MOST, t_MOST_PARTS := t_MOST_PARTS, c_MOST_PARTS := c_MOST_PARTS, t_GREATEST_PART := t_GREATEST_PART, c_GREATEST_PART := c_GREATEST_PART, t_MOST_RULES := t_MOST_RULES, c_MOST_RULES := c_MOST_RULES, t_GREATEST_MODULUS := t_GREATEST_MODULUS, c_GREATEST_MODULUS := c_GREATEST_MODULUS, t_GREATEST_LESS := t_GREATEST_LESS, c_GREATEST_LESS := c_GREATEST_LESS, t_LONGEST_PERIOD := t_LONGEST_PERIOD, c_LONGEST_PERIOD := c_LONGEST_PERIOD, t_GREATEST_EXPONENT := t_GREATEST_EXPONENT, c_GREATEST_EXPONENT := c_GREATEST_EXPONENT, t_GREATEST_SUM := t_GREATEST_SUM, c_GREATEST_SUM := c_GREATEST_SUM, abs0 := b_abs, all0 := b_all, bool0 := b_bool, dict0 := b_dict, enumerate0 := b_enumerate, int0 := b_int, isinstance0 := b_isinstance, len0 := b_len, list0 := b_list, min0 := b_min, range0 := b_range, sorted0 := b_sorted, sum0 := b_sum, tuple0 := b_tuple, zip0 := b_zip }, rfl, rfl⟩⟩
theorem facts {P : Program} {w : World} {K : PySem.W.Frag} {h : Heap} {mg : Str → Option Value} {f : Addr} (X : K.In h) (G : h.Ns mainGlobals mg) (hfa : mg ("law" : Str) = some (.ref f)) (c : He.SaysD fa fn K) (ex : ext K = true) :
    ∃ fd, (∀ (s : Shared) (v : Value), BindsTo s fd ⟨[v], []⟩ [("script", v)]) ∧ ∀ base : Heap, K.In base → base.Ns mainGlobals mg → TabB base mg (He.cT K lawD).1 (He.cT K lawD).2 → FnOk P w K mg base CX0 11 f fd ["script"] (sp_law K (He.cT K lawD).2) := by
  have gl := hfa.symm.trans (He.glo_ok X G (c.fact 0 (f := .glo "law") rfl))
  cases gl
  obtain ⟨fd, F, hM⟩ := mod_of (P := P) (w := w) X G hfa c ex
  have b := FunD.bindsA (ps := ["script"]) F fun _ _ _ _ _ _ us hl => match us, hl with | [_], _ => rfl
  refine ⟨fd, fun s v => b s [v] rfl, fun base hK hN TB => ?_⟩
  obtain ⟨M, e1, e2⟩ := hM base
  have hc : fd.code = .ref (He.cT K lawD).1 := by
    obtain ⟨oc, od, dV, kV, doc, pm, an, cdv, ct, osl, rfl, lk, hcd, _, _⟩ := F.ex
    obtain ⟨c0, rfl⟩ := He.codeIn_ref hcd
    have z := He.codeOf_eq (p := lawD) (c := c0) lk rfl
    show Value.ref c0 = Value.ref (He.codeOf K lawD)
    rw [z]
  have z := ok_law M (c := (He.cT K lawD).1) (Pt := (He.cT K lawD).2) (by rw [e2]; exact hc) TB
  rw [e1, e2] at z
  exact z
end K85
open PySem PySem.W PySem.Calls PyProof.Rows
theorem PySem.Challenge.cw_etasure_k85_families_that_are_quotients_holds : PySem.Challenge.rw_etasure_k85_families_that_are_quotients.Holds := by
  w_on; o_law
  refine HandSHeadRun.head_imp (r := OpenLaw.row PySem.Challenge.rw_etasure_k85_families_that_are_quotients) (q := view (OpenLaw.row PySem.Challenge.rw_etasure_k85_families_that_are_quotients).prog [0, 68]) (H := Xv.hookE K85.fa K85.fn K85.ext 4) (ob := K85.ob) (M := 40000) (loose := K85.loose) (d := HandSHeadRun.topDef (OpenLaw.row PySem.Challenge.rw_etasure_k85_families_that_are_quotients).prog 68) (kwd := []) K85.ob_eq
    K85.run (by kernel_rfl) (by kernel_rfl) (by kernel_rfl) (by rfl) (by first | assumption | decide +kernel) (by decide +kernel) ⟨rfl, rfl, rfl, rfl, rfl, by decide +kernel⟩ ?hw ?hc
  case hw => w_witness2
  case hc =>
    refine LamX.walk_ofTsE (l := PySem.Challenge.rw_etasure_k85_families_that_are_quotients) (n := 63) (k := 11) (x := "script") (CX := fun _ => L2.CX0) rfl (by decide) (by kernel_rfl) ⟨rfl, by decide, by decide⟩ ?F (fun _ _ _ _ _ h => h)
    intro w mg fa h Y G hmg0
    obtain ⟨K, KX, c⟩ := Y
    have hmg : mg ("law" : PySem.Str) = some (.ref fa) := by
      have e : (HandSHeadRun.topDef (OpenLaw.row PySem.Challenge.rw_etasure_k85_families_that_are_quotients).prog 68).name = ("law" : PySem.Str) := by kernel_rfl
      rw [← e]
      exact hmg0
    obtain ⟨fd, hb, hF⟩ := K85.facts (P := (PySem.Challenge.rw_etasure_k85_families_that_are_quotients).prog) (w := w) KX G hmg c.d c.more
    refine ⟨K, KX, fd, [He.cT K Xv.lawD], K85.sp_law K (He.cT K Xv.lawD).2, fun p hp => ?_, fun p hp => ?_, fun p hp => ?_, hb, fun H a ns hl _ hT hS => ⟨a, ns, rfl, hS, by omega, hT _ (List.mem_singleton.mpr rfl), fun _ => rfl⟩, fun base hK hN hTB => hF base hK hN (hTB _ (List.mem_singleton.mpr rfl))⟩
    · rw [List.mem_singleton.mp hp]
      exact c.empty
    · rw [List.mem_singleton.mp hp]
      exact c.out
    · rw [List.mem_singleton.mp hp]
      exact PySem.W.codeHd_of_K KX c.hd

