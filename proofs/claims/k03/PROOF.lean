import PyProof.Rows.All
import Wide.All
import OpenK.AllK
import Wide.FinOn
import KE.KExcIs
import HandS.ForMost
import HandS.ForExc
import HandS.Wide
import HandS.Defaults
import HandS.IsInst
import HandS.ExcIs
import HandS.ExcOwn
import HandS.ExcValue
import HandS.ExcInit
import HandS.MakeKw
import HandS.MakeKwOnly
import HandS.Lambda
import HandS.TryOnly
import HandS.ClsMeth
import HandS.HeadWalk
import HandS.ExcField
import KE.GoesEnum
import HandS.Walk
import KE.GoesEnumKw
import KE.GoesMore
import HandS.SortKw
import Lean
import KE.KStateDown
import HandS.More
import HandS.Words
import HandS.WordsExc
import HandS.Head0
import HandS.Head1
import HandS.Head2
import HandS.HeadEnd
import HandS.HeadHook1
import HandS.HeadHook2
import HandS.HeadHook4
import Flt.RightSqrt
import HandS.Zip
import HandS.ExcBuiltin
import HandS.EndOwn
import HandS.Small
import HandS.Style
import HandS.TupAny
import HandS.TupLe
import HandS.Gcd
import HandS.Head3
import PySem.Challenge.RW_etasure_k03_whole_triple_and_quintuple_p
set_option Elab.async false
set_option linter.all false
set_option maxRecDepth 100000
set_option maxHeartbeats 4000000
set_option pp.maxSteps 3000
namespace Xv
open PySem PySem.Spec PyProof.Rows L2
/-! ### errors of own classes as values -/
/-- at a an error of the class at C: without a dict, or with its dict at d -/
def ErrAt (H : Hp) (a C : Addr) : Prop := H a = some (ExO (.ref C) a) ∨ ∃ d fs, H a = some (exo a C (some d)) ∧ H d = some (exd d fs)
section
variable {X : Cx} {pins : List (Addr × Obj)} {σ : L2.St} {H : Hp} {s : Shared} {a C : Addr}
theorem errAt_inst (I : Inv X pins σ H s) (h : ErrAt H a C) : ∃ ox od, PySem.W.InstAt s.heap a ox C od := by
  rcases h with h | ⟨d, fs, h, hd⟩
  · have q : ObjOk X.prog X.w H s.heap a (ExO (.ref C) a) := I.hok a _ h
    obtain ⟨⟨oe, vs, e, z, dt, _⟩, _⟩ := q
    obtain ⟨oc, od, oda, osl⟩ := oe
    obtain ⟨z1, z2⟩ := z
    dsimp only at z1 z2 dt
    subst z1 z2 dt
    exact ⟨_, none, e, rfl, rfl, trivial⟩
  · obtain ⟨t1, ho⟩ := exo_at I.hok h
    obtain ⟨mA, ⟨od, es, ep, e2, _⟩, _⟩ := exd_at I.hok hd
    exact ⟨_, some od, ho, rfl, rfl, e2⟩
/-- isinstance(e, c), e such an error -/
def rIsErr (K : PySem.W.Frag) : List V → Hp → VK → Prop := fun xs H Q => ∃ (a C : Addr) (c : V) (cv : Value) (b : Bool), xs = [.ref a, c] ∧ ErrAt H a C ∧ ExcC K C ∧ (∀ u, RelV c u → u = cv) ∧ PySem.W.kitOne K (.ref C) cv = some b ∧ Q (.bl b) H
theorem call_isErr : CallR X (.builtin "isinstance") (rIsErr X.K) := by
  intro pins s σ H xs us Q I r h
  obtain ⟨a, C, c, cv, b, rfl, he, T, hc, hk, q⟩ := h
  obtain ⟨u1, u2, rfl, r1, r2⟩ := vals2 r
  cases (show u1 = Value.ref a from r1)
  have e2 := hc _ r2
  subst e2
  obtain ⟨ox, od, J⟩ := errAt_inst I he
  obtain ⟨cd, hcd, _⟩ := PySem.W.any_some T.hd
  exact PySem.W.kia_one (PySem.W.kitx_exc (by rw [hcd]; rfl) T.hg T.hk T.hs T.ha T.hn T.ht T.hm) I.kIn J hk (fun z => nomatch z) fun tk => ⟨.bl b, H, I.tok tk, rfl, q⟩
end
/-! ### e.f of an error that holds its fields -/
structure ErrRd (K : PySem.W.Frag) (C : Addr) (f : Str) : Prop where
  ga : PySem.W.findIn K (.ref C) "__getattribute__" = some (some (.builtin "BaseException.__getattribute__"))
  gg : PySem.W.findIn K (.ref C) "__getattr__" = some none
  sub : PySem.W.subIn K (.ref C) (.type "BaseException") = some true
  hd : PySem.W.hasDictIn K C = true
  no : PySem.W.findIn K (.ref C) f = some none
def tErrF (K : PySem.W.Frag) (f : Str) (te : TE) : TE := fun σ H Q => te σ H fun x H1 => ∃ (a C d : Addr) (fs : List (Str × V)) (v : V), x = .ref a ∧ H1 a = some (exo a C (some d)) ∧ H1 d = some (exd d fs) ∧ ErrRd K C f ∧ fs.lookup f = some v ∧ Q v H1
section
variable {X : Cx}
theorem pe_errF {e : Expr} {te : TE} {f : Str} {pos : Pos} (he : PE X e te) (hb : attributeBase e f X.env (eval e X.env) = eval e X.env := by rfl) : PE X (.Attribute e f pos) (tErrF X.K f te) := by
  refine ⟨fun pins s σ H Q I h => attr_of hb (thn (he.run pins s σ H _ I h) fun u s1 hh => ?_)⟩
  obtain ⟨x, H1, I1, rx, a, C, d, fs, v, ex, ha, hd, T, hl, q⟩ := hh
  subst ex
  cases (show u = Value.ref a from rx)
  obtain ⟨t1, ho⟩ := exo_at I1.hok ha
  obtain ⟨mA, hns, hr⟩ := exd_at I1.hok hd
  obtain ⟨od, hod, hlk⟩ := lookIn_ns hns
  obtain ⟨u, hu, ru⟩ := RelO.some_of (v := v) (o := mA f) (by rw [← hl]; exact hr f)
  have J : PySem.W.InstAt s1.heap a _ C (some od) := ⟨ho, rfl, rfl, hod⟩
  exact PySem.HandSPX.exc_get I1.kIn J T.ga T.gg T.sub (PySem.W.findObj_own T.hd T.no rfl (by rw [hlk, hu])) (handed_of ru) ⟨v, H1, I1.tok _, ru, q⟩
end
/-! ### S.__init__(self, ..), S an own class over ValueError without an __init__ of its own -/
section
variable {X : Cx} {o e : Expr} {es : List Expr} {ta : TA} {x : Str} {p1 p2 pos : Pos}
theorem pe_sinit {S : Addr} {mc : Value} {pl : Sem Bool} (hg : Gl X x) (hm : X.mg x = some (.ref S)) (kS : PySem.W.keepIn X.K (.ref S) = true) (rd : PySem.W.readsIn X.K S mc = true) (sg : PySem.W.specialIn X.K (.ref S) "__getattribute__" = some (some (.builtin "type.__getattribute__")))
    (vV : PySem.W.findCls X.K (.ref S) mc "__init__" = some (.val (.builtin "ValueError.__init__"))) (ha : PA X (e :: es) ta) (hdb : (x == ("__debug__" : Str)) = false := by decide)
    (hc : eval (.Call (.Attribute (.Name x p1) "__init__" p2) (e :: es) [] pos) X.env = (do
      let ov ← eval (.Name x p1) X.env
      standAt p2.atName
      let (f, first) ← holding [ov] (getMethod ov "__init__" pl)
      callWith pos f first (backTo pos (starEach (e :: es) X.env)) (backToKw pos (keywordEach [] X.env))) := by rfl)
    (he : starEach (e :: es) X.env = (false, eval e X.env) :: starEach es X.env := by rfl) (hpl : (backTo pos (starEach es X.env)).any (·.1) = false := by rfl) :
    PE X (.Call (.Attribute (.Name x p1) "__init__" p2) (e :: es) [] pos) (tVeI X.K ta) := by
  refine ⟨fun pins s σ H Q I h => PySem.W.methodCall_KW (ld_glob I hg hm ?_ hdb) hc⟩
  refine PySem.W.method_cls I.kIn sg (PySem.W.cls_value I.kIn rd vV (by decide +kernel) ?_)
  show wpAny _ _ (callWith pos (Value.builtin "ValueError.__init__") [] (backTo pos (starEach (e :: es) X.env)) []) _ _ _
  refine PyProof.Rows.callWith_method1 (thn (ha.run pos pins _ σ H _ (I.tok _) h) fun us s1 hh => ?_) he hpl
  obtain ⟨vs, H1, I1, r1, a, C, ws, ev, hl, T, ea, q⟩ := hh
  subst ev
  cases r1 with
  | @cons _ u0 _ ur ra rw' =>
    cases (show u0 = Value.ref a from ra)
    have hlen : ur.length ≤ sizeLine := by
      have e1 := Paired.length rw'
      rw [sizeLine_eq]
      omega
    exact oinit_ok T I1 ea hlen fun s' J => ⟨.non, H1, J, rfl, q⟩
end
/-! ### C(e, ..) of such a class as a value, its own __init__ walked as a def -/
def tErrV (C : Addr) (sp : Sp) (E : XK) (ta : TA) : TE := fun σ H Q => ta σ H fun vs H1 => vs.length ≤ 1000 ∧ ∀ a, H1 a = none → sp (.ref a :: vs) (upd H1 a (exo a C none)) (fun v H2 => v = .non ∧ Q (.ref a) H2) E
section
variable {X : Cx} {e : Expr} {es : List Expr} {ta : TA} {x : Str} {p pos : Pos}
theorem pe_errV {CX : CXT} {C fI : Addr} {k : Nat} {fd : FuncData} {ps : List Str} {sp : Sp} {E : XK} (T : OexC X.K C) (iC : PySem.W.findIn X.K (.ref C) "__init__" = some (some (.ref fI))) (tI : PySem.W.typeIn X.K (.ref fI) = some (.type "function"))
    (F1 : FnOk X.prog X.w X.K X.mg X.base CX k fI fd ps sp) (hr : Room (k + 1) X.A) (hb : Binds X.K fd ps []) (hx : Passes CX X E) (hg : Gl X x) (hm : X.mg x = some (.ref C)) (ha : PA X (e :: es) ta)
    (hdb : (x == ("__debug__" : Str)) = false := by decide) (he : starEach (e :: es) X.env = (false, eval e X.env) :: starEach es X.env := by rfl) (hpl : (backTo pos (starEach es X.env)).any (·.1) = false := by rfl) :
    PE X (.Call (.Name x p) (e :: es) [] pos) (tErrV C sp E ta) := by
  refine ⟨fun pins s σ H Q I h => wpAny_Call_Name_kw (ld_glob I hg hm ?_ hdb)⟩
  obtain ⟨nm, q, N, bs, bm, sn, sub, ab, col, dd, k0, k1, k2, k3, k5, hC, hbm⟩ := T.cls
  refine PySem.W.callWith_K (h₀ := X.base) I.ok.mod.kin T.kC (thn (ha.run pos pins s σ H _ I h) fun us s1 hh => ?_) he hpl
  obtain ⟨vs, H1, I1, r1, hz, q1⟩ := hh
  refine ⟨I1.kIn, ?_⟩
  show wpAny _ _ (call (.ref C) us) _ _ _
  obtain ⟨hp, g, dr, tk, os⟩ := s1
  have hq := q1 (hp.objs.size + 1) (I1.hok.fresh (Nat.le_succ _))
  have I2 : Inv X pins σ (upd H1 (hp.objs.size + 1) (exo (hp.objs.size + 1) C none)) ⟨(hp.push (PySem.W.kdv_tup us)).push (PySem.HandSPX.excO C hp.objs.size), g, dr, tk, os⟩ :=
    I1.laid (t' := tk) (fun b o z => Heap.get?_push_of_some _ (Heap.get?_push_of_some _ z)) (Nat.le_succ _) (L2.exo_ok (by heap_get))
  have r2 : Vals (V.ref (hp.objs.size + 1) :: vs) (Value.ref (hp.objs.size + 1) :: us) := .cons rfl r1
  have hl : (Value.ref (hp.objs.size + 1) :: us).length = ps.length := by rw [← r2.length]; exact F1.len _ _ _ _ hq
  have hb2 := hb _ (Value.ref (hp.objs.size + 1) :: us) I2.kIn (by simpa using hl)
  rw [List.append_nil] at hb2
  have hus : us.length ≤ sizeLine := by
    have e1 := Paired.length r1
    rw [sizeLine_eq]
    omega
  refine wpAny_call (PySem.HandSPX.call_own F.excBase_ValueError (fun Y => PySem.HandSPX.refsVE_contains Y bm hbm) (I1.kIn _ _ hC) (PySem.W.looks_findIn I1.kIn iC) (fun self => PySem.W.bind_fn I1.kIn self tI) hus (codeAny_mono
    (F1.run _ X.stack _ _ ⟨_, []⟩ _ _ _ E (hr.make C us []) (I2.env0.make C us []) hb2 r2 hq) fun r s' hq' => ?_))
  rcases r with er | fl
  · exact hx pins σ _ _ er s' I2 hq'
  · cases fl with
    | ret u =>
      obtain ⟨v, H', I3, rv, ev, q3⟩ := I2.after hq'
      subst ev
      exact ⟨rv, ⟨V.ref (hp.objs.size + 1), H', I3, rfl, q3⟩⟩
    | next => exact hq'.elim
    | brk => exact hq'.elim
    | cont => exact hq'.elim
end
end Xv

set_option Elab.async false
set_option linter.all false
set_option maxRecDepth 100000
set_option maxHeartbeats 4000000
set_option pp.maxSteps 3000
/-! try: .. except x as n: suite, the exception known behind the try -/
namespace Xv
open PySem PySem.Spec PyProof.Rows L2
/-- at a an exception of the class cls, its dict d -/
def ErX (cls : Value) (d : Option Addr) (a : Addr) : HO := .ext fun h => ∃ (oe : Obj) (vs : Array Value), h.get? a = some oe ∧ Zc cls d oe ∧ oe.data = .fields vs
section
variable {X : Cx} {pins : List (Addr × Obj)} {σ : L2.St} {H : Hp} {s : Shared} {a : Addr} {oe : Obj} {vs : Array Value} {cls : Value} {d : Option Addr}
/-- a pinned exception that was not there at the entry is tracked -/
theorem track (I : Inv X ((a, oe) :: pins) σ H s) (hex : X.ex = []) (n0 : X.s_0.heap.get? a = none) (hz : Zc cls d oe) (hd : oe.data = .fields vs) (hA : ∀ p ∈ X.pn ++ pins, p.1 ≠ a) : Inv X pins σ (upd H a (ErX cls d a)) s := by
  obtain ⟨ha, hn, nL, nF, _⟩ := I.pin (a, oe) (List.mem_append_right _ List.mem_cons_self)
  have old : ∀ b o, X.s_0.heap.get? b = some o → b ≠ a := fun b o e z => by
    rw [z, n0] at e
    cases e
  have nl : X.env.locals ≠ a := fun z => nL z.symm
  have cl : ∀ x c, X.env.cells.lookup x = some c → c ≠ a := fun x c e z => by
    obtain ⟨v, o, q1, q2⟩ := I.cell x c e
    rw [z] at q1
    have ha' : s.heap.get? a = some oe := ha
    rw [ha'] at q1
    cases q1
    rw [hd] at q2
    cases q2
  have J : Inv X pins σ H s := ClX.unpin I
  refine ⟨J.ok, J.os, J.bare, ⟨J.base.keep, J.base.slot, fun b o e n hx => ?_, J.base.there, fun b xs e => ?_, fun b o u e => ?_, fun b ps e => ?_⟩, J.loc, J.cell, ?_, fun x c e => ?_, fun p hp => ?_, fun b o e => ?_, J.len⟩
  · rw [upd_ne (old b o e)]
    exact J.base.free b o e n hx
  · have q := J.base.tups b xs e
    rw [upd_ne (ne_of_none q hn)]
    exact q
  · have q := J.base.frzs b o u e
    rw [upd_ne (ne_of_none q hn)]
    exact q
  · obtain ⟨more, q⟩ := J.base.tbls b ps e
    exact ⟨more, by rw [upd_ne (ne_of_none q hn)]; exact q⟩
  · rw [upd_ne nl]
    exact J.free
  · rw [upd_ne (cl x c e)]
    exact J.freeC x c e
  · obtain ⟨e1, e2, e3, e4, e5⟩ := J.pin p hp
    exact ⟨e1, by rw [upd_ne (hA p hp)]; exact e2, e3, e4, e5⟩
  · by_cases hb : b = a
    · subst hb
      rw [upd_same] at e
      cases e
      exact ⟨⟨oe, vs, ha, hz, hd⟩, ⟨oe, ha⟩, fun h1 h2 q k => by
        obtain ⟨o, w, q1, q2⟩ := q
        exact ⟨o, w, k o q1, q2⟩⟩
    · rw [upd_ne hb] at e
      exact (J.hok b o e).stay (fun c v _ q => q) (fun c q => by rw [upd_ne (ne_of_none q hn)]; exact q) fun c xs q => by rw [upd_ne (ne_of_none q hn)]; exact q
end
/-- what the clause wishes of an exception of the body: behind the suite the exception is known -/
def wKeep (K : PySem.W.Frag) (len : Nat) (c : Value) (i : Nat) (ts : TS) (Wout : WX) (D : Ends) : WX := fun cls d σ H => σ.length = len → ∃ b, PySem.W.exmOne K cls c = some b ∧
  (b = true → ∀ a, H a = none → ts { nx := fun σ' H' => D.nx (σ'.set i none) (upd H' a (ErX cls d a)), rt := fun _ _ => False, bk := fun _ _ => False, ct := fun _ _ => False } (σ.set i (some (.ref a))) H) ∧ (b = false → Wout cls d σ H)
section
variable {X : Cx} {x n : Str} {c : Value} {i : Nat} {body suite : List Stmt} {b0 : Stmt} {np pos pos' : Pos} {tb : WX → TS} {ts : TS} {Wout : WX}
theorem ps_try_keep (hs : X.stack = X.env :: X.outer) (hf : X.env.frame = some X.env.locals) (hN : X.N.Nodup) (hex : X.ex = []) (hi : X.N[i]? = some n) (hln : X.env.kindOf n = some .local) (hc : Names X x c) (tk : Takes X Wout)
    (hb : ∀ (W : WX) (pn : List (Addr × Obj)) (xe : Value → Shared → Prop), Takes (X.tr pn xe) W → PSs (X.tr pn xe) body (tb W)) (hsu : ∀ (a : Addr) (oe : Obj) (pn : List (Addr × Obj)), PSs (X.suite a ((a, oe) :: pn)) (b0 :: suite) ts) :
    PS X (.Try body [.ExceptHandler (some (.Name x np)) (some n) (b0 :: suite) pos'] [] [] pos) (fun D σ H => tb (wKeep X.K X.N.length c i ts Wout D) D σ H) := by
  refine ⟨fun pins s σ H D I h => ?_⟩
  have ok := I.ok
  have frm : X.A.frames = some (X.env :: X.outer) := by
    rw [ok.frames, hs]
  refine wpAny_Try_except (wpAny_mono ((hb (wKeep X.K X.N.length c i ts Wout D) (X.pn ++ pins) (fun e s1 => wpAny (model X.prog X.w) X.A (noteFrame e X.env) (fun _ s2 => wpAny (model X.prog X.w) X.A (setFlight e none) (fun _ s3 => wpAny (model X.prog X.w) X.A
    (handleBy e X.env [.ExceptHandler (some (.Name x np)) (some n) (b0 :: suite) pos']) (SP X pins D) X.xe s3) X.xe s2) X.xe s1) (fun u s' xx => ?_)).run [] s σ H D (I.toTry _) h) (fun f s1 hsp => ?_) (fun _ _ he => he))
  · obtain ⟨a, B, sI, pins', σ', H', cls, d, rfl, J', nb, up, sky, na, os, ag, hw⟩ := xx
    obtain ⟨b, hb1, hyes, hno⟩ := hw J'.len
    have J : Inv X pins σ' H' sI := J'.ofTry ok
    rw [hs] at sky
    refine Sky.land Zc.steady frm hf sky fun h3 fl3 up3 => ?_
    have J3 : Inv X pins σ' H' { s' with heap := h3 } := J.landed nb fl3.1 (up.trans up3) os ag
    obtain ⟨oe3, vs3, he3, hz3, hd3⟩ := fl3.there
    have nfr : a ∉ frs (X.env :: X.outer) := fun hm => by
      obtain ⟨_, o', e', hnf⟩ := fl3.2.2.1.mem hm
      rw [he3] at e'
      cases e'
      exact hnf _ hd3
    have nL : a ≠ X.env.locals := fun z => nfr (List.mem_filterMap.mpr ⟨X.env, List.mem_cons_self, by rw [hf, z]⟩)
    have nF : a ∉ X.fs := fun hm => by
      obtain ⟨e, he, q⟩ := List.mem_filterMap.mp hm
      exact nfr (List.mem_filterMap.mpr ⟨e, List.mem_cons_of_mem _ he, q⟩)
    have notB : B.get? a = none := fl3.2.1
    have onB : ∀ b o, sI.heap.get? b = some o → b ∉ frs (X.env :: X.outer) → b ≠ a := fun b o e hm z => by
      have q := nb b o e (by rw [hs]; exact hm)
      rw [z, notB] at q
      cases q
    have n0 : X.s_0.heap.get? a = none := by
      cases e : X.s_0.heap.get? a with
      | none => rfl
      | some o =>
        obtain ⟨o', q⟩ := J.base.there a o e (by rw [hex]; exact fun z => nomatch z)
        exact absurd rfl (onB a o' q nfr)
    have nP : ∀ p ∈ X.pn ++ pins, p.1 ≠ a := fun p hp => by
      obtain ⟨e1, _, e3, e4, _⟩ := J.pin p hp
      refine onB p.1 p.2 e1 fun hm => ?_
      rcases List.mem_cons.mp (show p.1 ∈ X.env.locals :: frs X.outer from by
        have q : frs (X.env :: X.outer) = X.env.locals :: frs X.outer := by
          show (X.env :: X.outer).filterMap (·.frame) = _
          rw [List.filterMap_cons, hf]
          rfl
        rw [← q]
        exact hm) with z | z
      · exact e3 z
      · exact e4 z
    have S3 := J3.suite he3 hd3 na nL nF
    refine wpAny_handleBy_cons (codeAny_handlers_test ?_) (by intro q; cases q)
    have LT : PySem.W.Looks (model X.prog X.w) h3 (typeOf (.ref a)) cls := fun A Q E s k q => wpAny_typeOf_ref (k _ _ he3) (by rw [hz3.1]; exact q)
    have LM := PySem.W.exm_one (M := model X.prog X.w) (J3.kIn) LT hb1
    have test : ∀ {Q : Value → Shared → Prop} {E : Value → Shared → Prop}, Q c { s' with heap := h3 } → wpAny (model X.prog X.w) (X.A.mark (some (.ref a))) (eval (.Name x np) X.env) Q E { s' with heap := h3 } := by
      intro Q E q
      obtain ⟨hg, hdbg, hm | ⟨hm, hv, hnn⟩⟩ := hc
      · exact ld_glob (X := X.suite a ((a, oe3) :: (X.pn ++ pins))) S3 hg hm q hdbg
      · exact ld_blt (X := X.suite a ((a, oe3) :: (X.pn ++ pins))) S3 hg hm hv q hnn hdbg
    refine test (LM.here ?_)
    cases b with
    | true =>
      refine codeAny_handlers_suite_as (HandSPX.lands_againZ fl3 fun h4 fl4 up4 => ?_)
      have J4 : Inv X pins σ' H' { s' with heap := h4 } := J.landed nb fl4.1 ((up.trans up3).trans up4) os ag
      obtain ⟨oe4, vs4, he4, hz4, hd4⟩ := fl4.there
      refine store_ok (X := X.suite a ((a, oe4) :: (X.pn ++ pins))) (v := .ref a) (J4.suite he4 hd4 na nL nF) hN hi (.inl hln) rfl (fun s5 S5 => ?_) (.inr hln)
      refine wpAny_mono ((hsu a oe4 (X.pn ++ pins)).run [] s5 _ H' _ S5 (hyes rfl a na)) (fun f s6 hsp => ?_) (fun _ _ z => False.elim z)
      cases f with
      | next =>
        obtain ⟨σ6, H6, S6, q6⟩ := hsp
        have P6 : Inv X ((a, oe4) :: pins) σ6 H6 s6 := (S6.unsuite ok).pins_of fun p hp => by
          rcases List.mem_cons.mp hp with z | z
          · rw [z]
            exact S6.pin (a, oe4) (List.mem_append_left _ List.mem_cons_self)
          · exact S6.pin p (List.mem_append_left _ (List.mem_cons_of_mem _ (List.mem_append_right _ z)))
        exact gone_ok P6 hN hi hln fun s7 J7 => ⟨_, _, track J7 hex n0 hz4 hd4 nP, q6⟩
      | brk =>
        obtain ⟨_, _, _, q6⟩ := hsp
        exact q6.elim
      | cont =>
        obtain ⟨_, _, _, q6⟩ := hsp
        exact q6.elim
      | ret u =>
        obtain ⟨_, _, _, _, _, q6⟩ := hsp
        exact q6.elim
    | false =>
      show wpAny _ X.A (handleBy (.ref a) X.env []) _ _ _
      refine wpAny_handleBy_nil ?_
      obtain ⟨k1, k2, k3, oe, vs, T, oT, ts', he, hz, hd, h1, hr⟩ := id fl3
      unfold PySem.passOn
      refine wpAny_bind (wpAny_field he hd h1 ?_)
      rw [if_neg (show ¬ ((Value.ref T == Value.none) = true) from by simp)]
      have fin : wpAny (model X.prog X.w) X.A (setFlight (.ref a) X.env.frame) (fun _ s4 => wpAny (model X.prog X.w) X.A (throw (.ref a) : Sem Flow) (SP X pins D) X.xe s4) X.xe { s' with heap := h3 } := by
        rw [hf]
        exact HandSPX.setFlight_upZ fl3 fun h4 hh4 up4 => wpAny_throw (tk _ _ ⟨a, B, sI, pins, σ', H', cls, d, rfl, J, nb, (up.trans up3).trans up4, .inr (.inr (by rw [hs]; exact hh4)), na, os, ag, hno rfl⟩)
      first
        | exact wpAny_bind (wpAny_pure (wpAny_bind fin))
        | exact wpAny_bind fin
  · cases f with
    | next =>
      obtain ⟨σ', H', J', q⟩ := hsp
      exact wpAny_execs_nil ⟨σ', H', J'.ofTry ok, q⟩
    | brk =>
      obtain ⟨σ', H', J', q⟩ := hsp
      exact ⟨σ', H', J'.ofTry ok, q⟩
    | cont =>
      obtain ⟨σ', H', J', q⟩ := hsp
      exact ⟨σ', H', J'.ofTry ok, q⟩
    | ret u =>
      obtain ⟨v, σ', H', J', r, q⟩ := hsp
      exact ⟨v, σ', H', J'.ofTry ok, r, q⟩
end
end Xv

set_option Elab.async false
set_option linter.all false
set_option maxRecDepth 100000
set_option maxHeartbeats 4000000
set_option pp.maxSteps 3000
/-! _law_caught: work() is called, its exception is handed back -/
namespace Xv
open PySem PySem.Spec PyProof.Rows L2 LamX
abbrev caughtBody (p1 p2 p3 p4 p5 p6 p7 p8 p9 pa pb pc pd pe : Pos) (j : Nat) : List Stmt := [.Assign [.Name "caught" p1] (.Constant .none j p2) p3,
  .Try [.Expr (.Call (.Name "work" p4) [] [] p5) p6] [.ExceptHandler (some (.Name "SeriesError" p7)) (some "error") [.Assign [.Name "caught" p8] (.Name "error" p9) pa] pb] [] [] pc, .Return (some (.Name "caught" pd)) pe]
/-- what is asked: work() gives whatever, or raises an exception that is caught -/
def TCaught (K : PySem.W.Frag) (CS : Addr) : (XK → Hp → VK → Prop) → Hp → VK → Prop := fun tl H Q =>
  tl (fun cls d H' => PySem.W.exmOne K cls (.ref CS) = some true ∧ ∀ a, H' a = none → Q (.ref a) (upd H' a (ErX cls d a))) H (fun _ H' => ∃ v, some (some V.non) = some (some v) ∧ Q v H')
theorem caught_gives {X : Cx} {sg : Scope} {g CS : Addr} {cdg : Value} {q : Str} {p1 p2 p3 p4 p5 p6 p7 p8 p9 pa pb pc pd pe : Pos} {j : Nat} (Sg : FnScope ["work", "caught", "error"] ["work"] sg) (v0 : sg.names.lookup ("work" : Str) = some NameKind.local) (v1 : sg.names.lookup ("caught" : Str) = some NameKind.local) (v2 : sg.names.lookup ("error" : Str) = some NameKind.local)
    (hge : sg.names.lookup ("SeriesError" : Str) = some NameKind.globalImplicit) (hme : X.mg "SeriesError" = some (.ref CS)) : GivesTo X ["work", "caught", "error"] "_law_caught" sg g cdg (caughtBody p1 p2 p3 p4 p5 p6 p7 p8 p9 pa pb pc pd pe j) "work" q (TCaught X.K CS) := by
  intro f c' s H Q tl act hc h
  have hgl : Gl (cxOf C8.CX0 X.prog X.w X.K X.mg X.base ["work", "caught", "error"] "_law_caught" sg g cdg X.A X.stack s H C8.E0).nox "SeriesError" := hge
  refine ⟨_, pss_cons (ps_set (i := 1) Sg.nd rfl (Or.inl v1) pe_non) (pss_cons (ps_try_keep (X := (cxOf C8.CX0 X.prog X.w X.K X.mg X.base ["work", "caught", "error"] "_law_caught" sg g cdg X.A X.stack s H C8.E0).nox) (c := .ref CS) (i := 2)
      (tb := fun W D σ H => ∃ Ech : XK, (∀ cls d σ' H', Ech cls d H' → W cls d σ' H') ∧ σ[0]? = some (some (.ref f)) ∧ H c' = some (CodeO c' q) ∧ tl Ech H (fun _ H' => D.nx σ H'))
      rfl rfl Sg.nd rfl rfl v2 ⟨hgl, by decide, .inl hme⟩ L2.takes0 (fun W pn xe tk => ?_) (fun a oe pn => pss_one (ps_set (i := 1) Sg.nd rfl (Or.inl v1) (pe_var (i := 2) rfl (Or.inl v2))))) (pss_one (ps_ret (pe_var (i := 1) rfl (Or.inl v1))))), ?_⟩
  · refine ⟨fun pins s' σ H' D I h' => ?_⟩
    obtain ⟨Ech, hW, h1, h2, h3⟩ := h'
    have hp := act W pn xe Ech p4 p5 tk hW
    have hq := pss_one (ps_expr (pos := p6) hp)
    exact hq.run pins s' σ H' D I ⟨h1, h2, h3⟩
  · refine ⟨fun cls d H' => PySem.W.exmOne X.K cls (.ref CS) = some true ∧ ∀ a, H' a = none → Q (.ref a) (upd H' a (ErX cls d a)), fun cls d σ' H' hE => ?_, rfl, hc, ?_⟩
    · obtain ⟨e1, e2⟩ := hE
      intro hl
      match σ', hl with
      | [s0, s1, s2], _ => exact ⟨true, e1, fun _ a ha => ⟨_, rfl, _, rfl, e2 a ha⟩, fun z => nomatch z⟩
    · exact h
/-- a caught exception of the class at C at a, its fields fs, if it has a dict -/
def ErC (H : Hp) (a C : Addr) (fs : Option (List (Str × V))) : Prop := (fs = none ∧ H a = some (ErX (.ref C) none a)) ∨ ∃ d xs, fs = some xs ∧ H a = some (ErX (.ref C) (some d) a) ∧ H d = some (.xd xs)
section
variable {X : Cx} {pins : List (Addr × Obj)} {σ : L2.St} {H : Hp} {s : Shared} {a C : Addr} {fs : Option (List (Str × V))}
theorem erC_same {H H' : Hp} (h : ErC H a C fs) (k : Same H H') : ErC H' a C fs := by
  rcases h with ⟨e, h⟩ | ⟨d, xs, e, h, hd⟩
  · exact .inl ⟨e, k _ _ h⟩
  · exact .inr ⟨d, xs, e, k _ _ h, k _ _ hd⟩
theorem erC_inst (I : Inv X pins σ H s) (h : ErC H a C fs) : ∃ ox od, PySem.W.InstAt s.heap a ox C od := by
  rcases h with ⟨_, h⟩ | ⟨d, xs, _, h, hd⟩
  · have q : ObjOk X.prog X.w H s.heap a (ErX (.ref C) none a) := I.hok a _ h
    obtain ⟨⟨oe, vs, e, z, dt⟩, _⟩ := q
    obtain ⟨oc, od, oda, osl⟩ := oe
    obtain ⟨z1, z2⟩ := z
    dsimp only at z1 z2 dt
    subst z1 z2 dt
    exact ⟨_, none, e, rfl, rfl, trivial⟩
  · have q : ObjOk X.prog X.w H s.heap a (ErX (.ref C) (some d) a) := I.hok a _ h
    obtain ⟨⟨oe, vs, e, z, dt⟩, _⟩ := q
    have hx : ObjOk X.prog X.w H s.heap d (.xd xs) := I.hok d _ hd
    obtain ⟨mA, hns, hr⟩ := hx
    obtain ⟨od, ho, hl⟩ := lookIn_ns hns
    exact ⟨oe, some od, e, z.1, by unfold PySem.W.notCls; rw [dt] <;> rfl, by rw [z.2]; exact ho⟩
/-- isinstance(e, c), e a caught exception -/
def rIsC (K : PySem.W.Frag) : List V → Hp → VK → Prop := fun xs H Q => ∃ (a C : Addr) (fs : Option (List (Str × V))) (c : V) (cv : Value) (b : Bool), xs = [.ref a, c] ∧ ErC H a C fs ∧ ExcC K C ∧ (∀ u, RelV c u → u = cv) ∧ PySem.W.kitOne K (.ref C) cv = some b ∧ Q (.bl b) H
theorem call_isC : CallR X (.builtin "isinstance") (rIsC X.K) := by
  intro pins s σ H xs us Q I r h
  obtain ⟨a, C, fs, c, cv, b, rfl, he, T, hc, hk, q⟩ := h
  obtain ⟨u1, u2, rfl, r1, r2⟩ := vals2 r
  cases (show u1 = Value.ref a from r1)
  have e2 := hc _ r2
  subst e2
  obtain ⟨ox, od, J⟩ := erC_inst I he
  obtain ⟨cd, hcd, _⟩ := PySem.W.any_some T.hd
  exact PySem.W.kia_one (PySem.W.kitx_exc (by rw [hcd]; rfl) T.hg T.hk T.hs T.ha T.hn T.ht T.hm) I.kIn J hk (fun z => nomatch z) fun tk => ⟨.bl b, H, I.tok tk, rfl, q⟩
end
/-- e.f, e a caught exception with fields -/
def tErC (K : PySem.W.Frag) (f : Str) (te : TE) : TE := fun σ H Q => te σ H fun x H1 => ∃ (a C : Addr) (fs : List (Str × V)) (v : V), x = .ref a ∧ ErC H1 a C (some fs) ∧ XfC K C ∧ PySem.W.findIn K (.ref C) f = some none ∧ fs.lookup f = some v ∧ Q v H1
theorem pe_erC {X : Cx} {e : Expr} {te : TE} {pos : Pos} {n : Str} (he : PE X e te) (hb : attributeBase e n X.env (eval e X.env) = eval e X.env := by rfl) : PE X (.Attribute e n pos) (tErC X.K n te) := by
  refine ⟨fun pins s σ H Q I h => attr_of hb (thn (he.run pins s σ H _ I h) fun u s1 hh => ?_)⟩
  obtain ⟨x, H1, I1, rx, a, C, fs, v, rfl, he, T, hno, l, q⟩ := hh
  obtain rfl : u = Value.ref a := rx
  rcases he with ⟨z, _⟩ | ⟨d, xs, z, h, hd⟩
  · cases z
  · cases z
    have qo : ObjOk X.prog X.w H1 s1.heap a (ErX (.ref C) (some d) a) := I1.hok a _ h
    obtain ⟨⟨oe, vs, e, z, dt⟩, _⟩ := qo
    have hx : ObjOk X.prog X.w H1 s1.heap d (.xd fs) := I1.hok d _ hd
    obtain ⟨mA, hns, hr⟩ := hx
    obtain ⟨od, ho, hl⟩ := lookIn_ns hns
    obtain ⟨u, hu, ru⟩ := RelO.some_of (v := v) (o := mA n) (by rw [← l]; exact hr n)
    have J : PySem.W.InstAt s1.heap a oe C (some od) := ⟨e, z.1, by unfold PySem.W.notCls; rw [dt] <;> rfl, by rw [z.2]; exact ho⟩
    exact HandSPX.exc_get I1.kIn J T.ga T.gg T.exC (PySem.W.findObj_own T.hdC hno rfl (by rw [hl, hu])) (handed_of ru) ⟨v, H1, I1.tok _, ru, q⟩
end Xv

set_option Elab.async false
set_option linter.all false
set_option maxRecDepth 100000
set_option maxHeartbeats 4000000
set_option pp.maxSteps 3000
namespace PySem
theorem meets_enumerate_new1 {v : Value} {o : Obj} {H : Heap → Prop} (B : Begins v o H) :
    Meets (Builtin.«enumerate.__new__» ⟨[.type "enumerate", v], []⟩) (fun _ R s => H s.heap ∧
      R (.ok (.ret (.ref (s.heap.push o).objs.size))) { s with heap := (s.heap.push o).push { cls := .type "enumerate", data := .fields #[.none, .bool false, .ref s.heap.objs.size, rawInt 0, .none, .none] } }) :=
  .of_wp fun prog w A R s h => by
    obtain ⟨hp, g, d, tk, os⟩ := s; obtain ⟨h1, h⟩ := h
    have hsub := sub_enumerate
    have q1 : ∀ {A' : Around} {E : Value → Shared → Prop} {Q : Value → Shared → Prop}, Q (.ref hp.objs.size) ⟨hp.push o, g, d, tk, os⟩ → wpAny (model prog w) A' (pyIter v) Q E ⟨hp, g, d, tk, os⟩ :=
      fun q => B.iter prog w _ _ ⟨hp, g, d, tk, os⟩ _ h1 q
    wp_walk using q1
    refine wpAny_stack_any fun st => wpAny_pure ?_
    split
    · rename_i c _ _ _ _ _
      cases (c == Value.type "enumerate")
      · wp_walk using q1
        exact ⟨_, rfl, h⟩
      · wp_walk using q1
        exact ⟨_, rfl, h⟩
    · wp_walk using q1
      exact ⟨_, rfl, h⟩
section
variable {prog : Program} {w : World} {A : Around} {E : Value → Shared → Prop} {s : Shared}
theorem enum_begins1 {v : Value} {o : Obj} {H : Heap → Prop} {Q : Value → Shared → Prop} (B : Begins v o H) (h1 : H s.heap)
    (h : ∀ h', IsEnum h' (s.heap.objs.size + 1) s.heap.objs.size 0 .none → h'.get? s.heap.objs.size = some o → h'.objs.size = s.heap.objs.size + 2 →
      (∀ b o, s.heap.get? b = some o → h'.get? b = some o) → Q (.ref (s.heap.objs.size + 1)) { s with heap := h' }) :
    wpAny (model prog w) A (call (.type "enumerate") [v]) Q E s := by
  refine callType_new F.called_enumerate (by decide) (F.typeCall_enumerate_1 _) (F.newCall_enumerate_1 _) (fun obj => F.args_object_init_2 obj _) F.entry_enumerate_new
    (meets_enumerate_new1 B) ⟨h1, ?_⟩
  have hz : (s.heap.push o).objs.size = s.heap.objs.size + 1 := Heap.size_push ..
  show _ ∧ _
  rw [hz]
  have he : IsEnum ((s.heap.push o).push { cls := .type "enumerate", data := .fields #[.none, .bool false, .ref s.heap.objs.size, rawInt 0, .none, .none] }) (s.heap.objs.size + 1) s.heap.objs.size 0 .none := by
    have := Heap.get?_push_size (s.heap.push o) (o := { cls := .type "enumerate", data := .fields #[.none, .bool false, .ref s.heap.objs.size, rawInt 0, .none, .none] }) rfl
    rw [hz] at this; exact this
  refine ⟨⟨_, he, rfl⟩, h _ he (Heap.get?_push_of_some _ (Heap.get?_push_size _ B.free)) (by rw [Heap.size_push, hz]) fun b o x => Heap.get?_push_of_some _ (Heap.get?_push_of_some _ x)⟩
end
end PySem
namespace Xv
open PySem PySem.Spec PyProof.Rows L2
/-- enumerate of a tuple -/
def IteT (K : PySem.W.Frag) (a : Addr) : It :=
  ⟨fun i H => ∃ (xs : List V) (x : V), SqT K H a xs ∧ xs[i]? = some x, fun i H v H' => ∃ T x, v = .ref T ∧ H T = none ∧ H' = upd H T (.tup [.int (i : Nat), x]) ∧ ∀ xs, SqT K H a xs → xs[i]? = some x, fun i H => ∃ xs : List V, SqT K H a xs ∧ xs.length = i⟩
theorem turn_enumT {P : Program} {w : World} {K : PySem.W.Frag} {elts : List Expr} {kk : Nat} {tpos : Pos} (a e it : Addr) (hat : a ≠ it) :
    Turn P w K (.Tuple elts kk tpos) (IteT K a) [e, it] e (fun i h => (∃ old, IsEnum h e it ((i : Nat) : Int) old) ∧ h.IsTupleIter it a i ∧ e ≠ it ∧ e ≠ a) where
  mem := by simp
  obj := fun i h st b hb => by
    obtain ⟨⟨old, he⟩, ⟨o, ho, hc, hd⟩, _⟩ := st
    have e' : b = e ∨ b = it := by simpa using hb
    rcases e' with z | z
    · rw [z]; exact ⟨_, he, fun v q => nomatch q⟩
    · rw [z]; exact ⟨o, ho, fun v q => by rw [hd] at q; cases q⟩
  keep := fun i h h' st k => let ⟨⟨old, he⟩, hi, hne, hea⟩ := st; ⟨⟨old, k e (by simp) _ he⟩, hi.at fun o q => k it (by simp) o q, hne, hea⟩
  item := by
    intro X hP hw hK hc i pins s σ H E I hf st hg
    subst hP hw hK
    obtain ⟨⟨old, he⟩, hit, hne, hea⟩ := st
    obtain ⟨xs, x, hq, hx⟩ := hg
    obtain ⟨its, rv, p, hz⟩ := I.tuple hq
    obtain ⟨u, hu, ru⟩ := rv.get hx
    have hel : e < s.heap.objs.size := Heap.lt_size he
    have hil : it < s.heap.objs.size := by obtain ⟨_, q, _⟩ := hit; exact Heap.lt_size q
    have hlt : i < its.toArray.size := by
      have := (List.getElem?_eq_some_iff.mp hu).1
      simpa using this
    refine wpAny_pyNext_enum_itemD (Draws.tuple (prog := X.prog) (w := X.w) (A := X.A.in1) (I.ok.hd hc) it a hat its.toArray) he ⟨hit, p⟩ hlt hne (by simp [hne, hea]) fun y h' tk hy ho hst' hT hsz hk => ?_
    obtain ⟨hit', _⟩ := hst'
    have ey : y = u := by
      have e1 : its.toArray[i]? = some u := by simpa using hu
      rw [e1] at hy
      exact (Option.some.inj hy).symm
    subst ey
    refine ⟨_, rfl, wpAny_letOwnedTupleGo_enum (s := { s with heap := h', toks := tk + 1 }) ho fun h'' he' sb => ?_⟩
    have hT2 : h''.get? s.heap.objs.size = some { cls := .type "tuple", data := .seq #[.int i tk, y] } := (sb.2 _ (Nat.ne_of_gt hel)).trans hT
    have new : ObjOk X.prog X.w (upd H s.heap.objs.size (.tup [.int (i : Nat), x])) h'' s.heap.objs.size (.tup [.int (i : Nat), x]) :=
      ⟨by show 2 ≤ sizeLine; decide, [.int i tk, y], .cons ⟨_, rfl⟩ (.cons ru .nil), ⟨_, hT2, rfl, _, rfl⟩⟩
    have I1 : Inv X pins σ (upd H s.heap.objs.size (.tup [.int (i : Nat), x])) { s with heap := h'', toks := tk + 1 } :=
      I.turnedNew (ch := [e, it]) (fun b ob hb q => (sb.2 b (fun z => hb (by simp [z]))).trans (hk b ob (fun z => hb (by simp [z])) (fun z => hb (by simp [z])) q)) hf (Nat.le_refl _) new
    refine ⟨.ref s.heap.objs.size, _, I1, rfl, ⟨_, x, rfl, I.hok.fresh (Nat.le_refl _), rfl, fun ys hy => by rw [I.tuple_inj hy hq]; exact hx⟩, ⟨⟨y, ?_⟩, hit'.at fun o q => (sb.2 it (Ne.symm hne)).trans q, hne, hea⟩, fun b hb => ?_⟩
    · have e1 : ((i + 1 : Nat) : Int) = (i : Int) + 1 := by omega
      rw [e1]; exact he'
    · have hb' : b < s.heap.objs.size := by
        have e' : b = e ∨ b = it := by simpa using hb
        rcases e' with z | z
        · rw [z]; exact hel
        · rw [z]; exact hil
      rw [upd_ne (Nat.ne_of_lt hb')]
      exact (hf b hb).1
  done := by
    intro X hP hw hK hc i pins s σ H E I hf st hg
    subst hP hw hK
    obtain ⟨⟨old, he⟩, hit, hne, hea⟩ := st
    obtain ⟨xs, hq, hx⟩ := hg
    obtain ⟨its, rv, p, hz⟩ := I.tuple hq
    obtain ⟨f0, f1, f2, f3, f4, f5⟩ := hf it (by simp)
    have hl := rv.length
    have en : i = its.toArray.size := by
      rw [List.size_toArray]
      omega
    subst en
    have D := Draws.tuple (prog := X.prog) (w := X.w) (A := X.A.in1) (I.ok.hd hc) it a hat its.toArray
    exact wpAny_pyNext_enum_endD D he ⟨hit, p⟩ fun h' eb => ⟨rfl, I.turned (t' := s.toks) (fun b o hb q => eb b o hb q) f0 f1 f3 f4 f5⟩
  self := fun A i s Q E st h => let ⟨⟨_, he⟩, _⟩ := st; wpAny_pyIter_enum he h
/-- enumerate of a list or a tuple -/
def iEnumT (K : PySem.W.Frag) (ta : TA) : TI := fun σ H R => ta σ H fun vs H1 => ∃ a xs, vs = [.ref a] ∧ ((SqL K H1 a xs ∧ R (Ite K a) H1) ∨ (SqT K H1 a xs ∧ R (IteT K a) H1))
theorem pi_enumT {X : Cx} {e : Expr} {ta : TA} {p pos tpos : Pos} {elts : List Expr} {kk : Nat} (hg : Gl X "enumerate") (hm : X.mg "enumerate" = none) (ha : PA X [e] ta) (hs : starEach [e] X.env = [(false, eval e X.env)] := by rfl) :
    PI X (.Tuple elts kk tpos) (.Call (.Name "enumerate" p) [e] [] pos) (iEnumT X.K ta) := by
  refine ⟨fun pins s σ H R I h => ?_⟩
  refine Call_ (ld_blt I hg hm boot_enumerate (PyProof.Rows.callWith_type1 (thn (ha.run pos pins s σ H _ I h) fun us s1 ⟨vs, H1, I1, r1, q1⟩ => ?_) hs rfl))
  obtain ⟨a, xs, ex, q⟩ := q1
  subst ex
  cases r1 with
  | cons r rr =>
    cases rr
    cases r
    rcases q with ⟨hq, q⟩ | ⟨hq, q⟩
    · obtain ⟨its, rv, p', hz⟩ := I1.list hq
      refine call_enumerate_list p'.isList fun h' he hit hsz hk => wpAny_pyIter_enum he ?_
      have I2 : Inv X pins σ H1 { s1 with heap := h' } := I1.kept (t' := s1.toks) hk
      refine ⟨s1.heap.objs.size + 1, [s1.heap.objs.size + 1, s1.heap.objs.size], _, _, H1, rfl, I2, turn_enum a (s1.heap.objs.size + 1) s1.heap.objs.size, ⟨⟨.none, he⟩, hit, Nat.succ_ne_self _⟩, fun b hb => ?_, q⟩
      have e' : b = s1.heap.objs.size + 1 ∨ b = s1.heap.objs.size := by simpa using hb
      have hle : s1.heap.objs.size ≤ b := by
        rcases e' with z | z
        · rw [z]; exact Nat.le_add_right _ _
        · rw [z]; exact Nat.le_refl _
      exact I1.fpOk hle (I1.hok.fresh hle)
    · obtain ⟨its, rv, p', hz⟩ := I1.tuple hq
      have p2 : s1.heap.IsTuple a its.toArray := p'
      have hal : a < s1.heap.objs.size := by
        obtain ⟨o, ho, _⟩ := p2
        exact Heap.lt_size ho
      refine enum_begins1 (begins_tuple a its.toArray) p2 fun h' he hit hsz hk => wpAny_pyIter_enum he ?_
      have I2 : Inv X pins σ H1 { s1 with heap := h' } := I1.kept (t' := s1.toks) hk
      refine ⟨s1.heap.objs.size + 1, [s1.heap.objs.size + 1, s1.heap.objs.size], _, _, H1, rfl, I2, turn_enumT a (s1.heap.objs.size + 1) s1.heap.objs.size (Nat.ne_of_lt hal),
        ⟨⟨.none, he⟩, ⟨_, hit, rfl, rfl⟩, Nat.succ_ne_self _, Nat.ne_of_gt (Nat.lt_succ_of_lt hal)⟩, fun b hb => ?_, q⟩
      have e' : b = s1.heap.objs.size + 1 ∨ b = s1.heap.objs.size := by simpa using hb
      have hle : s1.heap.objs.size ≤ b := by
        rcases e' with z | z
        · rw [z]; exact Nat.le_add_right _ _
        · rw [z]; exact Nat.le_refl _
      exact I1.fpOk hle (I1.hok.fresh hle)
theorem walk_enumT {K : PySem.W.Frag} {a : Addr} {xs : List V} : Walk (IteT K a) xs.length (fun H => SqT K H a xs) (YPair (fun i => some (.int (i : Nat))) (fun i => xs[i]?)) := by
  refine ⟨fun i _ hi q => ⟨xs, xs[i], q, by simp [hi]⟩, fun _ q => ⟨xs, q, rfl⟩, fun i H v H' _ q y => ?_⟩
  obtain ⟨T, x, h1, h2, h3, h4⟩ := y
  exact ⟨T, .int (i : Nat), x, h1, h2, h3, rfl, h4 xs q⟩
/-- a list or a tuple walked -/
def iSeq (K : PySem.W.Frag) (tl : TE) : TI := fun σ H R => tl σ H fun x H1 => ∃ a, x = .ref a ∧ (((∃ xs, SqL K H1 a xs) ∧ R (Itl K a) H1) ∨ ((∃ xs, SqT K H1 a xs) ∧ R (Itt K a) H1))
theorem pi_seq {X : Cx} {tg l : Expr} {tl : TE} (hl : PE X l tl) : PI X tg l (iSeq X.K tl) := by
  refine ⟨fun pins s σ H R I h => ?_⟩
  refine thn (hl.run pins s σ H _ I h) fun v s1 ⟨x, H1, I1, r1, q1⟩ => ?_
  obtain ⟨a, e, q⟩ := q1
  subst e
  cases r1
  rcases q with ⟨⟨xs, hq⟩, q⟩ | ⟨⟨xs, hq⟩, q⟩
  · obtain ⟨its, rv, p, hz⟩ := I1.list hq
    refine wpAny_pyIter_list p.isList ?_
    refine ⟨s1.heap.objs.size, [s1.heap.objs.size], _, _, H1, rfl, I1.kept (t' := s1.toks) fun b o e => Heap.get?_push_of_some _ e, turn_list a _, ⟨_, Heap.get?_push_size _ rfl, rfl, rfl⟩, fun b hb => ?_, q⟩
    have e : b = s1.heap.objs.size := by simpa using hb
    subst e
    exact I1.fpOk (Nat.le_refl _) (I1.hok.fresh (Nat.le_refl _))
  · obtain ⟨its, rv, p, hz⟩ := I1.tuple hq
    refine wpAny_pyIter_tuple (show s1.heap.IsTuple a its.toArray from p) ?_
    refine ⟨s1.heap.objs.size, [s1.heap.objs.size], _, _, H1, rfl, I1.kept (t' := s1.toks) fun b o e => Heap.get?_push_of_some _ e, turn_tuple a _, ⟨_, Heap.get?_push_size _ rfl, rfl, rfl⟩, fun b hb => ?_, q⟩
    have e : b = s1.heap.objs.size := by simpa using hb
    subst e
    exact I1.fpOk (Nat.le_refl _) (I1.hok.fresh (Nat.le_refl _))
/-! ### f(k = v, ..): keywords alone -/
section
variable {X : Cx} {p pos : Pos} {x : Str} {kws : List Keyword} {tk : TA} {CX : CXT} {k : Nat} {f : Addr} {fd : FuncData} {ps ks : List Str} {sp : Sp} {E : XK} {g : List Value → List Value → List Value} {gV : List V → List V → List V}
theorem pe_callK0 (F : FnOk X.prog X.w X.K X.mg X.base CX k f fd ps sp) (hr : Room k X.A) (hg : Gl X x) (hm : X.mg x = some (.ref f)) (hk : PySem.W.keepIn X.K (.ref f) = true) (hb : KBinds X.K fd ps ks g gV) (hx : Passes CX X E)
    (hkw : PK X kws tk) (hall : (backToKw pos (keywordEach kws X.env)).all (·.1.isSome) = true := by rfl) (hks : (backToKw pos (keywordEach kws X.env)).filterMap (·.1) = ks := by rfl)
    (hdb : (x == ("__debug__" : Str)) = false := by decide)
    (hpl : ((backTo pos (starEach [] X.env)).any (·.1) || (backToKw pos (keywordEach kws X.env)).any (·.1.isNone)) = false := by rfl) :
    PE X (.Call (.Name x p) [] kws pos) (tCallK sp gV E tNil tk) := by
  refine ⟨fun pins s σ H Q I h => ?_⟩
  refine wpAny_Call_Name_kw (ld_glob I hg hm ?_ hdb)
  refine PySem.W.callWith_KW0 (h₀ := X.base) I.ok.mod.kin hk hall (thn (hkw.run pos pins s σ H _ I h) fun ws s2 ⟨zs, H2, I2, rz, q2⟩ => ⟨I2.kIn, ?_⟩) hpl
  rw [hks]
  exact run_fnk (us := []) (vs := []) F hr hb hx I2 .nil rz q2
end
/-! ### xs[t::m] of a list, 0 ≤ t, 0 < m -/
/-- the items at lo, lo + m, .. -/
def stepV (xs : List V) (t m : Nat) : List V := (List.range ((xs.length - t + m - 1) / m)).filterMap fun k => xs[t + m * k]?
def tStepL (K : PySem.W.Frag) (te : TE) (tl ts : TO) : TE := fun σ H Q => te σ H fun x H1 => tl σ H1 fun l H2 => ts σ H2 fun u H3 => ∃ a xs, ∃ t m : Nat, x = .ref a ∧ l = some (t : Int) ∧ u = some (m : Int) ∧ 0 < m ∧ t ≤ xs.length ∧ SqL K H3 a xs ∧ ∀ p, H3 p = none → Q (.ref p) (upd H3 p (.lst (stepV xs t m)))
theorem pick_step {its : List Value} {t m : Nat} (hm : 0 < m) (ht : t ≤ its.length) : slicePick its.toArray (some (t : Int)) none (some (m : Int)) = ((List.range ((its.length - t + m - 1) / m)).filterMap fun k => its[t + m * k]?).toArray := by
  have hm' : (m : Int) > 0 := by omega
  have hm2 : ¬ ((t : Int) < 0) := by omega
  have e1 : max 0 (min (t : Int) (its.length : Int)) = (t : Int) := by omega
  unfold slicePick sliceBounds
  simp only [Option.getD_some, List.size_toArray, hm', if_true, hm2, if_false, e1]
  unfold sliceRange
  simp only [hm', if_true]
  congr 1
  have e2 : (if (t : Int) < (its.length : Int) then ((its.length : Int) - t + m - 1) / m else 0).toNat = (its.length - t + m - 1) / m := by
    by_cases h : (t : Int) < (its.length : Int)
    · rw [if_pos h]
      have e3 : ((its.length : Int) - t + m - 1) = ((its.length - t + m - 1 : Nat) : Int) := by omega
      rw [e3]
      rw [← Int.natCast_ediv]
      exact Int.toNat_natCast _
    · rw [if_neg h]
      have e3 : its.length - t + m - 1 = m - 1 := by omega
      rw [e3, Nat.div_eq_of_lt (by omega)]
      rfl
  rw [e2, List.filterMap_map]
  congr 1
  funext k
  have e4 : ((t : Int) + (m : Int) * (k : Int)).toNat = t + m * k := by
    rw [← Int.natCast_mul]
    omega
  show its.toArray[((t : Int) + (m : Int) * (k : Int)).toNat]? = _
  rw [e4]
  simp
theorem stepV_vals {xs : List V} {its : List Value} (r : Vals xs its) (t m : Nat) : ∀ n : Nat, Vals ((List.range n).filterMap fun k => xs[t + m * k]?) ((List.range n).filterMap fun k => its[t + m * k]?)
  | 0 => .nil
  | n + 1 => by
    rw [List.range_succ, List.filterMap_append, List.filterMap_append]
    refine (stepV_vals r t m n).append ?_
    show Vals (List.filterMap _ [n]) (List.filterMap _ [n])
    rw [List.filterMap_cons, List.filterMap_cons]
    cases e : xs[t + m * n]? with
    | none =>
      have e2 : its[t + m * n]? = none := by
        have hl := r.length
        rw [List.getElem?_eq_none_iff] at e ⊢
        omega
      rw [e2]
      exact .nil
    | some v =>
      obtain ⟨u, hu, ru⟩ := r.get e
      rw [hu]
      exact .cons ru .nil
theorem filterMap_range_le {f : Nat → Option V} : ∀ n : Nat, ((List.range n).filterMap f).length ≤ n
  | 0 => Nat.le_refl _
  | n + 1 => by
    rw [List.range_succ, List.filterMap_append, List.length_append]
    have h1 := filterMap_range_le (f := f) n
    have h2 : ([n].filterMap f).length ≤ 1 := by
      rw [List.filterMap_cons]
      cases f n <;> simp
    omega
theorem stepV_length {xs : List V} {t m : Nat} (hm : 0 < m) (ht : t ≤ xs.length) : (stepV xs t m).length ≤ xs.length := by
  refine Nat.le_trans (filterMap_range_le _) ?_
  refine Nat.le_trans (m := xs.length - t) ?_ (Nat.sub_le _ _)
  by_cases h : xs.length - t = 0
  · rw [h, Nat.div_eq_of_lt (by omega)]
    exact Nat.le_refl _
  · refine Nat.div_le_of_le_mul ?_
    generalize xs.length - t = d at *
    have h1 : 0 ≤ (d - 1) * (m - 1) := Nat.zero_le _
    obtain ⟨d', rfl⟩ : ∃ d', d = d' + 1 := ⟨d - 1, by omega⟩
    obtain ⟨m', rfl⟩ : ∃ m', m = m' + 1 := ⟨m - 1, by omega⟩
    have e : (m' + 1) * (d' + 1) = m' * d' + m' + d' + 1 := by
      rw [Nat.add_mul, Nat.mul_add]
      omega
    rw [e]
    omega
theorem pe_stepL {X : Cx} {e lo st : Expr} {te : TE} {tl ts : TO} {p3 pos : Pos} (he : PE X e te) (hl : PO X (some lo) tl) (hst : PO X (some st) ts) : PE X (.Subscript e (.Slice (some lo) none (some st) p3) pos) (tStepL X.K te tl ts) := by
  refine ⟨fun pins s σ H Q I h => ?_⟩
  refine Subscript_ (thn (he.run pins s σ H _ I h) fun v s1 ⟨x, H1, I1, r1, q1⟩ => ?_)
  refine wpAny_Slice (thn (hl.run pins s1 σ H1 _ I1 q1) fun vl s2 ⟨l, H2, I2, pl, q2⟩ => ?_)
  refine thn (po_none.run pins s2 σ H2 (fun o H3 => o = none ∧ H3 = H2) I2 ⟨rfl, rfl⟩) fun vu s3 ⟨u, H3, I3, pu, eu, e3⟩ => ?_
  subst eu e3
  refine thn (hst.run pins s3 σ H3 _ I3 q2) fun vs s4 ⟨o, H4, I4, ps, q4⟩ => ?_
  obtain ⟨a, xs, t, m, rfl, rfl, rfl, hm, ht, hx, q⟩ := q4
  cases r1
  have I5 : Inv X pins σ H4 { s4 with heap := s4.heap.push { cls := .type "slice", data := .fields #[vl, vu, vs] } } := I4.kept (t' := s4.toks) fun b ob q => Heap.get?_push_of_some _ q
  obtain ⟨its, r, hT, hz⟩ := I5.list hx
  have hlen := r.length
  show wpAny (model X.prog X.w) X.A (subscriptTail e (.Slice (some lo) none (some st) p3) (.ref a) (.ref s4.heap.objs.size)) (EP X pins σ Q) X.xe { s4 with heap := s4.heap.push { cls := .type "slice", data := .fields #[vl, vu, vs] } }
  refine tail_any (ops := [.ref a, .ref s4.heap.objs.size]) hT.isList.typeIs (PySem.slot_list_getitem.lookup) ?_ (by with_unfolding_all rfl)
  refine wpAny_getItem_list_slice hT.isList (Heap.IsSliceOf.new _ vl vu vs) pl pu ps (by
    intro z
    have z2 := Option.some.inj z
    omega) ?_ (by rw [List.size_toArray]; omega)
  rw [pick_step hm (by omega)]
  refine ⟨.ref _, _, I5.laid (t' := s4.toks) (o := .lst (stepV xs t m)) (fun b ob q => Heap.get?_push_of_some _ q) (Nat.le_refl _) ?_, rfl, q _ (I5.hok.fresh (Nat.le_refl _))⟩
  refine ⟨Nat.le_trans (stepV_length hm ht) hz, _, 0, ?_, Heap.get?_push_size _ rfl⟩
  rw [← hlen]
  exact stepV_vals r t m _
end Xv

set_option Elab.async false
set_option linter.all false
set_option maxRecDepth 100000
set_option maxHeartbeats 4000000
set_option pp.maxSteps 3000
namespace Xv
open PySem PySem.Spec PyProof.Rows L2
/-! ### xs[i] of a list, for xs[i] += e -/
def rGetL (K : PySem.W.Frag) : V → V → Hp → VK → Prop := fun x y H Q => ∃ p xs i v, x = .ref p ∧ y = .int i ∧ SqL K H p xs ∧ atI xs i = some v ∧ Q v H
theorem get_list {X : Cx} : PGet X (rGetL X.K) := by
  intro pins s σ H x y v u Q I rx ry h
  obtain ⟨p, xs, i, z, rfl, rfl, hq, he, q⟩ := h
  cases rx
  obtain ⟨t, rfl⟩ := ry
  obtain ⟨its, r, pl, hz⟩ := I.list hq
  obtain ⟨j, h1, h2, h3, h4, h5⟩ := atI_get he
  obtain ⟨w, ew, rw'⟩ := r.get h2
  have hl := r.length
  have hn := line63
  have fin : EP X pins σ Q w s := ⟨z, H, I, rw', q⟩
  by_cases h0 : 0 ≤ i
  · have hj : i.toNat = j := by
      rw [seqIndex_of h0 h5] at h1
      exact Option.some.inj h1
    exact wpAny_getItem_list pl.isList h0 (by omega) (by rw [hj]; simpa using ew) fin
  · have hj : (i + (its.toArray.size : Int)).toNat = j := by
      rw [seqIndex_neg (by omega) h4] at h1
      rw [List.size_toArray, ← hl]
      exact Option.some.inj h1
    exact wpAny_getItem_list_neg pl.isList (by omega) (by rw [List.size_toArray] <;> omega) (by omega) (by rw [hj]; simpa using ew) fin
/-! ### xs[lo:hi:-1] of a list, hi ≤ lo < len(xs) -/
def downV (xs : List V) (lo hi : Nat) : List V := (List.range (lo - hi)).filterMap fun k => xs[lo - k]?
def tDownL (K : PySem.W.Frag) (te : TE) (tl tu ts : TO) : TE := fun σ H Q => te σ H fun x H1 => tl σ H1 fun l H2 => tu σ H2 fun u H3 => ts σ H3 fun st H4 => ∃ a xs, ∃ lo hi : Nat, x = .ref a ∧ l = some (lo : Int) ∧ u = some (hi : Int) ∧ st = some (-1) ∧ hi ≤ lo ∧ lo < xs.length ∧ SqL K H4 a xs ∧ ∀ p, H4 p = none → Q (.ref p) (upd H4 p (.lst (downV xs lo hi)))
theorem filterMap_eq {α β : Type} {f g : α → Option β} : ∀ {l : List α}, (∀ x ∈ l, f x = g x) → l.filterMap f = l.filterMap g
  | [], _ => rfl
  | x :: r, h => by
    rw [List.filterMap_cons, List.filterMap_cons, h x (List.mem_cons_self ..), filterMap_eq fun y hy => h y (List.mem_cons_of_mem _ hy)]
theorem pick_down {its : List Value} {lo hi : Nat} (h1 : hi ≤ lo) (h2 : lo < its.length) : slicePick its.toArray (some (lo : Int)) (some (hi : Int)) (some (-1)) = ((List.range (lo - hi)).filterMap fun k => its[lo - k]?).toArray := by
  unfold slicePick sliceBounds
  have c1 : ¬ ((-1 : Int) > 0) := by decide
  have c2 : ¬ ((lo : Int) < 0) := by omega
  have c3 : ¬ ((hi : Int) < 0) := by omega
  have e1 : max (-1) (min (lo : Int) ((its.length : Int) - 1)) = (lo : Int) := by omega
  have e2 : max (-1) (min (hi : Int) ((its.length : Int) - 1)) = (hi : Int) := by omega
  simp only [Option.getD_some, List.size_toArray, c1, if_false, c2, c3, e1, e2]
  unfold sliceRange
  simp only [c1, if_false]
  have e3 : (if (lo : Int) > (hi : Int) then ((lo : Int) - hi - -1 - 1) / (- -1) else 0).toNat = lo - hi := by
    have e4 : (- -1 : Int) = 1 := by decide
    rw [e4, Int.ediv_one]
    split <;> omega
  rw [e3, List.filterMap_map]
  congr 1
  refine filterMap_eq fun k hk => ?_
  have hk := List.mem_range.mp hk
  have e4 : ((lo : Int) + -1 * (k : Int)).toNat = lo - k := by omega
  show its.toArray[((lo : Int) + -1 * (k : Int)).toNat]? = _
  rw [e4]
  simp
theorem downV_vals {xs : List V} {its : List Value} (r : Vals xs its) (lo : Nat) : ∀ n : Nat, Vals ((List.range n).filterMap fun k => xs[lo - k]?) ((List.range n).filterMap fun k => its[lo - k]?)
  | 0 => .nil
  | n + 1 => by
    rw [List.range_succ, List.filterMap_append, List.filterMap_append]
    refine (downV_vals r lo n).append ?_
    show Vals (List.filterMap _ [n]) (List.filterMap _ [n])
    rw [List.filterMap_cons, List.filterMap_cons]
    cases e : xs[lo - n]? with
    | none =>
      have e2 : its[lo - n]? = none := by
        have hl := r.length
        rw [List.getElem?_eq_none_iff] at e ⊢
        omega
      rw [e2]
      exact .nil
    | some v =>
      obtain ⟨u, hu, ru⟩ := r.get e
      rw [hu]
      exact .cons ru .nil
theorem filterMap_range_len {f : Nat → Option V} : ∀ n : Nat, ((List.range n).filterMap f).length ≤ n
  | 0 => Nat.le_refl _
  | n + 1 => by
    rw [List.range_succ, List.filterMap_append, List.length_append]
    have h1 := filterMap_range_len (f := f) n
    have h2 : ([n].filterMap f).length ≤ 1 := by
      rw [List.filterMap_cons]
      cases f n <;> simp
    omega
theorem pe_stepDown {X : Cx} {e lo hi st : Expr} {te : TE} {tl tu ts : TO} {p3 pos : Pos} (he : PE X e te) (hl : PO X (some lo) tl) (hu : PO X (some hi) tu) (hst : PO X (some st) ts) : PE X (.Subscript e (.Slice (some lo) (some hi) (some st) p3) pos) (tDownL X.K te tl tu ts) := by
  refine ⟨fun pins s σ H Q I h => ?_⟩
  refine Subscript_ (thn (he.run pins s σ H _ I h) fun v s1 ⟨x, H1, I1, r1, q1⟩ => ?_)
  refine wpAny_Slice (thn (hl.run pins s1 σ H1 _ I1 q1) fun vl s2 ⟨l, H2, I2, pl, q2⟩ => ?_)
  refine thn (hu.run pins s2 σ H2 _ I2 q2) fun vu s3 ⟨u, H3, I3, pu, q3⟩ => ?_
  refine thn (hst.run pins s3 σ H3 _ I3 q3) fun vs s4 ⟨o, H4, I4, ps, q4⟩ => ?_
  obtain ⟨a, xs, lo, hi, rfl, rfl, rfl, rfl, h1, h2, hx, q⟩ := q4
  cases r1
  have I5 : Inv X pins σ H4 { s4 with heap := s4.heap.push { cls := .type "slice", data := .fields #[vl, vu, vs] } } := I4.kept (t' := s4.toks) fun b ob q => Heap.get?_push_of_some _ q
  obtain ⟨its, r, hT, hz⟩ := I5.list hx
  have hlen := r.length
  refine tail_any (ops := [.ref a, .ref s4.heap.objs.size]) hT.isList.typeIs (PySem.slot_list_getitem.lookup) ?_ (by with_unfolding_all rfl)
  refine wpAny_getItem_list_slice hT.isList (Heap.IsSliceOf.new _ vl vu vs) pl pu ps (by decide) ?_ (by rw [List.size_toArray]; omega)
  rw [pick_down h1 (by omega)]
  refine ⟨.ref _, _, I5.laid (t' := s4.toks) (o := .lst (downV xs lo hi)) (fun b ob q => Heap.get?_push_of_some _ q) (Nat.le_refl _) ?_, rfl, q _ (I5.hok.fresh (Nat.le_refl _))⟩
  refine ⟨Nat.le_trans (filterMap_range_len _) (by omega), _, 0, ?_, Heap.get?_push_size _ rfl⟩
  exact downV_vals r lo _
/-! ### enumerate(v, start=c) of a list or a tuple -/
section
variable {M : Model} {A : Around} {E : Value → Shared → Prop} {s : Shared} {env : Env}
theorem callWith_type_kwB {pos : Pos} {id : String} {first : List Value} {args : List (Bool × Sem Value)} {keywords : List (Option Str × Sem Value)} {Q : Value → Shared → Prop}
    (hplain : args.any (·.1) = false) (hkw : keywords.any (·.1.isNone) = false)
    (h : wpAny M A (evalArgs (.type id) true args keywords) (fun a s₁ => wpAny M A (call (.type id) (first ++ a.pos) a.kw) Q E s₁) E s) :
    wpAny M A (callWith pos (.type id) first args keywords) Q E s := by
  unfold callWith
  refine wpAny_bind (wpAny_holding (wpAny_mono h (fun a s₁ h₁ => wpAny_bind (wpAny_standAt ?_)) fun _ _ x => x))
  simp only [hplain, hkw, Bool.or_false]
  refine wpAny_bind (wpAny_pure ?_)
  exact wpAny_bind (wpAny_mono h₁ (fun r s₂ hr => wpAny_bind (wpAny_holding (wpAny_point (wpAny_pure hr)))) fun _ _ x => x)
theorem callWith_kwT {pos : Pos} {id : String} {e : Expr} {rest : List Expr} {kws : List Keyword} {Q : Value → Shared → Prop}
    (h : wpAny M A (spliced (backTo pos (starEach (e :: rest) env))) (fun vs s₁ => wpAny M A (evalAll ((backToKw pos (keywordEach kws env)).map (·.2)))
      (fun kvs s₂ => wpAny M A (call (.type id) vs (((backToKw pos (keywordEach kws env)).filterMap (·.1)).zip kvs)) Q E s₂) E s₁) E s)
    (he : backTo pos (starEach (e :: rest) env) = (false, eval e env) :: backTo pos (starEach rest env) := by rfl)
    (hplain : (backTo pos (starEach (e :: rest) env)).any (·.1) = false := by rfl)
    (hall : (backToKw pos (keywordEach kws env)).all (·.1.isSome) = true := by rfl)
    (hkw : (backToKw pos (keywordEach kws env)).any (·.1.isNone) = false := by rfl) :
    wpAny M A (callWith pos (.type id) [] (backTo pos (starEach (e :: rest) env)) (backToKw pos (keywordEach kws env))) Q E s := by
  refine callWith_type_kwB hplain hkw ?_
  rw [he] at h ⊢
  exact evalArgs_kwB hall h
end
/-- the items with their counts from c, each in a new pair -/
def IteS (K : PySem.W.Frag) (c : Int) (a : Addr) (tup : Bool) : It :=
  ⟨fun i H => ∃ (xs : List V) (x : V), (if tup then SqT K H a xs else SqL K H a xs) ∧ xs[i]? = some x, fun i H v H' => ∃ T x, v = .ref T ∧ H T = none ∧ H' = upd H T (.tup [.int (c + (i : Nat)), x]) ∧ ∀ xs, (if tup then SqT K H a xs else SqL K H a xs) → xs[i]? = some x, fun i H => ∃ xs : List V, (if tup then SqT K H a xs else SqL K H a xs) ∧ xs.length = i⟩
def StS (c : Int) (tup : Bool) (a e it : Addr) (i : Nat) (h : Heap) : Prop := (∃ old, IsEnum h e it (c + (i : Int)) old) ∧ (if tup then h.IsTupleIter it a i else h.IsListIter it a i) ∧ e ≠ it ∧ e ≠ a
theorem sq_vals {X : Cx} {pins : List (Addr × Obj)} {σ : L2.St} {H : Hp} {s : Shared} {a : Addr} {xs : List V} {tup : Bool} (I : Inv X pins σ H s) (h : if tup then SqT X.K H a xs else SqL X.K H a xs) :
    ∃ its : List Value, Vals xs its ∧ (if tup then s.heap.IsTuple a its.toArray else s.heap.IsList a its.toArray) := by
  cases tup with
  | true =>
    obtain ⟨its, rv, p, hz⟩ := I.tuple h
    exact ⟨its, rv, p⟩
  | false =>
    obtain ⟨its, rv, p, hz⟩ := I.list h
    exact ⟨its, rv, p.isList⟩
theorem draws_sq {prog : Program} {w : World} {A : Around} (hh : A.handled = none) (it a : Addr) (hne : a ≠ it) (items : Array Value) (tup : Bool) :
    Draws prog w A it [it, a] items.size (fun i v => items[i]? = some v) (fun i h => (if tup then h.IsTupleIter it a i else h.IsListIter it a i) ∧ (if tup then h.IsTuple a items else h.IsList a items)) := by
  cases tup with
  | true => exact Draws.tuple hh it a hne items
  | false => exact Draws.list hh it a hne items
theorem turn_enumS {P : Program} {w : World} {K : PySem.W.Frag} {elts : List Expr} {kk : Nat} {tpos : Pos} (c : Int) (tup : Bool) (a e it : Addr) (hat : a ≠ it) :
    Turn P w K (.Tuple elts kk tpos) (IteS K c a tup) [e, it] e (StS c tup a e it) where
  mem := by simp
  obj := fun i h st b hb => by
    obtain ⟨⟨old, he⟩, hit, _⟩ := st
    have e' : b = e ∨ b = it := by simpa using hb
    rcases e' with z | z
    · rw [z]; exact ⟨_, he, fun v q => nomatch q⟩
    · rw [z]
      cases tup with
      | true =>
        obtain ⟨o, ho, hc, hd⟩ := hit
        exact ⟨o, ho, fun v q => by rw [hd] at q; cases q⟩
      | false =>
        obtain ⟨o, ho, hc, hd⟩ := hit
        exact ⟨o, ho, fun v q => by rw [hd] at q; cases q⟩
  keep := fun i h h' st k => by
    obtain ⟨⟨old, he⟩, hi, hne, hea⟩ := st
    refine ⟨⟨old, k e (by simp) _ he⟩, ?_, hne, hea⟩
    cases tup with
    | true => exact hi.at fun o q => k it (by simp) o q
    | false => exact hi.at fun o q => k it (by simp) o q
  item := by
    intro X hP hw hK hc i pins s σ H E I hf st hg
    subst hP hw hK
    obtain ⟨⟨old, he⟩, hit, hne, hea⟩ := st
    obtain ⟨xs, x, hq, hx⟩ := hg
    obtain ⟨its, rv, p⟩ := sq_vals I hq
    obtain ⟨u, hu, ru⟩ := rv.get hx
    have hel : e < s.heap.objs.size := Heap.lt_size he
    have hil : it < s.heap.objs.size := by
      cases tup with
      | true => obtain ⟨_, q, _⟩ := hit; exact Heap.lt_size q
      | false => obtain ⟨_, q, _⟩ := hit; exact Heap.lt_size q
    have hlt : i < its.toArray.size := by
      have := (List.getElem?_eq_some_iff.mp hu).1
      simpa using this
    refine wpAny_pyNext_enum_itemC (draws_sq (prog := X.prog) (w := X.w) (A := X.A.in1) (I.ok.hd hc) it a hat its.toArray tup) he ⟨hit, p⟩ hlt hne (by simp [hne, hea]) fun y h' tk hy ho hst' hT hsz hk => ?_
    obtain ⟨hit', _⟩ := hst'
    have ey : y = u := by
      have e1 : its.toArray[i]? = some u := by simpa using hu
      rw [e1] at hy
      exact (Option.some.inj hy).symm
    subst ey
    refine ⟨_, rfl, wpAny_letOwnedTupleGo_enum (s := { s with heap := h', toks := tk + 1 }) ho fun h'' he' sb => ?_⟩
    have hT2 : h''.get? s.heap.objs.size = some { cls := .type "tuple", data := .seq #[.int (c + i) tk, y] } := (sb.2 _ (Nat.ne_of_gt hel)).trans hT
    have new : ObjOk X.prog X.w (upd H s.heap.objs.size (.tup [.int (c + (i : Nat)), x])) h'' s.heap.objs.size (.tup [.int (c + (i : Nat)), x]) :=
      ⟨by show 2 ≤ sizeLine; decide, [.int (c + i) tk, y], .cons ⟨_, rfl⟩ (.cons ru .nil), ⟨_, hT2, rfl, _, rfl⟩⟩
    have I1 : Inv X pins σ (upd H s.heap.objs.size (.tup [.int (c + (i : Nat)), x])) { s with heap := h'', toks := tk + 1 } :=
      I.turnedNew (ch := [e, it]) (fun b ob hb q => (sb.2 b (fun z => hb (by simp [z]))).trans (hk b ob (fun z => hb (by simp [z])) (fun z => hb (by simp [z])) q)) hf (Nat.le_refl _) new
    refine ⟨.ref s.heap.objs.size, _, I1, rfl, ⟨_, x, rfl, I.hok.fresh (Nat.le_refl _), rfl, fun ys hy => ?_⟩, ⟨⟨y, ?_⟩, ?_, hne, hea⟩, fun b hb => ?_⟩
    · cases tup with
      | true => rw [I.tuple_inj hy hq]; exact hx
      | false => rw [I.list_inj hy hq]; exact hx
    · have e1 : c + ((i + 1 : Nat) : Int) = c + (i : Int) + 1 := by omega
      rw [e1]; exact he'
    · cases tup with
      | true => exact hit'.at fun o q => (sb.2 it (Ne.symm hne)).trans q
      | false => exact hit'.at fun o q => (sb.2 it (Ne.symm hne)).trans q
    · have hb' : b < s.heap.objs.size := by
        have e' : b = e ∨ b = it := by simpa using hb
        rcases e' with z | z
        · rw [z]; exact hel
        · rw [z]; exact hil
      rw [upd_ne (Nat.ne_of_lt hb')]
      exact (hf b hb).1
  done := by
    intro X hP hw hK hc i pins s σ H E I hf st hg
    subst hP hw hK
    obtain ⟨⟨old, he⟩, hit, hne, hea⟩ := st
    obtain ⟨xs, hq, hx⟩ := hg
    obtain ⟨its, rv, p⟩ := sq_vals I hq
    obtain ⟨f0, f1, f2, f3, f4, f5⟩ := hf it (by simp)
    have hl := rv.length
    have en : i = its.toArray.size := by
      rw [List.size_toArray]
      omega
    subst en
    exact wpAny_pyNext_enum_endD (draws_sq (prog := X.prog) (w := X.w) (A := X.A.in1) (I.ok.hd hc) it a hat its.toArray tup) he ⟨hit, p⟩ fun h' eb => ⟨rfl, I.turned (t' := s.toks) (fun b o hb q => eb b o hb q) f0 f1 f3 f4 f5⟩
  self := fun A i s Q E st h => let ⟨⟨_, he⟩, _⟩ := st; wpAny_pyIter_enum he h
def iEnumS (K : PySem.W.Frag) (ta : TA) (tk : TA) : TI := fun σ H R => ta σ H fun vs H1 => tk σ H1 fun zs H2 => ∃ (a : Addr) (xs : List V) (c : Int) (tup : Bool), vs = [.ref a] ∧ zs = [.int c] ∧ -(2 ^ 63) ≤ c ∧ c < 2 ^ 63 ∧ (if tup then SqT K H2 a xs else SqL K H2 a xs) ∧ R (IteS K c a tup) H2
theorem pi_enumK {X : Cx} {e : Expr} {ta tk : TA} {p pos tpos : Pos} {kws : List Keyword} {elts : List Expr} {kk : Nat} (hg : Gl X "enumerate") (hm : X.mg "enumerate" = none) (ha : PA X [e] ta) (hk : PK X kws tk)
    (he : backTo pos (starEach [e] X.env) = (false, eval e X.env) :: backTo pos (starEach [] X.env) := by rfl) (hpl : (backTo pos (starEach [e] X.env)).any (·.1) = false := by rfl)
    (hall : (backToKw pos (keywordEach kws X.env)).all (·.1.isSome) = true := by rfl) (hnone : (backToKw pos (keywordEach kws X.env)).any (·.1.isNone) = false := by rfl) (hks : (backToKw pos (keywordEach kws X.env)).filterMap (·.1) = [Str.ofString "start"] := by rfl) :
    PI X (.Tuple elts kk tpos) (.Call (.Name "enumerate" p) [e] kws pos) (iEnumS X.K ta tk) := by
  refine ⟨fun pins s σ H R I h => ?_⟩
  refine wpAny_Call_Name_kw (ld_blt I hg hm boot_enumerate ?_)
  refine callWith_kwT (thn (ha.run pos pins s σ H _ I h) fun us s0 ⟨vs, H0, I0, r1, q1⟩ => thn (hk.run pos pins s0 σ H0 _ I0 q1) fun ws s1 ⟨zs, H1, I1, r2, q2⟩ => ?_) he hpl hall hnone
  rw [hks]
  obtain ⟨a, xs, c, tup, ex, ez, c0, c1, hq, q⟩ := q2
  subst ex ez
  cases r1 with
  | cons r rr =>
    cases rr
    cases r
    cases r2 with
    | cons r rr =>
      cases rr
      obtain ⟨t, rfl⟩ := r
      show wpAny (model X.prog X.w) X.A (call (.type "enumerate") [.ref a] [(Str.ofString "start", .int c t)]) _ X.xe s1
      have main : ∀ (tup : Bool) (its : List Value), (if tup then s1.heap.IsTuple a its.toArray else s1.heap.IsList a its.toArray) → R (IteS X.K c a tup) H1 →
          wpAny (model X.prog X.w) X.A (call (.type "enumerate") [.ref a] [(Str.ofString "start", .int c t)]) (fun v s1 => wpAny (model X.prog X.w) X.A (pyIter v) (PIE X pins σ (.Tuple elts kk tpos) R) X.xe s1) X.xe s1 := by
        intro tup its p2 q
        have hal : a < s1.heap.objs.size := by
          cases tup with
          | true => obtain ⟨o, ho, _⟩ := p2; exact Heap.lt_size ho
          | false => obtain ⟨o, ho, _⟩ := p2; exact Heap.lt_size ho
        have fin : ∀ (h' : Heap), IsEnum h' (s1.heap.objs.size + 1) s1.heap.objs.size c .none → (if tup then h'.IsTupleIter s1.heap.objs.size a 0 else h'.IsListIter s1.heap.objs.size a 0) → (∀ b o, s1.heap.get? b = some o → h'.get? b = some o) →
            wpAny (model X.prog X.w) X.A (pyIter (.ref (s1.heap.objs.size + 1))) (PIE X pins σ (.Tuple elts kk tpos) R) X.xe { s1 with heap := h' } := by
          intro h' he hit hk
          refine wpAny_pyIter_enum he ?_
          have I2 : Inv X pins σ H1 { s1 with heap := h' } := I1.kept (t' := s1.toks) hk
          refine ⟨s1.heap.objs.size + 1, [s1.heap.objs.size + 1, s1.heap.objs.size], _, _, H1, rfl, I2, turn_enumS c tup a (s1.heap.objs.size + 1) s1.heap.objs.size (Nat.ne_of_lt hal),
            ⟨⟨.none, by have e0 : c + ((0 : Nat) : Int) = c := by omega
                        rw [e0]; exact he⟩, hit, Nat.succ_ne_self _, Nat.ne_of_gt (Nat.lt_succ_of_lt hal)⟩, fun b hb => ?_, q⟩
          have e' : b = s1.heap.objs.size + 1 ∨ b = s1.heap.objs.size := by simpa using hb
          have hle : s1.heap.objs.size ≤ b := by
            rcases e' with z | z
            · rw [z]; exact Nat.le_add_right _ _
            · rw [z]; exact Nat.le_refl _
          exact I1.fpOk hle (I1.hok.fresh hle)
        cases tup with
        | true => exact enum_begins_start (begins_tuple a its.toArray) p2 c0 c1 fun h' he hit hsz hk => fin h' he ⟨_, hit, rfl, rfl⟩ hk
        | false => exact enum_begins_start (begins_list a its.toArray) p2 c0 c1 fun h' he hit hsz hk => fin h' he ⟨_, hit, rfl, rfl⟩ hk
      obtain ⟨its, rv, p'⟩ := sq_vals I1 hq
      exact main tup its p' q
theorem walk_enumS {K : PySem.W.Frag} {c : Int} {tup : Bool} {a : Addr} {xs : List V} : Walk (IteS K c a tup) xs.length (fun H => if tup then SqT K H a xs else SqL K H a xs) (YPair (fun i => some (.int (c + (i : Nat)))) (fun i => xs[i]?)) := by
  refine ⟨fun i _ hi q => ⟨xs, xs[i], q, by simp [hi]⟩, fun _ q => ⟨xs, q, rfl⟩, fun i H v H' _ q y => ?_⟩
  obtain ⟨T, x, h1, h2, h3, h4⟩ := y
  exact ⟨T, .int (c + (i : Nat)), x, h1, h2, h3, rfl, h4 xs q⟩
end Xv

set_option Elab.async false
set_option linter.all false
set_option maxRecDepth 100000
set_option maxHeartbeats 0
namespace Xv
open PySem PySem.Spec PyProof.Rows L2
/-! the classes' facts, asked of the written part -/
def veT : List Value := [.type "ValueError", .type "Exception", .type "BaseException", .type "object"]
def oexB (K : PySem.W.Frag) (C : Addr) : Bool := match K.lookup C with
  | some ⟨.type "type", _, .cls cd, sl⟩ => (match cd.mro, sl.toList with
    | .ref C' :: bm, [_, _, _, _, some (.builtin n), _] => decide (C' = C) && (decide (n = "ValueError.__new__") && (!cd.hasDel && (PySem.HandSPX.refsVE bm && cd.hasDict)))
    | _, _ => false)
  | _ => false
theorem oexB_ok {K : PySem.W.Frag} {C : Addr} (h : oexB K C = true) : ∃ nm q N bs bm sn sub ab col dd k0 k1 k2 k3 k5, K.lookup C = some (excClassObj nm q C N bs bm true sn sub ab col dd k0 k1 k2 k3 k5 "ValueError.__new__") ∧ PySem.HandSPX.refsVE bm = true := by
  unfold oexB at h
  split at h
  · rename_i dx cd sl ho
    split at h
    · rename_i C' bm k0 k1 k2 k3 n k5 hm hs
      simp only [Bool.and_eq_true, decide_eq_true_eq, Bool.not_eq_true'] at h
      obtain ⟨rfl, rfl, hd, hr, hh⟩ := h
      obtain ⟨nm, bs, mro, ns, qn, hdc, sn, sub, ab, col, del⟩ := cd
      dsimp only at hm hd hh
      subst hm hd hh
      obtain ⟨l⟩ := sl
      have hs' : l = [k0, k1, k2, k3, some (.builtin "ValueError.__new__"), k5] := hs
      subst hs'
      exact ⟨nm, qn, ns, bs, bm, sn, sub, ab, col, dx, k0, k1, k2, k3, k5, ho, hr⟩
    · cases h
  · cases h
def eqV2 (a b : Option Value) : Bool := decide (a = b)
/-- a class of errors whose way up is l -/
def clsB (K : PySem.W.Frag) (C : Addr) (l : List Value) : Bool := (match PySem.W.clsIn K C with
  | some cd => decide (cd.mro = l) && cd.hasDict
  | none => false) && (eqV2 (PySem.W.typeIn K (.ref C)) (some (.type "type")) && (He.eqO (PySem.W.findIn K (.ref C) "__getattribute__") (some (some (.builtin "BaseException.__getattribute__"))) && (He.eqO (PySem.W.findIn K (.ref C) "__getattr__") (some none) &&
    (He.eqO (PySem.W.findIn K (.ref C) "__class__") (some (some (.builtin "object.__class__"))) && PySem.W.keepIn K (.ref C)))))
structure ClsOk (K : PySem.W.Frag) (C : Addr) (l : List Value) : Prop where
  cl : ∃ cd, PySem.W.clsIn K C = some cd ∧ cd.mro = l ∧ cd.hasDict = true
  ty : PySem.W.typeIn K (.ref C) = some (.type "type")
  ga : PySem.W.findIn K (.ref C) "__getattribute__" = some (some (.builtin "BaseException.__getattribute__"))
  gg : PySem.W.findIn K (.ref C) "__getattr__" = some none
  gc : PySem.W.findIn K (.ref C) "__class__" = some (some (.builtin "object.__class__"))
  kp : PySem.W.keepIn K (.ref C) = true
theorem clsB_ok {K : PySem.W.Frag} {C : Addr} {l : List Value} (h : clsB K C l = true) : ClsOk K C l := by
  unfold clsB at h
  simp only [Bool.and_eq_true] at h
  obtain ⟨h1, h2, h3, h4, h5, h6⟩ := h
  refine ⟨?_, of_decide_eq_true h2, He.eqO_ok h3, He.eqO_ok h4, He.eqO_ok h5, h6⟩
  cases e : PySem.W.clsIn K C with
  | none =>
    rw [e] at h1
    cases h1
  | some cd =>
    rw [e] at h1
    have h1' : (decide (cd.mro = l) && cd.hasDict) = true := h1
    rw [Bool.and_eq_true] at h1'
    exact ⟨cd, rfl, of_decide_eq_true h1'.1, h1'.2⟩
theorem ClsOk.sub {K : PySem.W.Frag} {C : Addr} {l : List Value} (h : ClsOk K C l) (hl : l ≠ []) (b : Value) : PySem.W.subIn K (.ref C) b = some (l.contains b) := by
  obtain ⟨cd, e, rfl, _⟩ := h.cl
  show (PySem.W.clsIn K C).bind (fun cd => if cd.mro.isEmpty then none else some (cd.mro.contains b)) = _
  rw [e]
  show (if cd.mro.isEmpty = true then none else some (cd.mro.contains b)) = _
  rw [if_neg (by cases q : cd.mro with
    | nil => exact absurd q hl
    | cons _ _ => exact Bool.false_ne_true)]
theorem ClsOk.excC {K : PySem.W.Frag} {C : Addr} {l : List Value} (h : ClsOk K C l) (hl : l ≠ []) (h1 : l.contains (.type "BaseException") = true) (h2 : l.contains (.type "object") = true) (hn : PySem.W.specialIn K (.builtin "object.__class__") "__get__" = some (some (.builtin "getset_descriptor.__get__")))
    (ht : PySem.W.takesIn K (.builtin "object.__class__") = some true) : ExcC K C where
  hg := h.ga
  hk := h.gg
  hs := by rw [h.sub hl, h1]
  hd := by
    obtain ⟨cd, e, _, hd⟩ := h.cl
    show (PySem.W.clsIn K C).any (·.hasDict) = true
    rw [e]
    exact hd
  ha := h.gc
  hn := hn
  ht := ht
  hm := by
    have z := h.sub hl (.type "object")
    rw [h2] at z
    exact z
theorem ClsOk.kit {K : PySem.W.Frag} {C D : Addr} {l m : List Value} (h : ClsOk K C l) (hl : l ≠ []) (hD : ClsOk K D m) {b : Bool} (e : (decide (C = D) || l.contains (.ref D)) = b) : PySem.W.kitOne K (.ref C) (.ref D) = some b := by
  unfold PySem.W.kitOne
  by_cases q : C = D
  · subst q
    rw [if_pos (by simp)]
    rw [decide_eq_true rfl] at e
    exact congrArg some e
  · rw [if_neg (by simpa using q)]
    show (if ((PySem.W.clsIn K D).isSome && PySem.W.typeIn K (.ref D) == some (.type "type")) = true then PySem.W.subIn K (.ref C) (.ref D) else none) = some b
    obtain ⟨cd, ed, _⟩ := hD.cl
    rw [ed, hD.ty, if_pos (by rfl), h.sub hl]
    rw [decide_eq_false q, Bool.false_or] at e
    exact congrArg some e
theorem ClsOk.kitT {K : PySem.W.Frag} {C : Addr} {l : List Value} (h : ClsOk K C l) (hl : l ≠ []) {T : String} (hT : PySem.W.kitMeta T = true) (e : l.contains (.type T) = true) : PySem.W.kitOne K (.ref C) (.type T) = some true := by
  unfold PySem.W.kitOne
  rw [if_neg (by simp)]
  show (if PySem.W.kitMeta T = true then PySem.W.subIn K (.ref C) (.type T) else none) = some true
  rw [if_pos hT, h.sub hl, e]
def eqB (a b : Option Bool) : Bool := decide (a = b)
def cfB (r : Option PySem.W.CFound) : Bool := match r with
  | some (.val v) => decide (v = .builtin "ValueError.__init__")
  | _ => false
theorem cfB_ok {r : Option PySem.W.CFound} (h : cfB r = true) : r = some (.val (.builtin "ValueError.__init__")) := by
  unfold cfB at h
  split at h
  · rw [of_decide_eq_true h]
  · cases h
/-! a hook: the facts by names, more of them by a Bool, the law's own table of code objects -/
abbrev AlE : Type := He.AlD × Bool
def asE (g : Addr → Option Obj) (n : Nat) : List Addr := cStatics :: He.asD g n
def lawD : He.Defn := ("law", none)
def obsE (fa : List He.Fa) (fn : List He.DefD) (ext : PySem.W.Frag → Bool) (n : Nat) (g : Addr → Option Obj) : AlE := (He.obsD fa fn (He.frT g (asE g n)), ext (He.frT g (asE g n)) && He.tabsB g [lawD] (He.frT g (asE g n)))
structure SaysE (fa : List He.Fa) (fn : List He.DefD) (ext : PySem.W.Frag → Bool) (h : Heap) (K : PySem.W.Frag) : Prop where
  d : He.SaysD fa fn K
  more : ext K = true
  hd : PySem.W.codeHdIn K (He.cT K lawD).1 (He.cT K lawD).2 = true
  out : K.lookup (He.cT K lawD).2 = none
  empty : h.get? (He.cT K lawD).2 = some { cls := .none, data := .fields #[] }
theorem saysE_of {fa : List He.Fa} {fn : List He.DefD} {ext : PySem.W.Frag → Bool} {n : Nat} {h : Heap} (e : obsE fa fn ext n h.get? = (He.valD fn, true)) : SaysE fa fn ext h (He.frT h.get? (asE h.get? n)) := by
  have e1 : He.obsD fa fn (He.frT h.get? (asE h.get? n)) = He.valD fn := congrArg (fun z : AlE => z.1) e
  have e2 : (ext (He.frT h.get? (asE h.get? n)) && He.tabsB h.get? [lawD] (He.frT h.get? (asE h.get? n))) = true := congrArg (fun z : AlE => z.2) e
  obtain ⟨h1, h2⟩ := Bool.and_eq_true_iff.mp e2
  obtain ⟨h3, h4⟩ := Bool.and_eq_true_iff.mp (List.all_eq_true.mp h2 lawD (List.mem_singleton.mpr rfl))
  cases q : h.get? (He.cT (He.frT h.get? (asE h.get? n)) lawD).2 with
  | none =>
    rw [q] at h4
    cases h4
  | some o =>
    rw [q] at h4
    exact ⟨e1, h1, h3, He.frT_none q h4, by rw [q, He.emptyTab_eq h4]⟩
def hookE (fa : List He.Fa) (fn : List He.DefD) (ext : PySem.W.Frag → Bool) (n : Nat) : PySem.W.Hook where
  α := AlE
  obs := fun s => obsE fa fn ext n s.heap.get?
  val := fun _ => (He.valD fn, true)
  says := fun _ h => ∃ K : PySem.W.Frag, K.In h ∧ SaysE fa fn ext h K
  of := fun _ _ e => ⟨_, He.frT_in, saysE_of e⟩
  keeps := fun _ _ _ ⟨K, hK, c⟩ k => ⟨K, PySem.W.Frag.In.keeps hK k, ⟨c.d, c.more, c.hd, c.out, k _ _ c.empty⟩⟩
end Xv

set_option Elab.async false
set_option linter.all false
set_option maxRecDepth 100000
set_option maxHeartbeats 4000000
/-! power series with whole coefficients, as functions -/
namespace Ps
/-- f 0 + .. + f (n - 1) -/
def sm (f : Nat → Int) : Nat → Int
  | 0 => 0
  | n + 1 => sm f n + f n
theorem sm_congr {f g : Nat → Int} : ∀ n : Nat, (∀ i, i < n → f i = g i) → sm f n = sm g n
  | 0, _ => rfl
  | n + 1, h => by
    show sm f n + f n = sm g n + g n
    rw [sm_congr n fun i hi => h i (by omega), h n (by omega)]
theorem sm_add (f g : Nat → Int) : ∀ n, sm (fun i => f i + g i) n = sm f n + sm g n
  | 0 => rfl
  | n + 1 => by
    show sm (fun i => f i + g i) n + (f n + g n) = sm f n + f n + (sm g n + g n)
    rw [sm_add f g n]
    omega
theorem sm_mul (c : Int) (f : Nat → Int) : ∀ n, sm (fun i => c * f i) n = c * sm f n
  | 0 => by
    show (0 : Int) = c * 0
    rw [Int.mul_zero]
  | n + 1 => by
    show sm (fun i => c * f i) n + c * f n = c * (sm f n + f n)
    rw [sm_mul c f n, Int.mul_add]
theorem sm_mul' (c : Int) (f : Nat → Int) (n : Nat) : sm (fun i => f i * c) n = sm f n * c := by
  rw [Int.mul_comm (sm f n), ← sm_mul]
  exact sm_congr n fun i _ => Int.mul_comm _ _
theorem sm_zero : ∀ n, sm (fun _ => 0) n = 0
  | 0 => rfl
  | n + 1 => by
    show sm (fun _ => 0) n + 0 = 0
    rw [sm_zero n]
    rfl
theorem sm_first (f : Nat → Int) : ∀ n, sm f (n + 1) = f 0 + sm (fun i => f (i + 1)) n
  | 0 => by
    show 0 + f 0 = f 0 + 0
    omega
  | n + 1 => by
    show sm f (n + 1) + f (n + 1) = f 0 + (sm (fun i => f (i + 1)) n + f (n + 1))
    rw [sm_first f n]
    omega
theorem sm_rev (f : Nat → Int) : ∀ n, sm (fun i => f (n - 1 - i)) n = sm f n
  | 0 => rfl
  | n + 1 => by
    rw [sm_first]
    show f (n + 1 - 1 - 0) + sm (fun i => f (n + 1 - 1 - (i + 1))) n = sm f n + f n
    have e : sm (fun i => f (n + 1 - 1 - (i + 1))) n = sm (fun i => f (n - 1 - i)) n := sm_congr n fun i hi => by
      have e2 : n + 1 - 1 - (i + 1) = n - 1 - i := by omega
      rw [e2]
    rw [e, sm_rev f n]
    have e3 : n + 1 - 1 - 0 = n := by omega
    rw [e3]
    omega
/-- the triangle summed the other way -/
theorem sm_tri (F : Nat → Nat → Int) : ∀ n, sm (fun i => sm (fun j => F i j) (i + 1)) n = sm (fun j => sm (fun k => F (k + j) j) (n - j)) n
  | 0 => rfl
  | n + 1 => by
    show sm (fun i => sm (fun j => F i j) (i + 1)) n + (sm (fun j => F n j) n + F n n) = sm (fun j => sm (fun k => F (k + j) j) (n + 1 - j)) n + sm (fun k => F (k + n) n) (n + 1 - n)
    rw [sm_tri F n]
    have e1 : sm (fun j => sm (fun k => F (k + j) j) (n + 1 - j)) n = sm (fun j => sm (fun k => F (k + j) j) (n - j) + F n j) n := sm_congr n fun j hj => by
      have e2 : n + 1 - j = (n - j) + 1 := by omega
      rw [e2]
      show sm _ (n - j) + F (n - j + j) j = _
      have e3 : n - j + j = n := by omega
      rw [e3]
    have e4 : sm (fun k => F (k + n) n) (n + 1 - n) = F n n := by
      have e5 : n + 1 - n = 1 := by omega
      rw [e5]
      show 0 + F (0 + n) n = F n n
      rw [Nat.zero_add]
      omega
    have e9 : sm (F n) n = sm (fun j => F n j) n := rfl
    rw [e1, sm_add, e4]
    omega
abbrev S : Type := Nat → Int
/-- the product -/
def cv (f g : S) : S := fun n => sm (fun i => f i * g (n - i)) (n + 1)
def one : S := fun n => if n = 0 then 1 else 0
theorem cv_comm (f g : S) : cv f g = cv g f := by
  funext n
  unfold cv
  rw [← sm_rev (fun i => f i * g (n - i)) (n + 1)]
  refine sm_congr _ fun i hi => ?_
  have e1 : n + 1 - 1 - i = n - i := by omega
  have e2 : n - (n - i) = i := by omega
  show f (n + 1 - 1 - i) * g (n - (n + 1 - 1 - i)) = _
  rw [e1, e2, Int.mul_comm]
theorem cv_assoc (f g h : S) : cv (cv f g) h = cv f (cv g h) := by
  funext n
  unfold cv
  have e1 : sm (fun i => sm (fun j => f j * g (i - j)) (i + 1) * h (n - i)) (n + 1) = sm (fun i => sm (fun j => f j * g (i - j) * h (n - i)) (i + 1)) (n + 1) := sm_congr _ fun i hi => (sm_mul' _ _ _).symm
  rw [e1, sm_tri (fun i j => f j * g (i - j) * h (n - i))]
  refine sm_congr _ fun j hj => ?_
  have e2 : n + 1 - j = (n - j) + 1 := by omega
  rw [e2, ← sm_mul]
  refine sm_congr _ fun k hk => ?_
  have e3 : k + j - j = k := by omega
  have e4 : n - (k + j) = n - j - k := by omega
  rw [e3, e4, Int.mul_assoc]
theorem cv_one (f : S) : cv f one = f := by
  rw [cv_comm]
  funext n
  unfold cv
  rw [sm_first]
  have e : sm (fun i => one (i + 1) * f (n - (i + 1))) n = 0 := by
    rw [← sm_zero n]
    refine sm_congr _ fun i _ => ?_
    show (if i + 1 = 0 then (1 : Int) else 0) * _ = 0
    rw [if_neg (by omega), Int.zero_mul]
  rw [e]
  show (1 : Int) * f (n - 0) + 0 = f n
  rw [Int.one_mul, Int.add_zero, Nat.sub_zero]
theorem one_cv (f : S) : cv one f = f := by
  rw [cv_comm, cv_one]
def sc (c : Int) (f : S) : S := fun n => c * f n
def ad (f g : S) : S := fun n => f n + g n
theorem cv_sc (c : Int) (f g : S) : cv f (sc c g) = sc c (cv f g) := by
  funext n
  unfold cv sc
  rw [← sm_mul]
  refine sm_congr _ fun i _ => ?_
  rw [← Int.mul_assoc, Int.mul_comm (f i) c, Int.mul_assoc]
theorem sc_cv (c : Int) (f g : S) : cv (sc c f) g = sc c (cv f g) := by
  rw [cv_comm, cv_sc, cv_comm]
theorem cv_ad (f g h : S) : cv f (ad g h) = ad (cv f g) (cv f h) := by
  funext n
  unfold cv ad
  rw [← sm_add]
  refine sm_congr _ fun i _ => Int.mul_add _ _ _
/-- n * f n -/
def dv (f : S) : S := fun n => (n : Int) * f n
theorem dv_cv (f g : S) : dv (cv f g) = ad (cv (dv f) g) (cv f (dv g)) := by
  funext n
  unfold dv cv ad
  rw [← sm_mul, ← sm_add]
  refine sm_congr _ fun i hi => ?_
  have e : (n : Int) = (i : Int) + ((n - i : Nat) : Int) := by omega
  have e1 : ((i : Int) + ((n - i : Nat) : Int)) * (f i * g (n - i)) = (i : Int) * f i * g (n - i) + f i * (((n - i : Nat) : Int) * g (n - i)) := by
    rw [Int.add_mul, Int.mul_assoc, ← Int.mul_assoc (f i), Int.mul_comm (f i) ((n - i : Nat) : Int), Int.mul_assoc]
  rw [← e1, ← e]
theorem dv_one : dv one = fun _ => 0 := by
  funext n
  show (n : Int) * (if n = 0 then 1 else 0) = 0
  by_cases h : n = 0
  · rw [h]
    rfl
  · rw [if_neg h, Int.mul_zero]
/-- powers -/
def pw (f : S) : Nat → S
  | 0 => one
  | k + 1 => cv (pw f k) f
theorem cv_zero (f : S) : cv f (fun _ => 0) = fun _ => 0 := by
  funext n
  unfold cv
  refine Eq.trans (sm_congr _ fun i _ => Int.mul_zero _) (sm_zero _)
theorem sc_zero (c : Int) : sc c (fun _ => 0) = fun _ => 0 := by
  funext n
  exact Int.mul_zero _
/-- f times the derivative of its power -/
theorem dv_pw (f : S) : ∀ k : Nat, cv f (dv (pw f k)) = sc (k : Int) (cv (dv f) (pw f k))
  | 0 => by
    show cv f (dv one) = _
    rw [dv_one, cv_zero]
    funext n
    exact (Int.zero_mul _).symm
  | k + 1 => by
    show cv f (dv (cv (pw f k) f)) = sc ((k + 1 : Nat) : Int) (cv (dv f) (cv (pw f k) f))
    rw [dv_cv, cv_ad]
    have e1 : cv f (cv (dv (pw f k)) f) = sc (k : Int) (cv (dv f) (cv (pw f k) f)) := by
      rw [← cv_assoc, dv_pw f k, sc_cv, cv_assoc]
    have e2 : cv f (cv (pw f k) (dv f)) = cv (dv f) (cv (pw f k) f) := by
      rw [cv_comm f, cv_comm (pw f k), cv_assoc]
    rw [e1, e2]
    funext n
    show (k : Int) * _ + _ = ((k + 1 : Nat) : Int) * _
    have e3 : ((k + 1 : Nat) : Int) = (k : Int) + 1 := rfl
    rw [e3, Int.add_mul, Int.one_mul]
/-- the same of the powers of an inverse -/
theorem dv_inv (f g : S) (h : cv f g = one) : ∀ k : Nat, cv f (dv (pw g k)) = sc (-(k : Int)) (cv (dv f) (pw g k))
  | 0 => by
    show cv f (dv one) = _
    rw [dv_one, cv_zero]
    funext n
    show (0 : Int) = -0 * _
    rw [Int.neg_zero, Int.zero_mul]
  | k + 1 => by
    have hd : cv f (dv g) = sc (-1) (cv (dv f) g) := by
      have e := dv_cv f g
      rw [h, dv_one] at e
      funext n
      have e1 := congrFun e n
      have e2 : (0 : Int) = cv (dv f) g n + cv f (dv g) n := e1
      show cv f (dv g) n = -1 * cv (dv f) g n
      omega
    show cv f (dv (cv (pw g k) g)) = sc (-((k + 1 : Nat) : Int)) (cv (dv f) (cv (pw g k) g))
    rw [dv_cv, cv_ad]
    have e1 : cv f (cv (dv (pw g k)) g) = sc (-(k : Int)) (cv (dv f) (cv (pw g k) g)) := by
      rw [← cv_assoc, dv_inv f g h k, sc_cv, cv_assoc]
    have e2 : cv f (cv (pw g k) (dv g)) = sc (-1) (cv (dv f) (cv (pw g k) g)) := by
      rw [cv_comm (pw g k), ← cv_assoc, hd, sc_cv, cv_assoc, cv_comm g]
    rw [e1, e2]
    funext n
    show -(k : Int) * _ + -1 * _ = -((k + 1 : Nat) : Int) * _
    have e3 : -((k + 1 : Nat) : Int) = -(k : Int) + -1 := by
      have : ((k + 1 : Nat) : Int) = (k : Int) + 1 := rfl
      omega
    rw [e3, Int.add_mul]
/-- the recurrence of a power with the exponent e -/
theorem recur {f b : S} {e : Int} (h : cv f (dv b) = sc e (cv (dv f) b)) (n : Nat) : (n : Int) * f 0 * b n = sm (fun i => ((e + 1) * ((i + 1 : Nat) : Int) - (n : Int)) * f (i + 1) * b (n - (i + 1))) n := by
  have h1 : sm (fun i => f i * (((n - i : Nat) : Int) * b (n - i))) (n + 1) = e * sm (fun i => ((i : Nat) : Int) * f i * b (n - i)) (n + 1) := congrFun h n
  rw [sm_first, sm_first] at h1
  have z : ((0 : Nat) : Int) * f 0 * b (n - 0) = 0 := by
    show (0 : Int) * f 0 * _ = 0
    rw [Int.zero_mul, Int.zero_mul]
  rw [z, Int.zero_add, ← sm_mul] at h1
  have e1 : sm (fun i => ((e + 1) * ((i + 1 : Nat) : Int) - (n : Int)) * f (i + 1) * b (n - (i + 1))) n = sm (fun i => e * (((i + 1 : Nat) : Int) * f (i + 1) * b (n - (i + 1)))) n - sm (fun i => f (i + 1) * (((n - (i + 1) : Nat) : Int) * b (n - (i + 1)))) n := by
    have e2 : sm (fun i => ((e + 1) * ((i + 1 : Nat) : Int) - (n : Int)) * f (i + 1) * b (n - (i + 1))) n + sm (fun i => f (i + 1) * (((n - (i + 1) : Nat) : Int) * b (n - (i + 1)))) n = sm (fun i => e * (((i + 1 : Nat) : Int) * f (i + 1) * b (n - (i + 1)))) n := by
      rw [← sm_add]
      refine sm_congr _ fun i hi => ?_
      have e3 : ((n - (i + 1) : Nat) : Int) = (n : Int) - ((i + 1 : Nat) : Int) := by omega
      rw [e3]
      generalize ((i + 1 : Nat) : Int) = I
      generalize (n : Int) = N
      generalize f (i + 1) = F
      generalize b (n - (i + 1)) = B
      have e4 : F * ((N - I) * B) = (N - I) * F * B := by
        rw [← Int.mul_assoc, Int.mul_comm F]
      have e5 : e * (I * F * B) = e * I * F * B := by
        rw [← Int.mul_assoc, ← Int.mul_assoc]
      rw [e4, e5, ← Int.add_mul, ← Int.add_mul]
      congr 2
      rw [Int.add_mul, Int.one_mul]
      omega
    omega
  rw [e1, ← h1]
  have e6 : f 0 * (((n - 0 : Nat) : Int) * b (n - 0)) = (n : Int) * f 0 * b n := by
    rw [Nat.sub_zero, ← Int.mul_assoc, Int.mul_comm (f 0)]
  rw [e6]
  omega
/-! ### an inverse -/
def inA (f : S) (u : Int) : Nat → S
  | 0 => fun m => if m = 0 then u else 0
  | n + 1 => fun m => if m = n + 1 then -u * sm (fun i => f (i + 1) * inA f u n (n - i)) (n + 1) else inA f u n m
def inv (f : S) (u : Int) : S := fun m => inA f u m m
theorem inA_le (f : S) (u : Int) : ∀ n m, m ≤ n → inA f u n m = inv f u m
  | 0, m, h => by
    have e : m = 0 := by omega
    subst e
    rfl
  | n + 1, m, h => by
    by_cases e : m = n + 1
    · subst e
      rfl
    · show (if m = n + 1 then _ else inA f u n m) = _
      rw [if_neg e]
      exact inA_le f u n m (by omega)
theorem inv_zero (f : S) (u : Int) : inv f u 0 = u := rfl
theorem inv_succ (f : S) (u : Int) (n : Nat) : inv f u (n + 1) = -u * sm (fun i => f (i + 1) * inv f u (n - i)) (n + 1) := by
  show (if n + 1 = n + 1 then -u * sm (fun i => f (i + 1) * inA f u n (n - i)) (n + 1) else _) = _
  rw [if_pos rfl]
  congr 1
  refine sm_congr _ fun i _ => ?_
  rw [inA_le f u n (n - i) (by omega)]
theorem cv_inv (f : S) {u : Int} (h0 : f 0 = u) (hu : u * u = 1) : cv f (inv f u) = one := by
  funext n
  unfold cv
  cases n with
  | zero =>
    show 0 + f 0 * inv f u 0 = 1
    rw [h0, inv_zero, hu]
    rfl
  | succ n =>
    rw [sm_first, h0]
    show u * inv f u (n + 1) + sm (fun i => f (i + 1) * inv f u (n + 1 - (i + 1))) (n + 1) = 0
    have e : sm (fun i => f (i + 1) * inv f u (n + 1 - (i + 1))) (n + 1) = sm (fun i => f (i + 1) * inv f u (n - i)) (n + 1) := sm_congr _ fun i _ => by
      have e2 : n + 1 - (i + 1) = n - i := by omega
      rw [e2]
    rw [e, inv_succ, ← Int.mul_assoc, Int.mul_neg, hu]
    omega
theorem pw_zero (f : S) : ∀ k, pw f k 0 = f 0 ^ k
  | 0 => (Int.pow_zero _).symm
  | k + 1 => by
    show cv (pw f k) f 0 = _
    show 0 + pw f k 0 * f 0 = _
    rw [pw_zero f k, Int.zero_add, Int.pow_succ]
/-! ### only the coefficients up to some last one matter -/
theorem cv_congr {f f' g g' : S} {N : Nat} (hf : ∀ i, i < N → f i = f' i) (hg : ∀ i, i < N → g i = g' i) : ∀ n, n < N → cv f g n = cv f' g' n := fun n hn => sm_congr _ fun i hi => by
  rw [hf i (by omega), hg (n - i) (by omega)]
theorem pw_congr {f f' : S} {N : Nat} (hf : ∀ i, i < N → f i = f' i) : ∀ k n, n < N → pw f k n = pw f' k n
  | 0, _, _ => rfl
  | k + 1, n, hn => cv_congr (pw_congr hf k) hf n hn
theorem inv_congr {f f' : S} {u : Int} {N : Nat} (hf : ∀ i, i < N → f i = f' i) : ∀ n, n < N → inv f u n = inv f' u n := by
  intro n
  induction n using Nat.strongRecOn with
  | ind n ih =>
    intro hn
    cases n with
    | zero => rfl
    | succ n =>
      rw [inv_succ, inv_succ]
      congr 1
      refine sm_congr _ fun i hi => ?_
      rw [hf (i + 1) (by omega), ih (n - i) (by omega) (by omega)]
/-! ### shifts -/
/-- q ^ z times it -/
def sh (z : Nat) (f : S) : S := fun n => if n < z then 0 else f (n - z)
theorem sm_split (f : S) (z : Nat) : ∀ n, sm f (z + n) = sm f z + sm (fun i => f (z + i)) n
  | 0 => by
    show sm f z = sm f z + 0
    omega
  | n + 1 => by
    show sm f (z + n) + f (z + n) = _
    rw [sm_split f z n]
    show _ = sm f z + (sm (fun i => f (z + i)) n + f (z + n))
    omega
theorem sh_cv (z : Nat) (f g : S) : cv (sh z f) g = sh z (cv f g) := by
  funext n
  unfold cv
  by_cases h : n < z
  · show _ = if n < z then 0 else _
    rw [if_pos h]
    refine Eq.trans (sm_congr _ fun i hi => ?_) (sm_zero _)
    show (if i < z then 0 else f (i - z)) * _ = 0
    rw [if_pos (by omega), Int.zero_mul]
  · show _ = if n < z then 0 else sm (fun i => f i * g (n - z - i)) (n - z + 1)
    rw [if_neg h]
    have e : n + 1 = z + (n - z + 1) := by omega
    rw [e, sm_split]
    have e0 : sm (fun i => sh z f i * g (n - i)) z = 0 := by
      refine Eq.trans (sm_congr _ fun i hi => ?_) (sm_zero _)
      show (if i < z then 0 else f (i - z)) * _ = 0
      rw [if_pos hi, Int.zero_mul]
    rw [e0, Int.zero_add]
    refine sm_congr _ fun i hi => ?_
    show (if z + i < z then 0 else f (z + i - z)) * g (n - (z + i)) = _
    rw [if_neg (by omega)]
    have e1 : z + i - z = i := by omega
    have e2 : n - (z + i) = n - z - i := by omega
    rw [e1, e2]
theorem sh_sh (a b : Nat) (f : S) : sh a (sh b f) = sh (a + b) f := by
  funext n
  unfold sh
  by_cases h : n < a
  · rw [if_pos h, if_pos (by omega)]
  · rw [if_neg h]
    by_cases h2 : n - a < b
    · rw [if_pos h2, if_pos (by omega)]
    · rw [if_neg h2, if_neg (by omega)]
      congr 1
      omega
theorem sh_zero (f : S) : sh 0 f = f := by
  funext n
  show (if n < 0 then 0 else f (n - 0)) = f n
  rw [if_neg (by omega), Nat.sub_zero]
theorem pw_sh (z : Nat) (f : S) : ∀ k, pw (sh z f) k = sh (z * k) (pw f k)
  | 0 => by
    rw [Nat.mul_zero, sh_zero]
    rfl
  | k + 1 => by
    show cv (pw (sh z f) k) (sh z f) = sh (z * (k + 1)) (cv (pw f k) f)
    rw [pw_sh z f k, sh_cv, cv_comm, sh_cv, cv_comm f, sh_sh]
    rfl
/-! ### bounds -/
theorem sm_bound {f : S} {M : Nat} : ∀ n, (∀ i, i < n → (f i).natAbs ≤ M) → (sm f n).natAbs ≤ n * M
  | 0, _ => by
    show 0 ≤ _
    omega
  | n + 1, h => by
    have h1 := sm_bound n fun i hi => h i (by omega)
    have h2 := h n (by omega)
    show (sm f n + f n).natAbs ≤ (n + 1) * M
    rw [Nat.succ_mul]
    omega
theorem cv_bound {f g : S} {N A B : Nat} (hf : ∀ i, i < N → (f i).natAbs ≤ A) (hg : ∀ i, i < N → (g i).natAbs ≤ B) : ∀ n, n < N → (cv f g n).natAbs ≤ N * (A * B) := fun n hn => by
  refine Nat.le_trans (sm_bound (M := A * B) (n + 1) fun i hi => ?_) (Nat.mul_le_mul_right _ (by omega))
  rw [Int.natAbs_mul]
  exact Nat.mul_le_mul (hf i (by omega)) (hg (n - i) (by omega))
theorem pw_bound {f : S} {N A : Nat} (hf : ∀ i, i < N → (f i).natAbs ≤ A) (hN : 0 < N) : ∀ k n, n < N → (pw f k n).natAbs ≤ (N * A) ^ k
  | 0, n, _ => by
    show (if n = 0 then (1 : Int) else 0).natAbs ≤ 1
    by_cases h : n = 0
    · rw [if_pos h]
      decide
    · rw [if_neg h]
      decide
  | k + 1, n, hn => by
    refine Nat.le_trans (cv_bound (pw_bound hf hN k) hf n hn) ?_
    rw [Nat.pow_succ, ← Nat.mul_assoc, Nat.mul_comm N, Nat.mul_assoc]
    exact Nat.le_refl _
theorem inv_bound {f : S} {u : Int} {N A : Nat} (hu : u.natAbs = 1) (hf : ∀ i, i < N → (f i).natAbs ≤ A) : ∀ n, n < N → (inv f u n).natAbs ≤ (N * (A + 1)) ^ n := by
  intro n
  induction n using Nat.strongRecOn with
  | ind n ih =>
    intro hn
    cases n with
    | zero =>
      rw [inv_zero, hu]
      exact Nat.le_refl _
    | succ n =>
      rw [inv_succ, Int.natAbs_mul, Int.natAbs_neg, hu, Nat.one_mul]
      have hp : 0 < N * (A + 1) := Nat.mul_pos (by omega) (by omega)
      refine Nat.le_trans (sm_bound (M := A * (N * (A + 1)) ^ n) (n + 1) fun i hi => ?_) ?_
      · rw [Int.natAbs_mul]
        refine Nat.mul_le_mul (hf (i + 1) (by omega)) (Nat.le_trans (ih (n - i) (by omega) (by omega)) ?_)
        exact Nat.pow_le_pow_right hp (by omega)
      · rw [Nat.pow_succ, Nat.mul_comm _ (N * (A + 1)), Nat.mul_assoc N]
        have h1 : A * (N * (A + 1)) ^ n ≤ (A + 1) * (N * (A + 1)) ^ n := Nat.mul_le_mul_right _ (by omega)
        exact Nat.mul_le_mul (by omega) h1
end Ps

set_option Elab.async false
set_option linter.all false
set_option maxRecDepth 100000
set_option maxHeartbeats 4000000
/-! products of powers of 1 - q^n, and sums over divisors -/
namespace Ps
/-- 1 - q^n -/
def U (n : Nat) : S := fun i => if i = 0 then 1 else if i = n then -1 else 0
/-- its inverse -/
def G (n : Nat) : S := fun i => if n ∣ i then 1 else 0
/-- q^n / (1 - q^n) -/
def Ev (n : Nat) : S := fun i => if i ≠ 0 ∧ n ∣ i then 1 else 0
/-- q^n -/
def Xp (n : Nat) : S := fun i => if i = n then 1 else 0
theorem sm_one_at (f : S) {m : Nat} : ∀ N, m < N → (∀ i, i < N → i ≠ m → f i = 0) → sm f N = f m
  | 0, h, _ => absurd h (Nat.not_lt_zero _)
  | N + 1, h, h2 => by
    show sm f N + f N = f m
    by_cases e : m = N
    · subst e
      rw [sm_congr (g := fun _ => 0) m (fun i hi => h2 i (by omega) (by omega)), sm_zero]
      omega
    · rw [sm_one_at f N (by omega) (fun i hi hn => h2 i (by omega) hn), h2 N (by omega) (fun z => e z.symm)]
      omega
theorem cv_U {n : Nat} (hn : 0 < n) (f : S) : cv (U n) f = fun k => f k - (if n ≤ k then f (k - n) else 0) := by
  funext k
  unfold cv
  rw [sm_first]
  have e0 : U n 0 * f (k - 0) = f k := by
    show (1 : Int) * f (k - 0) = f k
    rw [Int.one_mul, Nat.sub_zero]
  rw [e0]
  by_cases h : n ≤ k
  · rw [if_pos h, sm_one_at (m := n - 1) (fun i => U n (i + 1) * f (k - (i + 1))) k (by omega) (fun i hi hne => ?_)]
    · show f k + U n (n - 1 + 1) * f (k - (n - 1 + 1)) = _
      have e1 : n - 1 + 1 = n := by omega
      rw [e1]
      have e2 : U n n = -1 := by
        unfold U
        rw [if_neg (by omega), if_pos rfl]
      rw [e2]
      omega
    · show U n (i + 1) * _ = 0
      have e2 : U n (i + 1) = 0 := by
        unfold U
        rw [if_neg (by omega), if_neg (by omega)]
      rw [e2, Int.zero_mul]
  · rw [if_neg h, sm_congr (g := fun _ => 0) k (fun i hi => ?_), sm_zero]
    · omega
    · show U n (i + 1) * _ = 0
      have e2 : U n (i + 1) = 0 := by
        unfold U
        rw [if_neg (by omega), if_neg (by omega)]
      rw [e2, Int.zero_mul]
theorem dvd_lt {n k : Nat} (h : k < n) : n ∣ k ↔ k = 0 := ⟨fun z => by
  rcases Nat.eq_zero_or_pos k with q | q
  · exact q
  · exact absurd (Nat.le_of_dvd q z) (by omega), fun z => by rw [z]; exact Nat.dvd_zero _⟩
theorem dvd_back {n k : Nat} (h : n ≤ k) : n ∣ k ↔ n ∣ k - n := ⟨fun z => Nat.dvd_sub z (Nat.dvd_refl n), fun z => by
  have z2 := Nat.dvd_add z (Nat.dvd_refl n)
  rwa [Nat.sub_add_cancel h] at z2⟩
theorem UG {n : Nat} (hn : 0 < n) : cv (U n) (G n) = one := by
  rw [cv_U hn]
  funext k
  show (if n ∣ k then (1 : Int) else 0) - (if n ≤ k then (if n ∣ k - n then 1 else 0) else 0) = if k = 0 then 1 else 0
  by_cases h : n ≤ k
  · rw [if_pos h, if_neg (by omega : ¬ k = 0)]
    by_cases d : n ∣ k
    · rw [if_pos d, if_pos ((dvd_back h).mp d)]
      rfl
    · rw [if_neg d, if_neg (fun z => d ((dvd_back h).mpr z))]
      rfl
  · rw [if_neg h]
    by_cases d : k = 0
    · rw [if_pos ((dvd_lt (by omega)).mpr d), if_pos d]
      rfl
    · rw [if_neg (fun z => d ((dvd_lt (by omega)).mp z)), if_neg d]
      rfl
theorem UE {n : Nat} (hn : 0 < n) : cv (U n) (Ev n) = Xp n := by
  rw [cv_U hn]
  funext k
  show (if k ≠ 0 ∧ n ∣ k then (1 : Int) else 0) - (if n ≤ k then (if k - n ≠ 0 ∧ n ∣ k - n then 1 else 0) else 0) = if k = n then 1 else 0
  by_cases h : n ≤ k
  · rw [if_pos h]
    by_cases d : n ∣ k
    · rw [if_pos ⟨by omega, d⟩]
      by_cases e : k = n
      · rw [if_pos e, if_neg (by omega)]
        rfl
      · rw [if_neg e, if_pos ⟨by omega, (dvd_back h).mp d⟩]
        rfl
    · rw [if_neg (fun z => d z.2), if_neg (fun z => d ((dvd_back h).mpr z.2)), if_neg (fun z => d (by rw [z]; exact Nat.dvd_refl _))]
      rfl
  · rw [if_neg h, if_neg (fun z => h (Nat.le_of_dvd (Nat.pos_of_ne_zero z.1) z.2)), if_neg (by omega)]
    rfl
theorem dvU {n : Nat} : dv (U n) = sc (-(n : Int)) (Xp n) := by
  funext i
  show (i : Int) * (if i = 0 then 1 else if i = n then -1 else 0) = -(n : Int) * (if i = n then 1 else 0)
  by_cases h : i = n
  · subst h
    rw [if_pos rfl, if_pos rfl]
    by_cases z : i = 0
    · rw [if_pos z]
      omega
    · rw [if_neg z]
      omega
  · rw [if_neg h, if_neg h]
    by_cases z : i = 0
    · rw [if_pos z]
      omega
    · rw [if_neg z]
      omega
theorem cancelU {n : Nat} (hn : 0 < n) {f g : S} (h : cv (U n) f = cv (U n) g) : f = g := by
  have e : ∀ z : S, cv (G n) (cv (U n) z) = z := fun z => by rw [← cv_assoc, cv_comm (G n), UG hn, one_cv]
  rw [← e f, h, e]
theorem ad_zero (f : S) : ad f (fun _ => 0) = f := by
  funext k
  show f k + 0 = f k
  omega
theorem dvG {n : Nat} (hn : 0 < n) : dv (G n) = cv (sc (n : Int) (Ev n)) (G n) := by
  refine cancelU hn ?_
  have h := dv_cv (U n) (G n)
  rw [UG hn, dv_one, dvU, ← UE hn, sc_cv] at h
  have e1 : cv (cv (U n) (Ev n)) (G n) = cv (U n) (cv (Ev n) (G n)) := cv_assoc _ _ _
  rw [e1] at h
  rw [sc_cv, cv_sc]
  funext k
  have hk := congrFun h k
  show cv (U n) (dv (G n)) k = (n : Int) * cv (U n) (cv (Ev n) (G n)) k
  have hk2 : (0 : Int) = -(n : Int) * cv (U n) (cv (Ev n) (G n)) k + cv (U n) (dv (G n)) k := hk
  rw [Int.neg_mul] at hk2
  omega
/-- the logarithmic slope of a is s -/
structure Lg (s a : S) : Prop where
  z : s 0 = 0
  d : dv a = cv s a
theorem Lg.one : Lg (fun _ => 0) one := ⟨rfl, by rw [dv_one, cv_comm, cv_zero]⟩
theorem ad_cv (f g h : S) : cv (ad f g) h = ad (cv f h) (cv g h) := by rw [cv_comm, cv_ad, cv_comm h f, cv_comm h g]
theorem Lg.pos {s a : S} (L : Lg s a) {n : Nat} (hn : 0 < n) : Lg (ad s (sc (n : Int) (Ev n))) (cv (G n) a) := by
  refine ⟨?_, ?_⟩
  · show s 0 + (n : Int) * (if (0 : Nat) ≠ 0 ∧ n ∣ 0 then 1 else 0) = 0
    rw [L.z, if_neg (fun z => z.1 rfl)]
    omega
  · rw [dv_cv, dvG hn, L.d, ad_cv, cv_assoc, ← cv_assoc (G n) s a, cv_comm (G n) s, cv_assoc]
    funext k
    show _ + _ = _ + _
    omega
theorem Lg.neg {s a : S} (L : Lg s a) {n : Nat} (hn : 0 < n) : Lg (ad s (sc (-(n : Int)) (Ev n))) (cv (U n) a) := by
  refine ⟨?_, ?_⟩
  · show s 0 + -(n : Int) * (if (0 : Nat) ≠ 0 ∧ n ∣ 0 then 1 else 0) = 0
    rw [L.z, if_neg (fun z => z.1 rfl)]
    omega
  · rw [dv_cv, dvU, L.d, ad_cv, ← UE hn, sc_cv, sc_cv, cv_assoc, cv_comm (U n) (cv s a), cv_assoc, cv_comm a (U n)]
    have e : cv (U n) (cv (Ev n) a) = cv (Ev n) (cv (U n) a) := by rw [← cv_assoc, cv_comm (U n), cv_assoc]
    rw [e]
    funext k
    show _ + _ = _ + _
    omega
/-- one factor to the power -p, laps done -/
def lapF (n : Nat) (p : Int) : Nat → S → S
  | 0, a => a
  | j + 1, a => if 0 < p then cv (G n) (lapF n p j a) else cv (U n) (lapF n p j a)
def prA (p : S) : Nat → S
  | 0 => one
  | j + 1 => lapF (j + 1) (p j) (p j).natAbs (prA p j)
/-- the weighted sum over divisors, the first j alone -/
def sS (p : S) : Nat → S
  | 0 => fun _ => 0
  | j + 1 => ad (sS p j) (sc (((j + 1 : Nat) : Int) * p j) (Ev (j + 1)))
theorem lg_lap {s a : S} (L : Lg s a) {n : Nat} (hn : 0 < n) (p : Int) : ∀ j, j ≤ p.natAbs → Lg (ad s (sc ((n : Int) * (if 0 < p then (j : Int) else -(j : Int))) (Ev n))) (lapF n p j a)
  | 0, _ => by
    have e : ad s (sc ((n : Int) * (if 0 < p then ((0 : Nat) : Int) else -((0 : Nat) : Int))) (Ev n)) = s := by
      funext k
      show s k + (n : Int) * (if 0 < p then (0 : Int) else -(0 : Int)) * _ = s k
      split <;> simp
    rw [e]
    exact L
  | j + 1, hj => by
    have L1 := lg_lap L hn p j (by omega)
    unfold lapF
    by_cases h : 0 < p
    · rw [if_pos h] at L1
      rw [if_pos h, if_pos h]
      have e : ad s (sc ((n : Int) * ((j + 1 : Nat) : Int)) (Ev n)) = ad (ad s (sc ((n : Int) * (j : Int)) (Ev n))) (sc (n : Int) (Ev n)) := by
        funext k
        show s k + (n : Int) * ((j + 1 : Nat) : Int) * Ev n k = s k + (n : Int) * (j : Int) * Ev n k + (n : Int) * Ev n k
        have e1 : ((j + 1 : Nat) : Int) = (j : Int) + 1 := by omega
        rw [e1, Int.mul_add, Int.mul_one, Int.add_mul]
        omega
      rw [e]
      exact L1.pos hn
    · rw [if_neg h] at L1
      rw [if_neg h, if_neg h]
      have e : ad s (sc ((n : Int) * -((j + 1 : Nat) : Int)) (Ev n)) = ad (ad s (sc ((n : Int) * -(j : Int)) (Ev n))) (sc (-(n : Int)) (Ev n)) := by
        funext k
        show s k + (n : Int) * -((j + 1 : Nat) : Int) * Ev n k = s k + (n : Int) * -(j : Int) * Ev n k + -(n : Int) * Ev n k
        have e1 : -((j + 1 : Nat) : Int) = -(j : Int) + -1 := by omega
        rw [e1, Int.mul_add, Int.add_mul, Int.mul_neg_one]
        omega
      rw [e]
      exact L1.neg hn
theorem lg_prA (p : S) : ∀ j, Lg (sS p j) (prA p j)
  | 0 => Lg.one
  | j + 1 => by
    have L := lg_lap (lg_prA p j) (n := j + 1) (by omega) (p j) (p j).natAbs (Nat.le_refl _)
    have e : (if 0 < p j then ((p j).natAbs : Int) else -((p j).natAbs : Int)) = p j := by
      split <;> omega
    rw [e] at L
    exact L
theorem lapF_at (n : Nat) (hn : 0 < n) (p : Int) (a : S) : ∀ j k, k < n → lapF n p j a k = a k
  | 0, _, _ => rfl
  | j + 1, k, hk => by
    have ih := lapF_at n hn p a j k hk
    unfold lapF
    split
    · have e : cv (U n) (cv (G n) (lapF n p j a)) k = lapF n p j a k := by rw [← cv_assoc, UG hn, one_cv]
      rw [cv_U hn] at e
      have e2 : cv (G n) (lapF n p j a) k - (if n ≤ k then cv (G n) (lapF n p j a) (k - n) else 0) = lapF n p j a k := e
      rw [if_neg (by omega)] at e2
      omega
    · rw [cv_U hn]
      show lapF n p j a k - (if n ≤ k then _ else 0) = _
      rw [if_neg (by omega)]
      omega
/-- the coefficient at n itself moves by the power -/
theorem lapF_self (n : Nat) (hn : 0 < n) (p : Int) (a : S) (h0 : a 0 = 1) : ∀ j, lapF n p j a n = a n + (if 0 < p then (j : Int) else -(j : Int))
  | 0 => by
    show a n = a n + _
    split <;> simp
  | j + 1 => by
    have ih := lapF_self n hn p a h0 j
    have z0 := lapF_at n hn p a j 0 hn
    have z1 := lapF_at n hn p a (j + 1) 0 hn
    have ec : ((j + 1 : Nat) : Int) = (j : Int) + 1 := by omega
    unfold lapF at z1 ⊢
    by_cases h : 0 < p
    · rw [if_pos h] at ih z1 ⊢
      rw [if_pos h]
      have e : cv (U n) (cv (G n) (lapF n p j a)) n = lapF n p j a n := by rw [← cv_assoc, UG hn, one_cv]
      rw [cv_U hn] at e
      have e2 : cv (G n) (lapF n p j a) n - (if n ≤ n then cv (G n) (lapF n p j a) (n - n) else 0) = lapF n p j a n := e
      rw [if_pos (Nat.le_refl _), Nat.sub_self, z1, h0] at e2
      omega
    · rw [if_neg h] at ih z1 ⊢
      rw [if_neg h, cv_U hn]
      show lapF n p j a n - (if n ≤ n then lapF n p j a (n - n) else 0) = _
      rw [if_pos (Nat.le_refl _), Nat.sub_self, z0, h0, ih]
      omega
theorem prA_zero (p : S) : ∀ j, prA p j 0 = 1
  | 0 => rfl
  | j + 1 => by
    show lapF (j + 1) (p j) (p j).natAbs (prA p j) 0 = 1
    rw [lapF_at (j + 1) (by omega) _ _ _ 0 (by omega), prA_zero p j]
/-- behind the first k factors nothing changes up to k -/
theorem prA_far (p : S) : ∀ j k, k ≤ j → prA p j k = prA p k k
  | 0, k, h => by
    have : k = 0 := by omega
    subst this
    rfl
  | j + 1, k, h => by
    by_cases e : k = j + 1
    · rw [e]
    · show lapF (j + 1) (p j) (p j).natAbs (prA p j) k = _
      rw [lapF_at (j + 1) (by omega) _ _ _ k (by omega), prA_far p j k (by omega)]
theorem prA_congr {p q : S} : ∀ j, (∀ i, i < j → p i = q i) → prA p j = prA q j
  | 0, _ => rfl
  | j + 1, h => by
    show lapF (j + 1) (p j) (p j).natAbs (prA p j) = lapF (j + 1) (q j) (q j).natAbs (prA q j)
    rw [h j (by omega), prA_congr j fun i hi => h i (by omega)]
theorem sS_congr {p q : S} : ∀ j, (∀ i, i < j → p i = q i) → sS p j = sS q j
  | 0, _ => rfl
  | j + 1, h => by
    show ad (sS p j) _ = ad (sS q j) _
    rw [h j (by omega), sS_congr j fun i hi => h i (by omega)]
theorem prA_tail {p : S} {m : Nat} (h : ∀ i, m ≤ i → p i = 0) : ∀ k, prA p (m + k) = prA p m
  | 0 => rfl
  | k + 1 => by
    show lapF (m + k + 1) (p (m + k)) (p (m + k)).natAbs (prA p (m + k)) = _
    rw [h (m + k) (by omega)]
    exact prA_tail h k
theorem sS_tail {p : S} {m : Nat} (h : ∀ i, m ≤ i → p i = 0) : ∀ k, sS p (m + k) = sS p m
  | 0 => rfl
  | k + 1 => by
    show ad (sS p (m + k)) (sc (((m + k + 1 : Nat) : Int) * p (m + k)) (Ev (m + k + 1))) = _
    rw [h (m + k) (by omega), sS_tail h k]
    funext i
    show _ + (_ * 0) * _ = _
    rw [Int.mul_zero, Int.zero_mul, Int.add_zero]
/-- each series that begins with 1 is such a product -/
def exps (a : S) : Nat → S
  | 0 => fun _ => 0
  | j + 1 => fun i => if i = j then a (j + 1) - prA (exps a j) j (j + 1) else exps a j i
theorem exps_lt (a : S) : ∀ j k i, i < j → exps a (j + k) i = exps a j i
  | j, 0, i, _ => rfl
  | j, k + 1, i, h => by
    show (if i = j + k then _ else exps a (j + k) i) = _
    rw [if_neg (by omega), exps_lt a j k i h]
theorem exps_ok (a : S) (h0 : a 0 = 1) : ∀ j k, k ≤ j → prA (exps a j) j k = a k
  | 0, k, h => by
    have : k = 0 := by omega
    subst this
    exact h0.symm
  | j + 1, k, h => by
    have e : prA (exps a (j + 1)) j = prA (exps a j) j := prA_congr j fun i hi => exps_lt a j 1 i hi
    have ep : exps a (j + 1) j = a (j + 1) - prA (exps a j) j (j + 1) := by
      show (if j = j then _ else _) = _
      rw [if_pos rfl]
    show lapF (j + 1) (exps a (j + 1) j) (exps a (j + 1) j).natAbs (prA (exps a (j + 1)) j) k = a k
    rw [e]
    by_cases hk : k = j + 1
    · subst hk
      rw [lapF_self (j + 1) (by omega) _ _ (prA_zero _ _), ep]
      split <;> omega
    · rw [lapF_at (j + 1) (by omega) _ _ _ k (by omega)]
      exact exps_ok a h0 j k (by omega)
/-- n a(n) is the sum of s(k) a(n - k) -/
theorem Lg.at_ {s a : S} (L : Lg s a) (n : Nat) : (n : Int) * a n = sm (fun i => s (i + 1) * a (n - (i + 1))) n := by
  have h := congrFun L.d n
  have h2 : (n : Int) * a n = sm (fun i => s i * a (n - i)) (n + 1) := h
  rw [sm_first, L.z, Int.zero_mul, Int.zero_add] at h2
  exact h2
end Ps

set_option Elab.async false
set_option linter.all false
set_option maxRecDepth 100000
set_option maxHeartbeats 4000000
/-! bounds of products and of their sums -/
namespace Ps
theorem sS_bound {p : S} {c : Nat} (hp : ∀ i, (p i).natAbs ≤ c) : ∀ j k, (sS p j k).natAbs ≤ c * (j * (j + 1))
  | 0, k => by
    show (0 : Int).natAbs ≤ _
    exact Nat.zero_le _
  | j + 1, k => by
    have ih := sS_bound hp j k
    show (sS p j k + ((j + 1 : Nat) : Int) * p j * Ev (j + 1) k).natAbs ≤ _
    have h1 : (((j + 1 : Nat) : Int) * p j * Ev (j + 1) k).natAbs ≤ c * (j + 1) := by
      rw [Int.natAbs_mul, Int.natAbs_mul, Int.natAbs_natCast]
      have h2 : (Ev (j + 1) k).natAbs ≤ 1 := by
        unfold Ev
        split <;> decide
      have h3 := hp j
      have h4 : (j + 1) * (p j).natAbs ≤ (j + 1) * c := Nat.mul_le_mul (Nat.le_refl _) h3
      have h5 := Nat.mul_le_mul h4 h2
      rw [Nat.mul_one, Nat.mul_comm (j + 1) c] at h5
      exact h5
    have h6 := Int.natAbs_add_le (sS p j k) (((j + 1 : Nat) : Int) * p j * Ev (j + 1) k)
    have h7 : c * ((j + 1) * (j + 1 + 1)) = c * (j * (j + 1)) + c * (j + 1) + c * (j + 1) := by
      rw [← Nat.mul_add, ← Nat.mul_add]
      congr 1
      rw [Nat.mul_add (j + 1) (j + 1) 1, Nat.add_mul j 1 (j + 1)]
      omega
    omega
theorem lg_bound {s a : S} (L : Lg s a) (a0 : a 0 = 1) {B N : Nat} (hB : 1 ≤ B) (hs : ∀ k, k ≤ N → (s k).natAbs ≤ B) : ∀ n, n ≤ N → (a n).natAbs ≤ B ^ n := by
  intro n
  induction n using Nat.strongRecOn with
  | _ n ih =>
    intro hn
    cases n with
    | zero =>
      rw [a0]
      exact Nat.le_refl _
    | succ n =>
      have h := L.at_ (n + 1)
      have hb : (sm (fun i => s (i + 1) * a (n + 1 - (i + 1))) (n + 1)).natAbs ≤ (n + 1) * B ^ (n + 1) := sm_bound _ fun i hi => by
        rw [Int.natAbs_mul]
        have h1 := hs (i + 1) (by omega)
        have h2 := ih (n + 1 - (i + 1)) (by omega) (by omega)
        have h3 : B ^ (n + 1 - (i + 1)) ≤ B ^ n := Nat.pow_le_pow_right hB (by omega)
        have h4 := Nat.mul_le_mul h1 (Nat.le_trans h2 h3)
        rw [Nat.pow_succ, Nat.mul_comm (B ^ n) B]
        exact h4
      rw [← h, Int.natAbs_mul, Int.natAbs_natCast] at hb
      exact Nat.le_of_mul_le_mul_left hb (by omega)
theorem sums_bound {s a : S} (L : Lg s a) (a0 : a 0 = 1) {M N : Nat} (hM : 1 ≤ M) (hN : N ≤ 12) (ha : ∀ k, k ≤ N → (a k).natAbs ≤ M) : ∀ n, n ≤ N → (s n).natAbs ≤ (32 * M) ^ n := by
  intro n
  induction n using Nat.strongRecOn with
  | _ n ih =>
    intro hn
    cases n with
    | zero =>
      rw [L.z]
      exact Nat.zero_le _
    | succ n =>
      have h := L.at_ (n + 1)
      have h0 : sm (fun i => s (i + 1) * a (n + 1 - (i + 1))) (n + 1) = sm (fun i => s (i + 1) * a (n + 1 - (i + 1))) n + s (n + 1) * a (n + 1 - (n + 1)) := rfl
      rw [h0, Nat.sub_self, a0, Int.mul_one] at h
      have hb : (sm (fun i => s (i + 1) * a (n + 1 - (i + 1))) n).natAbs ≤ n * ((32 * M) ^ n * M) := sm_bound _ fun i hi => by
        rw [Int.natAbs_mul]
        have h1 := ih (i + 1) (by omega) (by omega)
        have h2 := ha (n + 1 - (i + 1)) (by omega)
        have h3 : (32 * M) ^ (i + 1) ≤ (32 * M) ^ n := Nat.pow_le_pow_right (by omega) (by omega)
        exact Nat.mul_le_mul (Nat.le_trans h1 h3) h2
      have hc : (((n + 1 : Nat) : Int) * a (n + 1)).natAbs ≤ 12 * M := by
        rw [Int.natAbs_mul, Int.natAbs_natCast]
        exact Nat.mul_le_mul (by omega) (ha _ hn)
      have h1 : 1 ≤ (32 * M) ^ n := Nat.pow_pos (by omega)
      have h2 : n * ((32 * M) ^ n * M) ≤ 12 * ((32 * M) ^ n * M) := Nat.mul_le_mul (by omega) (Nat.le_refl _)
      have h3 : 12 * M ≤ 12 * ((32 * M) ^ n * M) := by
        have := Nat.mul_le_mul h1 (Nat.le_refl M)
        omega
      have h4 : (32 * M) ^ (n + 1) = 32 * ((32 * M) ^ n * M) := by
        rw [Nat.pow_succ, Nat.mul_comm 32 M, ← Nat.mul_assoc, Nat.mul_comm]
      have h5 : s (n + 1) = ((n + 1 : Nat) : Int) * a (n + 1) - sm (fun i => s (i + 1) * a (n + 1 - (i + 1))) n := by omega
      have h6 := Int.natAbs_sub_le (((n + 1 : Nat) : Int) * a (n + 1)) (sm (fun i => s (i + 1) * a (n + 1 - (i + 1))) n)
      rw [← h5] at h6
      omega
/-- a and b with the same sums are the same -/
theorem lg_uniq {s a : S} (L : Lg s a) {b : S} {N : Nat} (h0 : a 0 = b 0) (hb : ∀ n, n < N → ((n + 1 : Nat) : Int) * b (n + 1) = sm (fun i => s (i + 1) * b (n + 1 - (i + 1))) (n + 1)) : ∀ n, n ≤ N → a n = b n := by
  intro n
  induction n using Nat.strongRecOn with
  | _ n ih =>
    intro hn
    cases n with
    | zero => exact h0
    | succ n =>
      have h := L.at_ (n + 1)
      have h2 := hb n (by omega)
      have e : sm (fun i => s (i + 1) * a (n + 1 - (i + 1))) (n + 1) = sm (fun i => s (i + 1) * b (n + 1 - (i + 1))) (n + 1) := sm_congr _ fun i hi => by
        rw [ih (n + 1 - (i + 1)) (by omega) (by omega)]
      rw [e, ← h2] at h
      exact Int.eq_of_mul_eq_mul_left (by omega) h
end Ps

set_option Elab.async false
set_option linter.all false
set_option maxRecDepth 100000
set_option maxHeartbeats 4000000
/-! sums over divisors -/
namespace Ps
def sgm (n k : Nat) : Int := sm (fun i => if (i + 1) ∣ n then ((i + 1 : Nat) : Int) ^ k else 0) n
def rt (n : Nat) : Nat := PySem.Float64.isqrt n
/-- what d and its partner give -/
def pr1 (n k d : Nat) : Int := ((d : Nat) : Int) ^ k + (if d * d = n then 0 else ((n / d : Nat) : Int) ^ k)
def pvS (n k r : Nat) : Int := sm (fun i => if (i + 1) ∣ n then pr1 n k (i + 1) else 0) r
def DV (n k : Nat) : Int := pvS n k (rt n)
theorem rt_eq {n r : Nat} (h1 : r * r ≤ n) (h2 : n < (r + 1) * (r + 1)) : r = rt n := by
  have s := PySem.Float64.isqrt_spec n
  have s1 : rt n * rt n ≤ n := s.1
  have s2 : n < (rt n + 1) * (rt n + 1) := s.2
  have a : r < rt n + 1 := by
    refine Nat.lt_of_not_le fun z => ?_
    have := Nat.mul_le_mul z z
    omega
  have b : rt n < r + 1 := by
    refine Nat.lt_of_not_le fun z => ?_
    have := Nat.mul_le_mul z z
    omega
  omega
/-- the divisors to r -/
def sml (n : Nat) : Nat → List Int
  | 0 => []
  | r + 1 => sml n r ++ (if (r + 1) ∣ n then [((r + 1 : Nat) : Int)] else [])
theorem sml_len (n : Nat) : ∀ r, (sml n r).length ≤ r
  | 0 => Nat.le_refl _
  | r + 1 => by
    show (sml n r ++ _).length ≤ r + 1
    rw [List.length_append]
    have := sml_len n r
    split
    · simp; omega
    · simp; omega
theorem sml_mem (n : Nat) : ∀ r, ∀ z ∈ sml n r, ∃ d : Nat, z = (d : Int) ∧ 1 ≤ d ∧ d ≤ r ∧ d ∣ n
  | 0, z, h => by cases h
  | r + 1, z, h => by
    rcases List.mem_append.mp h with h | h
    · obtain ⟨d, e, a, b, c⟩ := sml_mem n r z h
      exact ⟨d, e, a, by omega, c⟩
    · split at h
      · rename_i c
        rw [List.mem_singleton.mp h]
        exact ⟨r + 1, rfl, by omega, by omega, c⟩
      · cases h
def lrgOf (n : Nat) (l : List Int) : List Int := (l.filter fun d => decide (d * d ≠ (n : Int))).map fun d => ((n : Int)).fdiv d
theorem pvS_sum (n k : Nat) : ∀ r, ((sml n r).map (· ^ k)).sum + ((lrgOf n (sml n r).reverse).map (· ^ k)).sum = pvS n k r
  | 0 => rfl
  | r + 1 => by
    have ih := pvS_sum n k r
    show (((sml n r ++ _)).map (· ^ k)).sum + ((lrgOf n (sml n r ++ _).reverse).map (· ^ k)).sum = pvS n k r + (if (r + 1) ∣ n then pr1 n k (r + 1) else 0)
    by_cases c : (r + 1) ∣ n
    · rw [if_pos c, if_pos c, List.map_append, List.sum_append, List.reverse_append]
      show _ + (((r + 1 : Nat) : Int) ^ k + 0) + ((lrgOf n ([((r + 1 : Nat) : Int)] ++ (sml n r).reverse)).map (· ^ k)).sum = _
      unfold lrgOf at ih ⊢
      rw [List.filter_append, List.map_append, List.map_append, List.sum_append]
      unfold pr1
      have key : (List.map (· ^ k) (List.map (fun d => ((n : Int)).fdiv d) (List.filter (fun d => decide (d * d ≠ (n : Int))) [((r + 1 : Nat) : Int)]))).sum = if (r + 1) * (r + 1) = n then 0 else ((n / (r + 1) : Nat) : Int) ^ k := by
        by_cases e : (r + 1) * (r + 1) = n
        · rw [if_pos e, List.filter_cons_of_neg (fun z => (of_decide_eq_true z) (by exact_mod_cast e))]
          rfl
        · rw [if_neg e, List.filter_cons_of_pos (by
            simp only [decide_eq_true_eq, ne_eq]
            exact_mod_cast e)]
          show (((n : Int)).fdiv ((r + 1 : Nat) : Int)) ^ k + 0 = _
          rw [Int.add_zero]
          congr 1
          rw [Int.fdiv_eq_ediv_of_nonneg _ (by omega)]
          exact (Int.natCast_ediv n (r + 1)).symm
      rw [key]
      omega
    · rw [if_neg c, if_neg c, List.append_nil]
      omega
theorem sgm_at (n k : Nat) {j : Nat} (h : n ≤ j) (hn : 1 ≤ n) : sm (fun i => ((i + 1 : Nat) : Int) ^ k * Ev (i + 1) n) j = sgm n k := by
  obtain ⟨t, rfl⟩ : ∃ t, j = n + t := ⟨j - n, by omega⟩
  have e : ∀ t, sm (fun i => ((i + 1 : Nat) : Int) ^ k * Ev (i + 1) n) (n + t) = sm (fun i => ((i + 1 : Nat) : Int) ^ k * Ev (i + 1) n) n := by
    intro t
    induction t with
    | zero => rfl
    | succ t ih =>
      show sm _ (n + t) + ((n + t + 1 : Nat) : Int) ^ k * Ev (n + t + 1) n = _
      have z : Ev (n + t + 1) n = 0 := by
        unfold Ev
        rw [if_neg]
        rintro ⟨_, d⟩
        have := Nat.le_of_dvd hn d
        omega
      rw [z, Int.mul_zero, Int.add_zero, ih]
  rw [e]
  unfold sgm
  refine sm_congr _ fun i hi => ?_
  unfold Ev
  by_cases c : (i + 1) ∣ n
  · rw [if_pos ⟨by omega, c⟩, if_pos c, Int.mul_one]
  · rw [if_neg (fun z => c z.2), if_neg c, Int.mul_zero]
def eS (c : Int) (e j : Nat) : S := fun n => one n + sm (fun i => c * ((i + 1 : Nat) : Int) ^ e * Ev (i + 1) n) j
def er (c : Int) (e : Nat) : S := fun n => if n = 0 then 1 else c * sgm n e
theorem eS_er (c : Int) (e m n : Nat) (h : n ≤ m) : eS c e m n = er c e n := by
  unfold eS er one
  have e1 : sm (fun i => c * ((i + 1 : Nat) : Int) ^ e * Ev (i + 1) n) m = c * sm (fun i => ((i + 1 : Nat) : Int) ^ e * Ev (i + 1) n) m := by
    rw [← sm_mul]
    exact sm_congr _ fun i _ => Int.mul_assoc _ _ _
  rw [e1]
  by_cases z : n = 0
  · subst z
    rw [if_pos rfl, if_pos rfl, sm_congr (g := fun _ => 0) m (fun i _ => by
      have : Ev (i + 1) 0 = 0 := by
        unfold Ev
        rw [if_neg (fun z => z.1 rfl)]
      rw [this, Int.mul_zero]), sm_zero, Int.mul_zero, Int.add_zero]
  · rw [if_neg z, if_neg z, sgm_at n e h (by omega), Int.zero_add]
end Ps

set_option Elab.async false
set_option linter.all false
set_option maxRecDepth 100000
set_option maxHeartbeats 4000000
/-! sparse factors and sums -/
namespace Ps
/-- one more at a place -/
def putS (b : S) (p : Nat) (c : Int) : S := fun n => if n = p then b n + c else b n
def pfS (b : S) (n : Nat) (sg : Int) : S := if sg = 1 then putS (putS b n 1) (2 * n) (-1) else putS b n sg
/-- times 1 + c q^e -/
def mulF (b : S) (e : Nat) (c : Int) : S := fun n => b n + (if e ≤ n then c * b (n - e) else 0)
/-- the exponent and the sign at k -/
def ex3 (m s : Nat) (k : Int) : Int := (m : Int) * k * (k - 1) / 2 + (s : Int) * k
def sg3 (sg : Int) (k : Int) : Int := if k % 2 = 1 then sg else 1
def tsm (m s : Nat) (sg lo : Int) (c : Nat) : S := fun n => sm (fun i => if ex3 m s (lo + i) = (n : Int) then sg3 sg (lo + i) else 0) c
/-- of the quintuple product -/
def md5 (m : Nat) (k : Int) : Int := (m : Int) * k * (3 * k + 1) / 2
def ea5 (m s : Nat) (k : Int) : Int := md5 m k - 3 * k * (s : Int)
def eb5 (m s : Nat) (k : Int) : Int := md5 m k + (3 * k + 1) * (s : Int)
def qsm (m s : Nat) (lo : Int) (c : Nat) : S := fun n => sm (fun i => (if ea5 m s (lo + i) = (n : Int) then 1 else 0) + (if eb5 m s (lo + i) = (n : Int) then -1 else 0)) c
theorem sq_nn (k : Int) : 0 ≤ k * k := by
  rcases Int.le_total 0 k with h | h
  · exact Int.mul_nonneg h h
  · exact Int.mul_nonneg_of_nonpos_of_nonpos h h
/-- (k + a) (k + a + 1) is even and not below 0 -/
theorem two_on (k : Int) : ∃ t, k * (k + 1) = 2 * t ∧ 0 ≤ t := by
  have nn : 0 ≤ k * (k + 1) := by
    rcases Int.lt_or_le k 0 with h | h
    · exact Int.mul_nonneg_of_nonpos_of_nonpos (by omega) (by omega)
    · exact Int.mul_nonneg h (by omega)
  rcases (show k % 2 = 0 ∨ k % 2 = 1 by omega) with h | h
  · refine ⟨k / 2 * (k + 1), ?_, ?_⟩
    · have e : k = 2 * (k / 2) := by omega
      rw [← Int.mul_assoc, ← e]
    · have e : k * (k + 1) = 2 * (k / 2 * (k + 1)) := by
        have e : k = 2 * (k / 2) := by omega
        rw [← Int.mul_assoc, ← e]
      omega
  · have e2 : k + 1 = 2 * ((k + 1) / 2) := by omega
    have e : k * (k + 1) = 2 * (k * ((k + 1) / 2)) := by
      rw [Int.mul_left_comm, ← e2]
    exact ⟨k * ((k + 1) / 2), e, by omega⟩
theorem ex3_eq (m s : Nat) (k t : Int) (h : (k - 1) * (k - 1 + 1) = 2 * t) : ex3 m s k = (m : Int) * t + (s : Int) * k := by
  unfold ex3
  have e : (m : Int) * k * (k - 1) = 2 * ((m : Int) * t) := by
    have e1 : k - 1 + 1 = k := by omega
    rw [e1] at h
    rw [Int.mul_assoc, Int.mul_comm k (k - 1), h, Int.mul_left_comm]
  rw [e, Int.mul_ediv_cancel_left _ (by decide)]
theorem ex3_sq {m s : Nat} (h1 : 1 ≤ s) (h2 : s < m) (k : Int) : k * k ≤ ex3 m s k := by
  obtain ⟨t, e, t0⟩ := two_on (k - 1)
  obtain ⟨u, e2, u0⟩ := two_on k
  rw [ex3_eq m s k t e]
  have e1 : k - 1 + 1 = k := by omega
  rw [e1] at e
  have ek : k * k = 2 * t + k := by
    have : (k - 1) * k = k * k - k := by rw [Int.sub_mul, Int.one_mul]
    omega
  have eu : u = t + k := by
    have : k * (k + 1) = k * k + k := by rw [Int.mul_add, Int.mul_one]
    omega
  obtain ⟨r, rfl⟩ : ∃ r, m = s + r := ⟨m - s, by omega⟩
  have a1 : ((s + r : Nat) : Int) * t + (s : Int) * k = (s : Int) * u + (r : Int) * t := by
    rw [eu]
    push_cast
    rw [Int.add_mul, Int.mul_add]
    omega
  rw [a1]
  have b1 : 1 * u ≤ (s : Int) * u := Int.mul_le_mul_of_nonneg_right (by omega) u0
  have b2 : 1 * t ≤ (r : Int) * t := Int.mul_le_mul_of_nonneg_right (by omega) t0
  omega
theorem md5_eq (m : Nat) (k u : Int) (h : k * (3 * k + 1) = 2 * u) : md5 m k = (m : Int) * u := by
  unfold md5
  have e : (m : Int) * k * (3 * k + 1) = 2 * ((m : Int) * u) := by rw [Int.mul_assoc, h, Int.mul_left_comm]
  rw [e, Int.mul_ediv_cancel_left _ (by decide)]
/-- k (3 k + 1) is twice u -/
theorem pent (k : Int) : ∃ u, k * (3 * k + 1) = 2 * u ∧ 0 ≤ u ∧ 2 * u = 3 * (k * k) + k := by
  obtain ⟨t, e, t0⟩ := two_on k
  have q := sq_nn k
  have e1 : k * (k + 1) = k * k + k := by rw [Int.mul_add, Int.mul_one]
  have e2 : k * (3 * k + 1) = 3 * (k * k) + k := by rw [Int.mul_add, Int.mul_one, Int.mul_left_comm]
  refine ⟨t + k * k, ?_, by omega, by omega⟩
  rw [e2]
  omega
theorem ea5_sq {m s : Nat} (h1 : 1 ≤ s) (h2 : 2 * s < m) (k : Int) : k * k ≤ ea5 m s k := by
  obtain ⟨u, e, u0, eu⟩ := pent k
  unfold ea5
  rw [md5_eq m k u e]
  obtain ⟨r, rfl⟩ : ∃ r, m = 2 * s + 1 + r := ⟨m - 2 * s - 1, by omega⟩
  have q := sq_nn k
  -- 3 k k - 2 k is not below 0
  have n1 : k ≤ k * k := by
    rcases Int.lt_or_le k 1 with h | h
    · omega
    · have := Int.mul_le_mul_of_nonneg_right h (show (0 : Int) ≤ k by omega)
      omega
  have a1 : ((2 * s + 1 + r : Nat) : Int) * u - 3 * k * (s : Int) = (s : Int) * (2 * u - 3 * k) + u + (r : Int) * u := by
    push_cast
    rw [Int.add_mul, Int.add_mul, Int.mul_sub, Int.one_mul, Int.mul_comm (3 * k) (s : Int), Int.mul_comm 2 (s : Int), Int.mul_assoc]
    omega
  rw [a1]
  have b1 : 1 * (2 * u - 3 * k) ≤ (s : Int) * (2 * u - 3 * k) := Int.mul_le_mul_of_nonneg_right (by omega) (by omega)
  have b2 : 0 ≤ (r : Int) * u := Int.mul_nonneg (by omega) u0
  omega
theorem eb5_sq {m s : Nat} (h1 : 1 ≤ s) (h2 : 2 * s < m) (k : Int) : k * k ≤ eb5 m s k := by
  obtain ⟨u, e, u0, eu⟩ := pent k
  unfold eb5
  rw [md5_eq m k u e]
  obtain ⟨r, rfl⟩ : ∃ r, m = 2 * s + 1 + r := ⟨m - 2 * s - 1, by omega⟩
  have q := sq_nn k
  have n1 : -k ≤ k * k := by
    rcases Int.lt_or_le (-k) 1 with h | h
    · omega
    · have := Int.mul_le_mul_of_nonneg_right h (show (0 : Int) ≤ -k by omega)
      have e : -k * -k = k * k := Int.neg_mul_neg k k
      omega
  -- (3 k + 1) (k + 1) is not below 0
  have n2 : 0 ≤ 3 * (k * k) + 4 * k + 1 := by
    rcases Int.lt_or_le k 0 with h | h
    · rcases Int.lt_or_le k (-1) with h3 | h3
      · have := Int.mul_le_mul_of_nonneg_right (show (2 : Int) ≤ -k by omega) (show (0 : Int) ≤ -k by omega)
        have e : -k * -k = k * k := Int.neg_mul_neg k k
        omega
      · have : k = -1 := by omega
        subst this
        decide
    · omega
  have a1 : ((2 * s + 1 + r : Nat) : Int) * u + (3 * k + 1) * (s : Int) = (s : Int) * (2 * u + (3 * k + 1)) + u + (r : Int) * u := by
    push_cast
    rw [Int.add_mul, Int.add_mul, Int.mul_add, Int.one_mul, Int.mul_comm (3 * k + 1) (s : Int), Int.mul_comm 2 (s : Int), Int.mul_assoc]
    omega
  rw [a1]
  have b1 : 1 * (2 * u + (3 * k + 1)) ≤ (s : Int) * (2 * u + (3 * k + 1)) := Int.mul_le_mul_of_nonneg_right (by omega) (by omega)
  have b2 : 0 ≤ (r : Int) * u := Int.mul_nonneg (by omega) u0
  rcases Int.lt_or_le k 0 with h | h
  · rcases Int.lt_or_le k (-1) with h3 | h3
    · have := Int.mul_le_mul_of_nonneg_right (show (2 : Int) ≤ -k by omega) (show (0 : Int) ≤ -k by omega)
      have e : -k * -k = k * k := Int.neg_mul_neg k k
      omega
    · have : k = -1 := by omega
      subst this
      omega
  · omega
/-- sums from -R to R: those beyond are 0 -/
theorem sm_wide (f : Int → Int) (R : Nat) : ∀ d, (∀ k : Int, (R : Int) < k ∨ k < -(R : Int) → f k = 0) → sm (fun i => f (-((R + d : Nat) : Int) + i)) (2 * (R + d) + 1) = sm (fun i => f (-(R : Int) + i)) (2 * R + 1)
  | 0, _ => rfl
  | d + 1, h => by
    rw [← sm_wide f R d h]
    have e1 : 2 * (R + (d + 1)) + 1 = (2 * (R + d) + 1 + 1) + 1 := by omega
    rw [e1, sm_first]
    show f _ + (sm _ (2 * (R + d) + 1) + f _) = _
    rw [h _ (.inr (by omega)), h _ (.inl (by omega)), Int.zero_add, Int.add_zero]
    refine sm_congr _ fun i _ => congrArg f ?_
    omega
end Ps

set_option Elab.async false
set_option linter.all false
set_option maxRecDepth 100000
set_option maxHeartbeats 4000000
/-! products of factors 1 - q^e, 1 + q^e, by their exponents -/
namespace Ps
theorem GU {n : Nat} (hn : 0 < n) (f : S) : cv (G n) (cv (U n) f) = f := by rw [← cv_assoc, cv_comm (G n), UG hn, one_cv]
theorem mulF_neg {e : Nat} (h : 0 < e) (f : S) : mulF f e (-1) = cv (U e) f := by
  rw [cv_U h]
  funext k
  show f k + (if e ≤ k then -1 * f (k - e) else 0) = f k - (if e ≤ k then f (k - e) else 0)
  split <;> omega
theorem mulF_pos {e : Nat} (h : 0 < e) (f : S) : mulF f e 1 = cv (U (2 * e)) (cv (G e) f) := by
  refine cancelU h ?_
  have e1 : cv (U e) (cv (U (2 * e)) (cv (G e) f)) = cv (U (2 * e)) f := by
    rw [← cv_assoc, cv_comm (U e) (U (2 * e)), cv_assoc, ← cv_assoc (U e) (G e), UG h, one_cv]
  rw [e1, cv_U h, cv_U (by omega)]
  funext k
  show f k + (if e ≤ k then 1 * f (k - e) else 0) - (if e ≤ k then f (k - e) + (if e ≤ k - e then 1 * f (k - e - e) else 0) else 0) = f k - (if 2 * e ≤ k then f (k - 2 * e) else 0)
  by_cases c : e ≤ k
  · rw [if_pos c, if_pos c]
    by_cases d : 2 * e ≤ k
    · have ek : k - e - e = k - 2 * e := by omega
      rw [if_pos d, if_pos (by omega), ek]
      omega
    · rw [if_neg d, if_neg (by omega)]
      omega
  · rw [if_neg c, if_neg c, if_neg (by omega)]
    omega
def shf (b : S) : S := fun i => b (i + 1)
theorem sS_congr' {p p' : S} : ∀ j, (∀ i, i < j → p i = p' i) → sS p j = sS p' j
  | 0, _ => rfl
  | j + 1, h => by
    show ad (sS p j) (sc (((j + 1 : Nat) : Int) * p j) (Ev (j + 1))) = ad (sS p' j) (sc (((j + 1 : Nat) : Int) * p' j) (Ev (j + 1)))
    rw [sS_congr' j (fun i hi => h i (by omega)), h j (by omega)]
theorem put_far {b : S} {e M : Nat} {c : Int} (h : M < e) : sS (shf (putS b e c)) M = sS (shf b) M := sS_congr' M fun i hi => by
  show (if i + 1 = e then _ else b (i + 1)) = b (i + 1)
  rw [if_neg (by omega)]
theorem put_near {b : S} {e : Nat} {c : Int} (h0 : 0 < e) : ∀ M, e ≤ M → sS (shf (putS b e c)) M = ad (sS (shf b) M) (sc ((e : Int) * c) (Ev e))
  | 0, h => absurd h (by omega)
  | j + 1, h => by
    show ad (sS (shf (putS b e c)) j) (sc (((j + 1 : Nat) : Int) * (if j + 1 = e then b (j + 1) + c else b (j + 1))) (Ev (j + 1))) = ad (ad (sS (shf b) j) (sc (((j + 1 : Nat) : Int) * b (j + 1)) (Ev (j + 1)))) (sc ((e : Int) * c) (Ev e))
    by_cases q : j + 1 = e
    · subst q
      rw [put_far (by omega), if_pos rfl]
      funext k
      show _ + _ * _ = _ + _ * _ + _ * _
      rw [Int.mul_add, Int.add_mul]
      omega
    · rw [put_near h0 j (by omega), if_neg q]
      funext k
      show _ + _ + _ = _ + _ + _
      omega
/-- the powers b (up to M) make up the product A (up to M) -/
def PI (M : Nat) (b A : S) : Prop := ∃ A', Lg (sS (shf b) M) A' ∧ A' 0 = 1 ∧ ∀ n, n ≤ M → A' n = A n
theorem mulF_far {A : S} {e n : Nat} {c : Int} (h : n < e) : mulF A e c n = A n := by
  show A n + (if e ≤ n then _ else 0) = A n
  rw [if_neg (by omega), Int.add_zero]
theorem mulF_congr {A A' : S} {e M : Nat} {c : Int} (h : ∀ n, n ≤ M → A' n = A n) : ∀ n, n ≤ M → mulF A' e c n = mulF A e c n := fun n hn => by
  show A' n + (if e ≤ n then c * A' (n - e) else 0) = A n + (if e ≤ n then c * A (n - e) else 0)
  rw [h n hn, h (n - e) (by omega)]
theorem mulF_zero {A : S} {e : Nat} {c : Int} (h : 0 < e) : mulF A e c 0 = A 0 := mulF_far h
theorem PI.start (M : Nat) : PI M (fun _ => 0) one := by
  refine ⟨one, ?_, rfl, fun _ _ => rfl⟩
  have e : ∀ j, sS (shf fun _ => (0 : Int)) j = fun _ => 0 := fun j => by
    induction j with
    | zero => rfl
    | succ j ih =>
      show ad (sS (shf fun _ => (0 : Int)) j) (sc (((j + 1 : Nat) : Int) * 0) (Ev (j + 1))) = _
      rw [ih]
      funext k
      show 0 + ((j + 1 : Nat) : Int) * 0 * _ = 0
      rw [Int.mul_zero, Int.zero_mul]
      rfl
  rw [e]
  exact Lg.one
theorem PI.neg {M e : Nat} {b A : S} (p : PI M b A) (h : 0 < e) : PI M (pfS b e (-1)) (mulF A e (-1)) := by
  obtain ⟨A', L, z, a⟩ := p
  have ep : pfS b e (-1) = putS b e (-1) := by
    unfold pfS
    rw [if_neg (by decide)]
  rw [ep]
  by_cases c : e ≤ M
  · refine ⟨mulF A' e (-1), ?_, by rw [mulF_zero h, z], mulF_congr a⟩
    rw [mulF_neg h, put_near h M c]
    have e1 : (e : Int) * -1 = -(e : Int) := by omega
    rw [e1]
    exact L.neg h
  · exact ⟨A', by rw [put_far (by omega)]; exact L, z, fun n hn => by rw [mulF_far (by omega), a n hn]⟩
theorem PI.pos {M e : Nat} {b A : S} (p : PI M b A) (h : 0 < e) : PI M (pfS b e 1) (mulF A e 1) := by
  obtain ⟨A', L, z, a⟩ := p
  have ep : pfS b e 1 = putS (putS b e 1) (2 * e) (-1) := by
    unfold pfS
    rw [if_pos rfl]
  rw [ep]
  by_cases c : e ≤ M
  · have L1 : Lg (sS (shf (putS b e 1)) M) (cv (G e) A') := by
      rw [put_near h M c, Int.mul_one]
      exact L.pos h
    by_cases d : 2 * e ≤ M
    · refine ⟨mulF A' e 1, ?_, by rw [mulF_zero h, z], mulF_congr a⟩
      rw [mulF_pos h, put_near (by omega) M d]
      have e1 : ((2 * e : Nat) : Int) * -1 = -((2 * e : Nat) : Int) := by omega
      rw [e1]
      exact L1.neg (by omega)
    · have e2 : ∀ n, n ≤ M → cv (G e) A' n = mulF A' e 1 n := fun n hn => by
        rw [mulF_pos h, cv_U (by omega)]
        show _ = cv (G e) A' n - (if 2 * e ≤ n then _ else 0)
        rw [if_neg (by omega), Int.sub_zero]
      refine ⟨cv (G e) A', by rw [put_far (by omega)]; exact L1, ?_, fun n hn => ?_⟩
      · rw [e2 0 (Nat.zero_le _), mulF_zero h, z]
      · rw [e2 n hn, mulF_congr a n hn]
  · refine ⟨A', ?_, z, fun n hn => by rw [mulF_far (by omega), a n hn]⟩
    rw [put_far (by omega), put_far (by omega)]
    exact L
theorem PI.sg {M e : Nat} {b A : S} {sg : Int} (p : PI M b A) (h : 0 < e) (hs : sg = 1 ∨ sg = -1) : PI M (pfS b e sg) (mulF A e sg) := by
  rcases hs with rfl | rfl
  · exact p.pos h
  · exact p.neg h
theorem PI.row {M : Nat} {b A : S} (p : PI M b A) {q : S} (hq : ∀ i, i < M → q i = b (i + 1)) : ∀ n, n ≤ M → prA q M n = A n := by
  obtain ⟨A', L, z, a⟩ := p
  have e : sS (shf b) M = sS q M := sS_congr' M fun i hi => (hq i hi).symm
  rw [e] at L
  intro n hn
  rw [← a n hn]
  refine lg_uniq (lg_prA q M) (b := A') (N := M) (by rw [prA_zero, z]) (fun n _ => ?_) n hn
  exact L.at_ (n + 1)
/-- sizes -/
theorem put_le {b : S} {e c : Nat} {s : Int} (h : ∀ n, (b n).natAbs ≤ c) (hs : s.natAbs ≤ 1) (n : Nat) : (putS b e s n).natAbs ≤ c + 1 := by
  have := h n
  show (if n = e then b n + s else b n).natAbs ≤ _
  split <;> omega
theorem pf_le {b : S} {e c : Nat} {s : Int} (h : ∀ n, (b n).natAbs ≤ c) (hs : s = 1 ∨ s = -1) (n : Nat) : (pfS b e s n).natAbs ≤ c + 2 := by
  unfold pfS
  split
  · exact put_le (put_le h (by decide)) (by decide) n
  · have := put_le (e := e) (s := s) h (by omega) n
    omega
/-- the first factors of a family -/
def famF (b : S) (e st : Nat) (sg : Int) : Nat → S
  | 0 => b
  | j + 1 => mulF (famF b e st sg j) (e + j * st) sg
/-- by families (exponent, step, sign), each with c e st factors -/
def prF (c : Nat → Nat → Nat) (fs : List (Nat × Nat × Int)) : Nat → S
  | 0 => one
  | i + 1 => famF (prF c fs i) (fs.getD i (1, 1, 1)).1 (fs.getD i (1, 1, 1)).2.1 (fs.getD i (1, 1, 1)).2.2 (c (fs.getD i (1, 1, 1)).1 (fs.getD i (1, 1, 1)).2.1)
end Ps

set_option Elab.async false
set_option linter.all false
set_option maxRecDepth 100000
set_option maxHeartbeats 4000000
set_option exponentiation.threshold 500000
/-! rows as one great number: coefficients below 2^200, 110 of them -/
namespace Ps
abbrev Bq : Int := 2 ^ 200
abbrev Mq : Int := 2 ^ 22000
def en (f : S) (N : Nat) : Int := sm (fun i => f i * Bq ^ i) N
theorem Bq_pow (N : Nat) : Bq ^ N = 2 ^ (200 * N) := by
  show ((2 : Int) ^ 200) ^ N = _
  rw [← Int.pow_mul]
theorem Mq_eq : Mq = Bq ^ 110 := by rw [Bq_pow]
/-- great numbers tell their coefficients -/
theorem en_zero : ∀ (N : Nat) (h : S), (∀ i, i < N → (h i).natAbs < 2 ^ 200) → Bq ^ N ∣ en h N → ∀ i, i < N → h i = 0
  | 0, h, _, _, i, hi => absurd hi (Nat.not_lt_zero i)
  | N + 1, h, hb, hd, i, hi => by
    have e1 : en h (N + 1) = h 0 + Bq * en (fun i => h (i + 1)) N := by
      unfold en
      rw [sm_first, ← sm_mul]
      show h 0 * Bq ^ 0 + _ = _
      rw [Int.pow_zero, Int.mul_one]
      congr 1
      refine sm_congr _ fun i _ => ?_
      show h (i + 1) * Bq ^ (i + 1) = Bq * (h (i + 1) * Bq ^ i)
      rw [Int.pow_succ, Int.mul_comm (Bq ^ i) Bq, Int.mul_left_comm]
    rw [e1, Int.pow_succ, Int.mul_comm] at hd
    have d0 : Bq ∣ h 0 := by
      have d1 : Bq ∣ h 0 + Bq * en (fun i => h (i + 1)) N := Int.dvd_trans (Int.dvd_mul_right Bq (Bq ^ N)) hd
      exact (Int.dvd_add_left (Int.dvd_mul_right Bq _)).mp d1
    have z0 : h 0 = 0 := by
      have b0 := hb 0 (by omega)
      have d2 : Bq.natAbs ∣ (h 0).natAbs := Int.natAbs_dvd_natAbs.mpr d0
      have e2 : Bq.natAbs = 2 ^ 200 := by decide
      rw [e2] at d2
      have := Nat.eq_zero_of_dvd_of_lt d2 b0
      omega
    rw [z0, Int.zero_add] at hd
    have d3 : Bq ^ N ∣ en (fun i => h (i + 1)) N := Int.dvd_of_mul_dvd_mul_left (show Bq ≠ 0 by decide) hd
    have ih := en_zero N (fun i => h (i + 1)) (fun i hi => hb (i + 1) (by omega)) d3
    cases i with
    | zero => exact z0
    | succ i => exact ih i (by omega)
theorem en_sub (f g : S) : ∀ N, en (fun i => f i - g i) N = en f N - en g N
  | 0 => rfl
  | N + 1 => by
    show en (fun i => f i - g i) N + (f N - g N) * Bq ^ N = (en f N + f N * Bq ^ N) - (en g N + g N * Bq ^ N)
    rw [en_sub f g N, Int.sub_mul]
    omega
theorem en_add (f g : S) : ∀ N, en (fun i => f i + g i) N = en f N + en g N
  | 0 => rfl
  | N + 1 => by
    show en (fun i => f i + g i) N + (f N + g N) * Bq ^ N = (en f N + f N * Bq ^ N) + (en g N + g N * Bq ^ N)
    rw [en_add f g N, Int.add_mul]
    omega
theorem en_congr {f g : S} (N : Nat) (h : ∀ i, i < N → f i = g i) : en f N = en g N := sm_congr N fun i hi => by rw [h i hi]
theorem en_uniq {f g : S} {N : Nat} (hf : ∀ i, (f i).natAbs < 2 ^ 190) (hg : ∀ i, (g i).natAbs < 2 ^ 190) (hd : Bq ^ N ∣ en f N - en g N) : ∀ i, i < N → f i = g i := fun i hi => by
  have e1 : (2 : Nat) ^ 190 + 2 ^ 190 ≤ 2 ^ 200 := by decide
  have z := en_zero N (fun i => f i - g i) (fun i _ => by
    have h1 := hf i
    have h2 := hg i
    show (f i - g i).natAbs < _
    omega) (by rw [en_sub]; exact hd) i hi
  have z2 : f i - g i = 0 := z
  omega
/-- a factor -/
theorem en_mulF {f : S} {e N : Nat} {c : Int} (he : e ≤ N) : Bq ^ N ∣ en (mulF f e c) N - en f N * (1 + c * Bq ^ e) := by
  obtain ⟨r, rfl⟩ : ∃ r, N = e + r := ⟨N - e, by omega⟩
  have e1 : en (mulF f e c) (e + r) = en f (e + r) + c * Bq ^ e * en f r := by
    have a1 : en (mulF f e c) (e + r) = en f (e + r) + en (fun n => if e ≤ n then c * f (n - e) else 0) (e + r) := en_add f _ (e + r)
    have a2 : en (fun n => if e ≤ n then c * f (n - e) else 0) (e + r) = c * Bq ^ e * en f r := by
      unfold en
      rw [sm_split]
      have b1 : sm (fun i => (if e ≤ i then c * f (i - e) else 0) * Bq ^ i) e = 0 := by
        rw [sm_congr (g := fun _ => 0) e (fun i hi => by rw [if_neg (by omega), Int.zero_mul]), sm_zero]
      rw [b1, Int.zero_add, ← sm_mul]
      refine sm_congr r fun i _ => ?_
      dsimp only
      rw [if_pos (by omega)]
      have b2 : e + i - e = i := by omega
      rw [b2, Int.pow_add, Int.mul_assoc, Int.mul_assoc, Int.mul_left_comm (f i)]
    rw [a1, a2]
  have e2 : en f (e + r) = en f r + Bq ^ r * en (fun i => f (r + i)) e := by
    unfold en
    rw [Nat.add_comm e r, sm_split, ← sm_mul]
    congr 1
    refine sm_congr e fun i _ => ?_
    rw [Int.pow_add, Int.mul_left_comm]
  refine ⟨-(c * en (fun i => f (r + i)) e), ?_⟩
  rw [e1, Int.mul_add, Int.mul_one, Int.pow_add]
  have e3 : en f (e + r) * (c * Bq ^ e) = c * Bq ^ e * en f r + Bq ^ e * Bq ^ r * (c * en (fun i => f (r + i)) e) := by
    rw [e2, Int.add_mul, Int.mul_comm (en f r)]
    congr 1
    rw [Int.mul_comm, Int.mul_assoc, Int.mul_assoc, Int.mul_left_comm]
    congr 1
    rw [Int.mul_left_comm]
  rw [e3, Int.mul_neg]
  omega
/-- a step of the check -/
def kF (X : Int) (e : Nat) (c : Int) : Int := if e < 110 then (X * (1 + c * Bq ^ e)) % Mq else X
theorem kF_ok {X : Int} {f : S} {e : Nat} {c : Int} (h : Mq ∣ X - en f 110) : Mq ∣ kF X e c - en (mulF f e c) 110 := by
  unfold kF
  by_cases q : e < 110
  · rw [if_pos q]
    have d1 := en_mulF (f := f) (e := e) (N := 110) (c := c) (by omega)
    rw [← Mq_eq] at d1
    have d2 : Mq ∣ (X - en f 110) * (1 + c * Bq ^ e) := Int.dvd_trans h (Int.dvd_mul_right _ _)
    have d3 : Mq ∣ X * (1 + c * Bq ^ e) - (X * (1 + c * Bq ^ e)) % Mq := Int.dvd_self_sub_emod
    rw [Int.sub_mul] at d2
    have d4 := Int.dvd_sub (Int.dvd_sub d2 d1) d3
    have e4 : X * (1 + c * Bq ^ e) % Mq - en (mulF f e c) 110 = (X * (1 + c * Bq ^ e) - en f 110 * (1 + c * Bq ^ e) - (en (mulF f e c) 110 - en f 110 * (1 + c * Bq ^ e)) - (X * (1 + c * Bq ^ e) - X * (1 + c * Bq ^ e) % Mq)) := by omega
    rw [e4]
    exact d4
  · rw [if_neg q, en_congr (f := mulF f e c) (g := f) 110 (fun i hi => mulF_far (by omega))]
    exact h
theorem en_one : en one 110 = 1 := by decide +kernel
theorem mulF_le {f : S} {e k : Nat} {c : Int} (hc : c = 1 ∨ c = -1) (h : ∀ n, (f n).natAbs ≤ 2 ^ k) (n : Nat) : (mulF f e c n).natAbs ≤ 2 ^ (k + 1) := by
  have h1 := h n
  have h2 := h (n - e)
  rw [Nat.pow_succ]
  show (f n + (if e ≤ n then c * f (n - e) else 0)).natAbs ≤ _
  rcases hc with rfl | rfl
  · split <;> omega
  · split <;> omega
/-- one place -/
theorem en_at (v : Int) (x : Int) (h : 0 ≤ x) : en (fun n => if x = (n : Int) then v else 0) 110 = if x < 110 then v * Bq ^ x.toNat else 0 := by
  unfold en
  by_cases c : x < 110
  · rw [if_pos c, sm_one_at (m := x.toNat) _ 110 (by omega) (fun i _ hne => by dsimp only; rw [if_neg (by omega), Int.zero_mul])]
    dsimp only
    rw [if_pos (by omega)]
  · rw [if_neg c, sm_congr (g := fun _ => 0) 110 (fun i hi => by dsimp only; rw [if_neg (by omega), Int.zero_mul]), sm_zero]
end Ps

set_option Elab.async false
set_option linter.all false
set_option maxRecDepth 100000
set_option maxHeartbeats 4000000
set_option pp.deepTerms false
set_option pp.maxSteps 3000
namespace Dr
open PySem PySem.Spec PyProof.Rows L2
abbrev FnP (K : PySem.W.Frag) (x : Str) (st : Stmt) (f : Addr) (fd : FuncData) : Prop := FunD K x x (defArgs st) (defBody st) (defScope st) [] [] f fd
/-! ### the draw: a dict of four entries, two lists -/
def kLarge : Key := Sum.inr "large"
def kCells : Key := Sum.inr "cells"
def kRest : Key := Sum.inr "rest"
def kTurn : Key := Sum.inr "turn"
def drK (l c : Addr) (r t : Int) : List (Key × V) := [(kLarge, .ref l), (kCells, .ref c), (kRest, .int r), (kTurn, .int t)]
theorem k12 : ¬ kLarge = kCells := by decide +kernel
theorem k13 : ¬ kLarge = kRest := by decide +kernel
theorem k14 : ¬ kLarge = kTurn := by decide +kernel
theorem k23 : ¬ kCells = kRest := by decide +kernel
theorem k24 : ¬ kCells = kTurn := by decide +kernel
theorem k34 : ¬ kRest = kTurn := by decide +kernel
section
variable {l c : Addr} {r t z : Int}
theorem get_large : valV (drK l c r t) kLarge = some (.ref l) := valV_pos rfl
theorem get_cells : valV (drK l c r t) kCells = some (.ref c) := (valV_neg k12).trans (valV_pos rfl)
theorem get_rest : valV (drK l c r t) kRest = some (.int r) := (valV_neg k13).trans ((valV_neg k23).trans (valV_pos rfl))
theorem get_turn : valV (drK l c r t) kTurn = some (.int t) := (valV_neg k14).trans ((valV_neg k24).trans ((valV_neg k34).trans (valV_pos rfl)))
theorem put_rest : putK (drK l c r t) kRest (.int z) = drK l c z t := by
  have h1 := k13
  have h2 := k23
  have h3 : ¬ kTurn = kRest := fun e => k34 e.symm
  simp [putK, drK, h1, h2, h3]
theorem put_turn : putK (drK l c r t) kTurn (.int z) = drK l c r z := by
  have h1 := k14
  have h2 := k24
  have h3 := k34
  simp [putK, drK, h1, h2, h3]
end
/-- the draw at d, its lists at l and c -/
structure DrawAt (H : Hp) (d l c : Addr) (ls cs : List Int) (r t : Int) : Prop where
  dd : H d = some (.dK (drK l c r t))
  dl : H l = some (.lst (ls.map V.int))
  dc : H c = some (.lst (cs.map V.int))
  lc : l ≠ c
/-- all but d and l stays -/
def SameX (d l : Addr) (H H' : Hp) : Prop := ∀ b o, H b = some o → b ≠ d → b ≠ l → H' b = some o
/-- a draw at d (its list at l): what the callers keep -/
def Draw (H : Hp) (d l c : Addr) : Prop := ∃ ls cs r t, DrawAt H d l c ls cs r t
theorem SameX.refl (d l : Addr) (H : Hp) : SameX d l H H := fun _ _ e _ _ => e
theorem SameX.trans {d l : Addr} {H H1 H2 : Hp} (a : SameX d l H H1) (b : SameX d l H1 H2) : SameX d l H H2 := fun c o e n1 n2 => b c o (a c o e n1 n2) n1 n2
theorem SameX.of {d l : Addr} {H H' : Hp} (a : Same H H') : SameX d l H H' := fun c o e _ _ => a c o e
theorem DrawAt.nl {H : Hp} {d l c : Addr} {ls cs : List Int} {r t : Int} (D : DrawAt H d l c ls cs r t) : d ≠ l := ne_of D.dd D.dl (fun z => by cases z)
theorem DrawAt.nc {H : Hp} {d l c : Addr} {ls cs : List Int} {r t : Int} (D : DrawAt H d l c ls cs r t) : d ≠ c := ne_of D.dd D.dc (fun z => by cases z)
theorem DrawAt.same {H H' : Hp} {d l c : Addr} {ls cs : List Int} {r t : Int} (D : DrawAt H d l c ls cs r t) (s : Same H H') : DrawAt H' d l c ls cs r t := ⟨s _ _ D.dd, s _ _ D.dl, s _ _ D.dc, D.lc⟩
theorem Draw.same {H H' : Hp} {d l c : Addr} (D : Draw H d l c) (s : Same H H') : Draw H' d l c := by
  obtain ⟨ls, cs, r, t, D⟩ := D
  exact ⟨ls, cs, r, t, D.same s⟩
theorem Draw.put {H : Hp} {d l c p : Addr} {o : HO} (D : Draw H d l c) (h1 : p ≠ d) (h2 : p ≠ l) (h3 : p ≠ c) : Draw (upd H p o) d l c := by
  obtain ⟨ls, cs, r, t, D⟩ := D
  exact ⟨ls, cs, r, t, by rw [upd_ne h1.symm]; exact D.dd, by rw [upd_ne h2.symm]; exact D.dl, by rw [upd_ne h3.symm]; exact D.dc, D.lc⟩
theorem Draw.ne {H : Hp} {d l c p : Addr} (D : Draw H d l c) (n : H p = none) : p ≠ d ∧ p ≠ l ∧ p ≠ c := by
  obtain ⟨ls, cs, r, t, D⟩ := D
  exact ⟨(ne_of_none D.dd n).symm, (ne_of_none D.dl n).symm, (ne_of_none D.dc n).symm⟩
theorem DrawAt.rest {H : Hp} {d l c : Addr} {ls cs : List Int} {r t : Int} (D : DrawAt H d l c ls cs r t) (z : Int) : DrawAt (upd H d (.dK (drK l c z t))) d l c ls cs z t :=
  ⟨upd_same, by rw [upd_ne D.nl.symm]; exact D.dl, by rw [upd_ne D.nc.symm]; exact D.dc, D.lc⟩
theorem DrawAt.turn {H : Hp} {d l c : Addr} {ls cs : List Int} {r t : Int} (D : DrawAt H d l c ls cs r t) (z : Int) : DrawAt (upd H d (.dK (drK l c r z))) d l c ls cs r z :=
  ⟨upd_same, by rw [upd_ne D.nl.symm]; exact D.dl, by rw [upd_ne D.nc.symm]; exact D.dc, D.lc⟩
theorem DrawAt.pop {H : Hp} {d l c : Addr} {ls ls' cs : List Int} {r t : Int} (D : DrawAt H d l c ls cs r t) : DrawAt (upd H l (.lst (ls'.map V.int))) d l c ls' cs r t :=
  ⟨by rw [upd_ne D.nl]; exact D.dd, upd_same, by rw [upd_ne D.lc.symm]; exact D.dc, D.lc⟩
theorem sameX_d {H : Hp} {d l : Addr} {o : HO} : SameX d l H (upd H d o) := fun b o e n1 n2 => by rw [upd_ne n1]; exact e
theorem sameX_l {H : Hp} {d l : Addr} {o : HO} : SameX d l H (upd H l o) := fun b o e n1 n2 => by rw [upd_ne n2]; exact e
theorem sameX_new {H : Hp} {d l p : Addr} {o : HO} (n : H p = none) : SameX d l H (upd H p o) := fun b o e n1 n2 => by rw [upd_ne (ne_of_none e n)]; exact e
theorem same_new {H : Hp} {p : Addr} {o : HO} (n : H p = none) : Same H (upd H p o) := fun b o e => by rw [upd_ne (ne_of_none e n)]; exact e
theorem int_at {ns : List Int} {i : Nat} {x : V} (h : (ns.map V.int)[i]? = some x) : ∃ z, ns[i]? = some z ∧ x = .int z := by
  rw [List.getElem?_map] at h
  cases e : ns[i]? with
  | none =>
    rw [e] at h
    cases h
  | some z =>
    rw [e] at h
    exact ⟨z, rfl, (Option.some.inj h).symm⟩
theorem merge_dr {l c : Addr} {r t : Int} : mergeK [] (drK l c r t) = drK l c r t := by
  have h1 := k12
  have h2 := k13
  have h3 := k14
  have h4 := k23
  have h5 := k24
  have h6 := k34
  simp [mergeK, putK, drK, h1, h2, h3, h4, h5, h6]
theorem yesT {s : L2.St} {H : Hp} {A B : Hp → Prop} (h : A H) : tYes s H (fun b H3 => if b = true then A H3 else B H3) := by
  show if true = true then A H else B H
  rw [if_pos rfl]
  exact h
/-! ### lists of ints as data -/
def intsD (ls : List Int) : List PyData := ls.map PyData.int
theorem ints_lay : ∀ ls : List Int, PyData.canLayAll0 (intsD ls) = true
  | [] => rfl
  | z :: r => by
    show (PyData.canLay0 (.int z) && PyData.canLayAll0 (intsD r)) = true
    rw [ints_lay r]
    rfl
theorem ints_depth : ∀ ls : List Int, PyData.depthAll (intsD ls) = 0
  | [] => rfl
  | z :: r => by
    show max (PyData.depth (.int z)) (PyData.depthAll (intsD r)) = 0
    rw [ints_depth r]
    rfl
theorem ints_shaped (ls : List Int) : SeqAt.shaped (.list (intsD ls)) = true := by
  show (PyData.canLayAll0 (intsD ls) && decide (PyData.depthAll (intsD ls) + 1 ≤ 64)) = true
  rw [ints_lay, ints_depth]
  rfl
theorem ints_dp {K : PySem.W.Frag} {H : Hp} : ∀ ls : List Int, DpAll K H (ls.map V.int) (intsD ls)
  | [] => .nil
  | z :: r => .cons (.int z) (ints_dp r)
def spBegun (K : PySem.W.Frag) : Sp := fun vs H Q _ => ∃ (a : Addr) (ns : List Int), vs = [.ref a] ∧ SqL K H a (ns.map V.int) ∧ ns.length ≤ 1000 ∧
  ∀ (d l c : Addr) (H' : Hp), H d = none → H l = none → H c = none → Same H H' → Draw H' d l c → Q (.ref d) H'
section
variable {H : Hp} {d l c : Addr} {ls cs : List Int} {r t : Int}
theorem DrawAt.gLarge (D : DrawAt H d l c ls cs r t) : DGet H d (.str "large") (some (.ref l)) := by
  have z := DGet.k (k := kLarge) D.dd
  rw [get_large] at z
  exact z
theorem DrawAt.gCells (D : DrawAt H d l c ls cs r t) : DGet H d (.str "cells") (some (.ref c)) := by
  have z := DGet.k (k := kCells) D.dd
  rw [get_cells] at z
  exact z
theorem DrawAt.gRest (D : DrawAt H d l c ls cs r t) : DGet H d (.str "rest") (some (.int r)) := by
  have z := DGet.k (k := kRest) D.dd
  rw [get_rest] at z
  exact z
theorem DrawAt.gTurn (D : DrawAt H d l c ls cs r t) : DGet H d (.str "turn") (some (.int t)) := by
  have z := DGet.k (k := kTurn) D.dd
  rw [get_turn] at z
  exact z
theorem DrawAt.pRest (D : DrawAt H d l c ls cs r t) (z : Int) : DPut H d (.str "rest") (.int z) (upd H d (.dK (drK l c z t))) := by
  have q := DPut.k (k := kRest) (v := .int z) D.dd (by show 4 < sizeLine; decide)
  rw [put_rest] at q
  exact q
theorem DrawAt.pTurn (D : DrawAt H d l c ls cs r t) (z : Int) : DPut H d (.str "turn") (.int z) (upd H d (.dK (drK l c r z))) := by
  have q := DPut.k (k := kTurn) (v := .int z) D.dd (by show 4 < sizeLine; decide)
  rw [put_turn] at q
  exact q
end
def spBlend : Sp := fun vs H Q _ => ∃ (d l c : Addr) (ls cs : List Int) (r t : Int), vs = [.ref d] ∧ DrawAt H d l c ls cs r t ∧
  ∀ (v t' : Int) (H' : Hp), DrawAt H' d l c ls cs r t' → SameX d l H H' → Q (.int v) H'
def spTake : Sp := fun vs H Q _ => ∃ (d l c : Addr) (n : Int), vs = [.ref d, .int n] ∧ Draw H d l c ∧ 0 < n ∧ n.natAbs.log2 < 9000 ∧
  ∀ (v : Int) (H' : Hp), 0 ≤ v → v < n → Draw H' d l c → SameX d l H H' → Q (.int v) H'
theorem pow_small {z q : Int} (h0 : 0 ≤ z) (h1 : z < q) (hq : q ≤ 2147483648) : CPow z 5 := ⟨by decide, by decide, by
  have e : (2 : Nat) ^ 64 = 18446744073709551616 := by decide
  omega⟩
theorem pop_ix (n : Nat) : seqIndex? 0 (n + 1) = some 0 := by
  unfold seqIndex?
  simp
def spPick (K : PySem.W.Frag) : Sp := fun vs H Q _ => ∃ (d l c a : Addr) (xs : List V), vs = [.ref d, .ref a] ∧ Draw H d l c ∧ (∀ H', SameX d l H H' → SqL K H' a xs) ∧ xs ≠ [] ∧ xs.length ≤ 1000 ∧
  ∀ (v : V) (H' : Hp), v ∈ xs → Draw H' d l c → SameX d l H H' → Q v H'
theorem log_small {n : Nat} (h : n ≤ 1000) : ((n : Int)).natAbs.log2 < 9000 := by
  have e : ((n : Int)).natAbs = n := by omega
  rw [e]
  by_cases z : n = 0
  · rw [z]
    decide
  · have k : n.log2 < 10 := (Nat.log2_lt z).mpr (by omega)
    omega
end Dr

set_option Elab.async false
set_option linter.all false
set_option maxRecDepth 100000
set_option maxHeartbeats 4000000
set_option pp.maxSteps 3000
set_option exponentiation.threshold 500000
namespace Xv
open PySem PySem.Spec PyProof.Rows L2
/-- // by any divisor but 0 below 2 ^ 9000 -/
def CDivB (_ j : Int) : Prop := j ≠ 0 ∧ j.natAbs.log2 < 9000
theorem op_fdivB {X : Cx} : OpR X (binaryOp .FloorDiv) (rI CDivB fun i j => .int (i.fdiv j)) := opI fun i j _ _ _ _ _ hc q => floordiv_int hc.1 q (.inl (PyProof.noPylong_of_log2 hc.2))
end Xv
namespace Gn
open PySem PySem.Spec PyProof.Rows L2 Dr Xv LamX Ps
def qL : Str := "law.<locals>.<lambda>"
/-- an error class of the program's own -/
structure ErrT (K : PySem.W.Frag) (C S : Addr) : Prop where
  x : PySem.W.excIn K C [.type "ValueError", .type "Exception", .type "BaseException", .type "object"] "ValueError.__new__" = true
  k : PySem.W.keepIn K (.ref C) = true
  b : PySem.W.subIn K (.ref C) (.type "BaseException") = some true
  t : PySem.W.typeIn K (.ref C) = some (.type "type")
  m : PySem.W.exmOne K (.ref C) (.ref S) = some true
  e : ExcC K C
  i : PySem.W.kitOne K (.ref C) (.ref C) = some true
def rowOf (n : Nat) (b : S) : List V := ((List.range n).map b).map V.int
inductive PV (H : Hp) : V → Prop
  | non : PV H .non
  | bl (b : Bool) : PV H (.bl b)
  | int (i : Int) : PV H (.int i)
  | str (x : Str) : PV H (.str x)
  | lst {a : Addr} {xs : List V} : H a = some (.lst xs) → PV H (.ref a)
  | tup {a : Addr} {xs : List V} : H a = some (.tup xs) → PV H (.ref a)
  | dK {a : Addr} {kvs : List (Key × V)} : H a = some (.dK kvs) → PV H (.ref a)
theorem PV.same {H H' : Hp} {x : V} (h : PV H x) (s : Same H H') : PV H' x := by
  cases h with
  | non => exact .non
  | bl b => exact .bl b
  | int i => exact .int i
  | str x => exact .str x
  | lst e => exact .lst (s _ _ e)
  | tup e => exact .tup (s _ _ e)
  | dK e => exact .dK (s _ _ e)
def isNum : V → Bool
  | .int _ => true
  | _ => false
def kInt : V → Bool
  | .int _ => true
  | .bl _ => true
  | _ => false
def kBool : V → Bool
  | .bl _ => true
  | _ => false
theorem PV.ty {K : PySem.W.Frag} {H : Hp} {x : V} (h : PV H x) : ∃ t, TyX K H x t ∧ PySem.W.kitOne K t (.type "int") = some (kInt x) ∧ PySem.W.kitOne K t (.type "bool") = some (kBool x) := by
  cases h with
  | non => exact ⟨_, .base .non, kit_ty (r := false) (by decide +kernel), kit_ty (r := false) (by decide +kernel)⟩
  | bl b => exact ⟨_, .base (.bl b), kit_ty (r := true) (by decide +kernel), kit_ty (r := true) (by decide +kernel)⟩
  | int i => exact ⟨_, .base (.int i), kit_ty (r := true) (by decide +kernel), kit_ty (r := false) (by decide +kernel)⟩
  | str x => exact ⟨_, .base (.str x), kit_ty (r := false) (by decide +kernel), kit_ty (r := false) (by decide +kernel)⟩
  | lst e => exact ⟨_, .base (.lst e), kit_ty (r := false) (by decide +kernel), kit_ty (r := false) (by decide +kernel)⟩
  | tup e => exact ⟨_, .base (.tup e), kit_ty (r := false) (by decide +kernel), kit_ty (r := false) (by decide +kernel)⟩
  | dK e => exact ⟨_, .base (.dK e), kit_ty (r := false) (by decide +kernel), kit_ty (r := false) (by decide +kernel)⟩
theorem kInt_num (x : V) : (kInt x && !kBool x) = isNum x := by
  cases x <;> rfl
def within (x : V) (lo hi : Int) : Bool := match x with
  | .int i => decide (lo ≤ i) && decide (i ≤ hi)
  | _ => false
inductive Items (H : Hp) : V → Option (List V) → Prop
  | non : Items H .non none
  | bl (b : Bool) : Items H (.bl b) none
  | int (i : Int) : Items H (.int i) none
  | str (x : Str) : Items H (.str x) none
  | lst {a : Addr} {xs : List V} : H a = some (.lst xs) → Items H (.ref a) (some xs)
  | tup {a : Addr} {xs : List V} : H a = some (.tup xs) → Items H (.ref a) (some xs)
  | dK {a : Addr} {kvs : List (Key × V)} : H a = some (.dK kvs) → Items H (.ref a) none
theorem Items.same {H H' : Hp} {x : V} {o : Option (List V)} (h : Items H x o) (s : Same H H') : Items H' x o := by
  cases h with
  | non => exact .non
  | bl b => exact .bl b
  | int i => exact .int i
  | str x => exact .str x
  | lst e => exact .lst (s _ _ e)
  | tup e => exact .tup (s _ _ e)
  | dK e => exact .dK (s _ _ e)
theorem Items.pv {H : Hp} {x : V} {o : Option (List V)} (h : Items H x o) : PV H x := by
  cases h with
  | non => exact .non
  | bl b => exact .bl b
  | int i => exact .int i
  | str x => exact .str x
  | lst e => exact .lst e
  | tup e => exact .tup e
  | dK e => exact .dK e
def AllPV (H : Hp) (o : Option (List V)) : Prop := ∀ xs, o = some xs → ∀ v ∈ xs, PV H v
theorem AllPV.same {H H' : Hp} {o : Option (List V)} (h : AllPV H o) (s : Same H H') : AllPV H' o := fun xs e v hv => (h xs e v hv).same s
theorem take_snoc {α β : Type} {f : α → β} {xs : List α} {i : Nat} {x : α} (h : xs[i]? = some x) : (xs.take i).map f ++ [f x] = (xs.take (i + 1)).map f := by
  obtain ⟨hi, e⟩ := List.getElem?_eq_some_iff.mp h
  rw [List.take_succ, h]
  simp
theorem take_len {α β : Type} {f : α → β} {xs : List α} {i : Nat} : ((xs.take i).map f).length ≤ xs.length := by
  rw [List.length_map, List.length_take]
  omega
def itemsOk (x : Option (List V)) : Bool := match x with
  | some xs => xs.all isNum
  | none => false
def short (o : Option (List V)) : Prop := ∀ xs, o = some xs → xs.length < sizeLine
theorem isi_seq {K : PySem.W.Frag} {H : Hp} {x : V} {o : Option (List V)} (h : Items H x o) : ∃ t, TyX K H x t ∧ PySem.W.kitAny K t [.type "list", .type "tuple"] = some o.isSome := by
  cases h with
  | non => exact ⟨_, .base .non, kitAny_cons (b := false) (kit_ty (by decide +kernel)) (fun _ => kitAny_cons (b := false) (kit_ty (by decide +kernel)) (fun _ => rfl) (fun z => nomatch z)) (fun z => nomatch z)⟩
  | bl b => exact ⟨_, .base (.bl b), kitAny_cons (b := false) (kit_ty (by decide +kernel)) (fun _ => kitAny_cons (b := false) (kit_ty (by decide +kernel)) (fun _ => rfl) (fun z => nomatch z)) (fun z => nomatch z)⟩
  | int i => exact ⟨_, .base (.int i), kitAny_cons (b := false) (kit_ty (by decide +kernel)) (fun _ => kitAny_cons (b := false) (kit_ty (by decide +kernel)) (fun _ => rfl) (fun z => nomatch z)) (fun z => nomatch z)⟩
  | str x => exact ⟨_, .base (.str x), kitAny_cons (b := false) (kit_ty (by decide +kernel)) (fun _ => kitAny_cons (b := false) (kit_ty (by decide +kernel)) (fun _ => rfl) (fun z => nomatch z)) (fun z => nomatch z)⟩
  | lst e => exact ⟨_, .base (.lst e), kitAny_cons (b := true) (kit_ty (by decide +kernel)) (fun z => nomatch z) (fun _ => rfl)⟩
  | tup e => exact ⟨_, .base (.tup e), kitAny_cons (b := false) (kit_ty (by decide +kernel)) (fun _ => kitAny_cons (b := true) (kit_ty (by decide +kernel)) (fun z => nomatch z) (fun _ => rfl)) (fun z => nomatch z)⟩
  | dK e => exact ⟨_, .base (.dK e), kitAny_cons (b := false) (kit_ty (by decide +kernel)) (fun _ => kitAny_cons (b := false) (kit_ty (by decide +kernel)) (fun _ => rfl) (fun z => nomatch z)) (fun z => nomatch z)⟩
def isRow (o : Option (List V)) : Bool := match o with
  | some xs => xs.all isNum && (decide (1 ≤ (xs.length : Int)) && decide ((xs.length : Int) ≤ 3001))
  | none => false
def fnL (ns : List Int) : S := fun i => ns.getD i 0
def tms (f : S) (N : Nat) : List Nat := (List.range N).filter fun i => decide (0 < i) && decide (f i ≠ 0)
theorem tms_succ (f : S) (N : Nat) : tms f (N + 1) = tms f N ++ (if 0 < N ∧ f N ≠ 0 then [N] else []) := by
  unfold tms
  rw [List.range_succ, List.filter_append]
  congr 1
  by_cases h : 0 < N ∧ f N ≠ 0
  · rw [if_pos h, List.filter_cons_of_pos (by simp [h.1, h.2])]
    rfl
  · rw [if_neg h, List.filter_cons_of_neg (by
      simp only [Bool.and_eq_true, decide_eq_true_eq]
      exact h)]
    rfl
theorem tms_lt {f : S} {N i : Nat} (h : i ∈ tms f N) : i < N ∧ 0 < i := by
  unfold tms at h
  rw [List.mem_filter, List.mem_range] at h
  simp only [Bool.and_eq_true, decide_eq_true_eq] at h
  exact ⟨h.1, h.2.1⟩
theorem tms_split (f : S) (n : Nat) : ∀ k, ∃ r, tms f (n + 1 + k) = tms f (n + 1) ++ r ∧ ∀ i ∈ r, n < i
  | 0 => ⟨[], (List.append_nil _).symm, fun i h => by cases h⟩
  | k + 1 => by
    obtain ⟨r, e, h⟩ := tms_split f n k
    refine ⟨r ++ (if 0 < n + 1 + k ∧ f (n + 1 + k) ≠ 0 then [n + 1 + k] else []), ?_, fun i hi => ?_⟩
    · show tms f (n + 1 + k + 1) = _
      rw [tms_succ, e, List.append_assoc]
    · rcases List.mem_append.mp hi with z | z
      · exact h i z
      · split at z
        · rw [List.mem_singleton.mp z]
          omega
        · cases z
theorem tms_sum (f g : S) (hg : ∀ i, f i = 0 → g i = 0) : ∀ n, ((tms f (n + 1)).map g).sum = sm (fun i => g (i + 1)) n
  | 0 => by
    rw [tms_succ]
    show (List.map g ([] ++ _)).sum = 0
    rw [if_neg (by omega)]
    rfl
  | n + 1 => by
    rw [tms_succ, List.map_append, List.sum_append, tms_sum f g hg n]
    show _ = sm (fun i => g (i + 1)) n + g (n + 1)
    congr 1
    by_cases h : f (n + 1) ≠ 0
    · rw [if_pos ⟨by omega, h⟩]
      show g (n + 1) + 0 = _
      omega
    · rw [if_neg (fun z => h z.2), hg (n + 1) (by simpa using h)]
      rfl
theorem take_sum {g : S} {l : List Nat} {j x : Nat} (h : l[j]? = some x) : ((l.take (j + 1)).map g).sum = ((l.take j).map g).sum + g x := by
  rw [List.take_succ, h]
  show ((l.take j ++ [x]).map g).sum = _
  rw [List.map_append, List.sum_append]
  show _ + (g x + 0) = _
  omega
theorem cut_at {A r : List Nat} {N m i : Nat} (hA : ∀ x ∈ A, x ≤ N) (hr : ∀ x ∈ r, N < x) (h : (A ++ r)[m]? = some i) (hi : N < i) (hle : ∀ x ∈ (A ++ r).take m, x ≤ N) : (A ++ r).take m = A := by
  have hm := (List.getElem?_eq_some_iff.mp h).1
  rw [List.length_append] at hm
  have l1 : A.length ≤ m := by
    refine Nat.le_of_not_lt fun hlt => ?_
    rw [List.getElem?_append_left hlt] at h
    have := hA i (List.mem_of_getElem? h)
    omega
  have l2 : m ≤ A.length := by
    refine Nat.le_of_not_lt fun hlt => ?_
    have h0 : 0 < r.length := by omega
    have e : ((A ++ r).take m)[A.length]? = some r[0] := by
      rw [List.getElem?_take, if_pos hlt, List.getElem?_append_right (Nat.le_refl _), Nat.sub_self]
      simp [h0]
    have h1 := hle _ (List.mem_of_getElem? e)
    have h2 := hr r[0] (List.getElem_mem h0)
    omega
  have e : m = A.length := by omega
  rw [e, List.take_left]
theorem cut_end {A r : List Nat} {N : Nat} (hr : ∀ x ∈ r, N < x) (hle : ∀ x ∈ (A ++ r).take (A ++ r).length, x ≤ N) : A ++ r = A := by
  rw [List.take_length] at hle
  cases r with
  | nil => exact List.append_nil _
  | cons x s =>
    have h1 := hle x (by simp)
    have h2 := hr x (by simp)
    omega
theorem iteF' {b : Bool} {A B : Prop} (h : b = false) (q : B) : if b = true then A else B := by
  rw [h]
  exact iteF q
theorem iteT' {b : Bool} {A B : Prop} (h : b = true) (q : A) : if b = true then A else B := by
  rw [h]
  exact iteT q
theorem inV_pm (z : Int) : inV (.int z) [.int 1, .int (-1)] = decide (z = 1 ∨ z = -1) := by
  have e : inV (.int z) [.int 1, .int (-1)] = ((1 == z) || ((-1 == z) || false)) := by
    first
      | rfl
      | (simp [inV, eqV])
  rw [e]
  by_cases h1 : z = 1
  · subst h1
    rfl
  · by_cases h2 : z = -1
    · subst h2
      rfl
    · have e1 : (1 == z) = false := by simpa using fun h => h1 h.symm
      have e2 : (-1 == z) = false := by simpa using fun h => h2 h.symm
      rw [e1, e2, decide_eq_false (fun h => h.elim h1 h2)]
      rfl
theorem items_ref {H : Hp} {x : V} {xs : List V} (h : Items H x (some xs)) : ∃ a, x = .ref a ∧ (H a = some (.lst xs) ∨ H a = some (.tup xs)) := by
  cases h with
  | lst e => exact ⟨_, rfl, .inl e⟩
  | tup e => exact ⟨_, rfl, .inr e⟩
theorem hat {ns : List Int} {i : Nat} (hi : i < ns.length) : (ns.map V.int)[i]? = some (.int (fnL ns i)) := by
  rw [List.getElem?_map]
  unfold fnL
  rw [List.getD_eq_getElem?_getD]
  simp [hi]
theorem nums_of : ∀ {xs : List V}, xs.all isNum = true → ∃ ns : List Int, xs = ns.map V.int
  | [], _ => ⟨[], rfl⟩
  | x :: r, h => by
    rw [List.all_cons, Bool.and_eq_true] at h
    obtain ⟨ns, rfl⟩ := nums_of h.2
    cases x with
    | int z => exact ⟨z :: ns, rfl⟩
    | _ => cases h.1
theorem isRow_ints {o : Option (List V)} (h : isRow o = true) : ∃ ns : List Int, o = some (ns.map V.int) ∧ 1 ≤ ns.length ∧ ns.length ≤ 3001 := by
  cases o with
  | none => cases h
  | some xs =>
    have e1 : (xs.all isNum && (decide (1 ≤ (xs.length : Int)) && decide ((xs.length : Int) ≤ 3001))) = true := h
    simp only [Bool.and_eq_true, decide_eq_true_eq] at e1
    obtain ⟨ns, rfl⟩ := nums_of e1.1
    rw [List.length_map] at e1
    exact ⟨ns, rfl, by omega, by omega⟩
theorem within_int {m : V} {lo hi : Int} (h : within m lo hi = true) : ∃ i, m = .int i ∧ lo ≤ i ∧ i ≤ hi := by
  cases m with
  | int i =>
    have e : (decide (lo ≤ i) && decide (i ≤ hi)) = true := h
    simp only [Bool.and_eq_true, decide_eq_true_eq] at e
    exact ⟨i, rfl, e.1, e.2⟩
  | _ => cases h
theorem fnL_out {ns : List Int} {i : Nat} (h : ns.length ≤ i) : fnL ns i = 0 := by
  unfold fnL
  rw [List.getD_eq_getElem?_getD, List.getElem?_eq_none h]
  rfl
theorem tn {σ : L2.St} {H : Hp} {Q : List V → Hp → Prop} (h : Q [] H) : tNil σ H Q := h
theorem tn0 {v : V} {σ : L2.St} {H : Hp} {Q : List V → Hp → Prop} (h : Q [v] H) : tCons (tC v) tNil σ H Q := h
def zer (n : Nat) : List V := List.replicate n (.int 0)
theorem rep1 {x : V} : ∀ n : Nat, (List.replicate n [x]).flatten = List.replicate n x
  | 0 => rfl
  | n + 1 => by
    rw [List.replicate_succ, List.flatten_cons, rep1 n, List.replicate_succ]
    rfl
theorem row_ext {n : Nat} {b b' : S} (h : ∀ i, i < n → b i = b' i) : rowOf n b = rowOf n b' := by
  unfold rowOf
  congr 1
  exact List.map_congr_left fun i hi => h i (List.mem_range.mp hi)
theorem row_zero {n : Nat} {b : S} (h : ∀ i, i < n → b i = 0) : rowOf n b = zer n := by
  unfold rowOf zer
  refine List.eq_replicate_iff.mpr ⟨by simp, fun v hv => ?_⟩
  obtain ⟨z, hz, rfl⟩ := List.mem_map.mp hv
  obtain ⟨i, hi, rfl⟩ := List.mem_map.mp hz
  rw [h i (List.mem_range.mp hi)]
theorem row_one {n : Nat} (h : 1 ≤ n) : rowOf n one = .int 1 :: zer (n - 1) := by
  obtain ⟨m, rfl⟩ : ∃ m, n = m + 1 := ⟨n - 1, by omega⟩
  unfold rowOf
  rw [List.range_succ_eq_map, List.map_cons, List.map_cons]
  congr 1
  show List.map V.int (List.map one (List.map Nat.succ (List.range m))) = zer (m + 1 - 1)
  refine List.eq_replicate_iff.mpr ⟨by simp, fun v hv => ?_⟩
  obtain ⟨z, hz, rfl⟩ := List.mem_map.mp hv
  obtain ⟨i, hi, rfl⟩ := List.mem_map.mp hz
  obtain ⟨j, _, rfl⟩ := List.mem_map.mp hi
  rfl
theorem row_split {z n : Nat} {b c : S} (h0 : ∀ i, i < z → b i = 0) (h1 : ∀ i, i < n → b (z + i) = c i) : rowOf (z + n) b = zer z ++ rowOf n c := by
  unfold rowOf
  rw [List.range_add, List.map_append, List.map_append]
  congr 1
  · exact row_zero h0
  · refine congrArg (List.map V.int) ?_
    rw [List.map_map]
    exact List.map_congr_left fun i hi => h1 i (List.mem_range.mp hi)
theorem fnL_drop (ns : List Int) (z i : Nat) : fnL (ns.drop z) i = fnL ns (z + i) := by
  unfold fnL
  rw [List.getD_eq_getElem?_getD, List.getD_eq_getElem?_getD, List.getElem?_drop]
theorem fnL_take {ns : List Int} {m i : Nat} (h : i < m) : fnL (ns.take m) i = fnL ns i := by
  unfold fnL
  rw [List.getD_eq_getElem?_getD, List.getD_eq_getElem?_getD, List.getElem?_take, if_pos h]
theorem fnL_sh {ns : List Int} {z : Nat} (h : ∀ i, i < z → fnL ns i = 0) : fnL ns = sh z (fnL (ns.drop z)) := by
  funext i
  unfold sh
  by_cases c : i < z
  · rw [if_pos c, h i c]
  · rw [if_neg c, fnL_drop]
    congr 1
    omega
theorem cut_mid {ns : List Int} {i j : Nat} (h1 : i ≤ ns.length) (h2 : j ≤ ns.length) : cutV (ns.map V.int) (some (i : Int)) (some (j : Int)) = ((ns.drop i).take (j - i)).map V.int := by
  have hi : HT.sIx (ns.map V.int).length 0 (some (i : Int)) = i := by
    rw [List.length_map, HT.sIx_nat]
    omega
  have hj : HT.sIx (ns.map V.int).length (ns.map V.int).length (some (j : Int)) = j := by
    rw [List.length_map, HT.sIx_nat]
    omega
  unfold cutV
  rw [hi, hj, List.map_take, List.map_drop]
theorem blkOk_loc {N : List Str} {sc scope : Scope} {own : List (Str × Nat)} (h : blkC N scope scope own = true) (hf : (scope.names.all fun y => !decide (y.2 = NameKind.free)) = true) : BlkOk N sc scope own := by
  have b := blkOk_by h
  refine ⟨b.kind, b.uniq, b.ix, fun y hy e => ?_, b.own⟩
  have z := List.all_eq_true.mp hf y hy
  rw [decide_eq_true e] at z
  cases z
theorem row_get {n i : Nat} {b : S} (h : i < n) : (rowOf n b)[i]? = some (.int (b i)) := by
  unfold rowOf
  rw [List.getElem?_map, List.getElem?_map, List.getElem?_range h]
  rfl
theorem row_len {n : Nat} {b : S} : (rowOf n b).length = n := by
  unfold rowOf
  rw [List.length_map, List.length_map, List.length_range]
theorem row_succ {n : Nat} {b : S} : rowOf (n + 1) b = rowOf n b ++ [.int (b n)] := by
  unfold rowOf
  rw [List.range_succ, List.map_append, List.map_append]
  rfl
theorem row_self (ns : List Int) : rowOf ns.length (fnL ns) = ns.map V.int := by
  unfold rowOf
  congr 1
  refine List.ext_getElem (by simp) fun i h1 h2 => ?_
  simp at h1
  simp [fnL, h1]
theorem sum_sm (h : S) : ∀ n, ((List.range n).map h).sum = sm h n
  | 0 => rfl
  | n + 1 => by
    rw [List.range_succ, List.map_append, List.sum_append, sum_sm h n]
    show sm h n + (h n + 0) = sm h n + h n
    omega
theorem back_get {ms : List Int} {m i j : Nat} (hm : m ≤ ms.length) (hi : i < m) (hj : j ≤ i) : ((((ms.take m).reverse).drop (m - 1 - i)).map V.int)[j]? = some (.int (fnL ms (i - j))) := by
  have hl : (ms.take m).length = m := by
    rw [List.length_take]
    omega
  rw [List.getElem?_map, List.getElem?_drop, List.getElem?_reverse (by rw [hl]; omega), hl, List.getElem?_take, if_pos (by omega)]
  have e : m - 1 - (m - 1 - i + j) = i - j := by omega
  rw [e]
  unfold fnL
  rw [List.getD_eq_getElem?_getD]
  have h2 : i - j < ms.length := by omega
  simp [h2]
theorem back_len {ms : List Int} {m i : Nat} (hm : m ≤ ms.length) (hi : i < m) : ((((ms.take m).reverse).drop (m - 1 - i)).map V.int).length = i + 1 := by
  rw [List.length_map, List.length_drop, List.length_reverse, List.length_take]
  omega
theorem cut_head {ns : List Int} {m : Nat} (h : m ≤ ns.length) : cutV (ns.map V.int) none (some (m : Int)) = (ns.take m).map V.int := by
  unfold cutV
  rw [HT.sIx_none, HT.sIx_nat, List.length_map, Nat.sub_zero, List.drop_zero, Nat.min_eq_left h, List.map_take]
theorem cut_tail {ns : List Int} {i : Nat} : cutV (ns.map V.int) (some (i : Int)) none = (ns.drop i).map V.int := by
  unfold cutV
  rw [HT.sIx_none, HT.sIx_nat, List.length_map, List.map_drop]
  by_cases h : i ≤ ns.length
  · rw [Nat.min_eq_left h]
    refine List.take_of_length_le ?_
    rw [List.length_drop, List.length_map]
    omega
  · rw [Nat.min_eq_right (by omega), List.drop_eq_nil_of_le (by rw [List.length_map]; exact Nat.le_refl _), List.drop_eq_nil_of_le (by rw [List.length_map]; omega)]
    exact List.take_nil
def accS (f g : S) (i : Nat) : S := fun n => sm (fun k => if k ≤ n then f k * g (n - k) else 0) i
theorem acc_step {f g : S} {i n : Nat} : accS f g (i + 1) n = accS f g i n + (if i ≤ n then f i * g (n - i) else 0) := rfl
theorem acc_end {f g : S} {N n : Nat} (h : n < N) : accS f g N n = cv f g n := by
  unfold accS cv
  have e : N = (n + 1) + (N - (n + 1)) := by omega
  rw [e, sm_split]
  have e2 : sm (fun i => if n + 1 + i ≤ n then f (n + 1 + i) * g (n - (n + 1 + i)) else 0) (N - (n + 1)) = 0 := by
    refine Eq.trans (sm_congr _ fun i _ => ?_) (sm_zero _)
    rw [if_neg (by omega)]
  rw [e2, Int.add_zero]
  exact sm_congr _ fun i hi => by rw [if_pos (by omega)]
theorem row_set {N m : Nat} {b c : S} {z : Int} (hm : m < N) (h1 : c m = z) (h2 : ∀ i, i < N → i ≠ m → c i = b i) : (rowOf N b).set m (.int z) = rowOf N c := by
  refine List.ext_getElem? fun i => ?_
  rw [List.getElem?_set]
  by_cases e : m = i
  · subst e
    rw [if_pos rfl, if_pos (by rw [row_len]; exact hm), row_get hm, h1]
  · rw [if_neg e]
    by_cases hi : i < N
    · rw [row_get hi, row_get hi, h2 i hi (fun h => e h.symm)]
    · rw [List.getElem?_eq_none (by rw [row_len]; omega), List.getElem?_eq_none (by rw [row_len]; omega)]
theorem fnL_row {n : Nat} {b : S} {i : Nat} : fnL ((List.range n).map b) i = if i < n then b i else 0 := by
  unfold fnL
  rw [List.getD_eq_getElem?_getD, List.getElem?_map]
  by_cases h : i < n
  · rw [List.getElem?_range h, if_pos h]
    rfl
  · rw [List.getElem?_eq_none (by rw [List.length_range]; omega), if_neg h]
    rfl
theorem freeX {H H1 : Hp} {d l D : Addr} (s : SameX d l H H1) (n : H1 D = none) (nd : D ≠ d) (nl : D ≠ l) : H D = none := by
  cases e : H D with
  | none => rfl
  | some o =>
    rw [s _ _ e nd nl] at n
    cases n
def gR {α : Type} (us ws : List α) : List α := match us with
  | [] => ws.reverse
  | _ => []
theorem kbR {K : PySem.W.Frag} {x qual : Str} {params : Arguments} {body : List Stmt} {scope : Scope} {kws : List (Str × V)} {f : Addr} {fd : FuncData} {ps : List Str} (F : FunD K x qual params body scope [] kws f fd) (hps : ps ≠ [])
    (h : ∀ (kV doc pm : Value) (an : Option Addr) (cdv ct : Value) (ws : List Value), ws.length = ps.length → bindArgs (PySem.W.fnOf x qual params body scope .none kV doc pm an cdv ct) ⟨[], ps.reverse.zip ws⟩ = pure (ps.zip ws.reverse)) : KBinds K fd ps ps.reverse gR gR := by
  obtain ⟨oc, od, dV, kV, doc, pm, an, cdv, ct, osl, rfl, lk, hcd, hD, hK⟩ := F.ex
  refine ⟨fun s us ws hK' hl => ?_, fun {vs us zs ws} r1 r2 => ?_⟩
  · cases us with
    | cons u r =>
      exact absurd (List.length_eq_zero_iff.mp hl.symm) hps
    | nil =>
      rcases hD with ⟨_, rfl⟩ | ⟨e, _⟩
      · refine BindsTo.of_eq (h kV doc pm an cdv ct ws ?_)
        rw [← hl]
        exact (List.length_reverse).symm
      · exact absurd rfl e
  · cases r1 with
    | nil => exact r2.reverse
    | cons _ _ => exact .nil
def noArgs : Arguments := { posonlyargs := [], args := [], vararg := none, kwonlyargs := [], kw_defaults := [], kwarg := none, defaults := [] }
structure Own (H : Hp) (d l p : Addr) (xs : List V) : Prop where
  at_ : H p = some (.lst xs)
  nd : p ≠ d
  nl : p ≠ l
structure Wd (Pt : Addr) (H : Hp) (d l c : Addr) : Prop where
  dr : Draw H d l c
  tb : Tabs [(Pt, qL)] H
variable {H H' : Hp} {d l c p Pt : Addr} {xs : List V} {o : HO}
theorem Own.same (h : Own H d l p xs) (s : Same H H') : Own H' d l p xs := ⟨s _ _ h.at_, h.nd, h.nl⟩
theorem Own.sx (h : Own H d l p xs) (s : SameX d l H H') : Own H' d l p xs := ⟨s _ _ h.at_ h.nd h.nl, h.nd, h.nl⟩
theorem Own.ext (h : Own H d l p xs) (s : ExtN H H') : Own H' d l p xs := ⟨s _ _ h.at_ (fun ps z => by cases z), h.nd, h.nl⟩
theorem Own.new (D : Draw H d l c) (n : H p = none) : Own (upd H p (.lst xs)) d l p xs := ⟨upd_same, (D.ne n).1, (D.ne n).2.1⟩
theorem Wd.same (W : Wd Pt H d l c) (s : Same H H') : Wd Pt H' d l c := ⟨W.dr.same s, W.tb.ext s⟩
theorem Wd.sx (W : Wd Pt H d l c) (s : SameX d l H H') (D : Draw H' d l c) : Wd Pt H' d l c := by
  refine ⟨D, fun p hp => ?_⟩
  obtain ⟨ls, cs, r, t, D0⟩ := W.dr
  obtain ⟨ps, h1, h2, h3⟩ := W.tb p hp
  refine ⟨ps, s _ _ h1 (ne_of h1 D0.dd (fun z => by cases z)) (ne_of h1 D0.dl (fun z => by cases z)), h2, fun pos cv hc => ?_⟩
  obtain ⟨k, e1, e2⟩ := h3 pos cv hc
  refine ⟨k, e1, s _ _ e2 (ne_of e2 D0.dd (fun z => ?_)) (ne_of e2 D0.dl (fun z => ?_))⟩
  · unfold CodeO at z
    cases z
  · unfold CodeO at z
    cases z
theorem Draw.ext (D : Draw H d l c) (s : ExtN H H') : Draw H' d l c := by
  obtain ⟨ls, cs, r, t, D0⟩ := D
  exact ⟨ls, cs, r, t, s _ _ D0.dd (fun ps z => by cases z), s _ _ D0.dl (fun ps z => by cases z), s _ _ D0.dc (fun ps z => by cases z), D0.lc⟩
theorem Wd.upd {Pt d l c D' : Addr} {xs ys : List V} (W : Wd Pt H d l c) (h : H D' = some (.lst xs)) (n1 : D' ≠ d) (n2 : D' ≠ l) (n3 : D' ≠ c) : Wd Pt (upd H D' (.lst ys)) d l c := by
  refine ⟨W.dr.put n1 n2 n3, fun p hp => ?_⟩
  obtain ⟨ps, h1, h2, h3⟩ := W.tb p hp
  refine ⟨ps, by rw [upd_ne (ne_of h1 h (fun z => by cases z))]; exact h1, h2, fun pos cv hc => ?_⟩
  obtain ⟨k, e1, e2⟩ := h3 pos cv hc
  have nk : k ≠ D' := ne_of e2 h (fun z => by
    unfold CodeO at z
    cases z)
  exact ⟨k, e1, by rw [upd_ne nk]; exact e2⟩
theorem Own.upd {d l p D' : Addr} {xs : List V} {o : HO} (O : Own H d l p xs) (h : p ≠ D') : Own (upd H D' o) d l p xs := ⟨by rw [upd_ne h]; exact O.at_, O.nd, O.nl⟩
theorem eq_no (ls : List Int) : (!PyData.eqv (.list (intsD ls)) (.list (intsD ls))) = false := by
  have e := SeqAt.eqv_refl (.list (intsD ls)) (show PyData.canLay0 (.list (intsD ls)) = true from ints_lay ls)
  rw [e]
  rfl
structure OwnO (H : Hp) (d l p : Addr) (o : HO) : Prop where
  at_ : H p = some o
  nd : p ≠ d
  nl : p ≠ l
  nt : ∀ ps, o ≠ .tbl ps
theorem OwnO.same (h : OwnO H d l p o) (s : Same H H') : OwnO H' d l p o := ⟨s _ _ h.at_, h.nd, h.nl, h.nt⟩
theorem OwnO.sx (h : OwnO H d l p o) (s : SameX d l H H') : OwnO H' d l p o := ⟨s _ _ h.at_ h.nd h.nl, h.nd, h.nl, h.nt⟩
theorem OwnO.ext (h : OwnO H d l p o) (s : ExtN H H') : OwnO H' d l p o := ⟨s _ _ h.at_ h.nt, h.nd, h.nl, h.nt⟩
theorem OwnO.new (D : Draw H d l c) (n : H p = none) (nt : ∀ ps, o ≠ .tbl ps) : OwnO (upd H p o) d l p o := ⟨upd_same, (D.ne n).1, (D.ne n).2.1, nt⟩
theorem OwnO.upd {D' : Addr} {o' : HO} (O : OwnO H d l p o) (h : p ≠ D') : OwnO (upd H D' o') d l p o := ⟨by rw [upd_ne h]; exact O.at_, O.nd, O.nl, O.nt⟩
theorem all_num (ns : List Int) : (ns.map V.int).all isNum = true := by
  rw [List.all_map]
  exact List.all_eq_true.mpr fun _ _ => rfl
theorem row_ints {ns : List Int} (h1 : 1 ≤ ns.length) (h2 : ns.length ≤ 3001) : isRow (some (ns.map V.int)) = true := by
  show ((ns.map V.int).all isNum && (decide (1 ≤ ((ns.map V.int).length : Int)) && decide (((ns.map V.int).length : Int) ≤ 3001))) = true
  rw [all_num, List.length_map, decide_eq_true (by omega : 1 ≤ (ns.length : Int)), decide_eq_true (by omega : (ns.length : Int) ≤ 3001)]
  rfl
theorem pv_ints {H : Hp} (ns : List Int) : AllPV H (some (ns.map V.int)) := by
  intro xs e v hv
  cases e
  obtain ⟨z, _, rfl⟩ := List.mem_map.mp hv
  exact .int z
theorem short_ints {ns : List Int} (h2 : ns.length ≤ 3001) : short (some (ns.map V.int)) := by
  intro xs e
  cases e
  rw [List.length_map, sizeLine_eq]
  omega
def Bd (ns : List Int) : Prop := ∀ i, (fnL ns i).natAbs < 2 ^ 90
theorem Bd.to {ns : List Int} (h : Bd ns) {k : Nat} (hk : 90 ≤ k) : ∀ i, (fnL ns i).natAbs < 2 ^ k := fun i => Nat.lt_of_lt_of_le (h i) (Nat.pow_le_pow_right (by decide) hk)
theorem Bd.mem {ns : List Int} (h : Bd ns) {z : Int} (hz : z ∈ ns) : z.natAbs < 2 ^ 90 := by
  obtain ⟨i, hi⟩ := List.mem_iff_getElem?.mp hz
  have e := h i
  unfold fnL at e
  rw [List.getD_eq_getElem?_getD, hi] at e
  exact e
theorem bd_of {ns : List Int} (h : ∀ z ∈ ns, z.natAbs < 2 ^ 90) : Bd ns := fun i => by
  by_cases hi : i < ns.length
  · unfold fnL
    rw [List.getD_eq_getElem?_getD, List.getElem?_eq_getElem hi]
    exact h _ (List.getElem_mem hi)
  · rw [fnL_out (by omega)]
    exact Nat.pow_pos (by decide)
theorem ints_inj {a b : List Int} (h : some (a.map V.int) = some (b.map V.int)) : a = b := by
  have h2 := congrArg (fun o => (o.getD []).filterMap (fun v => match v with | V.int z => some z | _ => none)) h
  simp only [Option.getD_some, List.filterMap_map] at h2
  have e : ∀ l : List Int, l.filterMap ((fun v => match v with | V.int z => some z | _ => none) ∘ V.int) = l := fun l => by
    induction l with
    | nil => rfl
    | cons z r ih => rw [List.filterMap_cons]; exact congrArg (z :: ·) ih
  rw [e, e] at h2
  exact h2
theorem within_yes {i lo hi : Int} (h1 : lo ≤ i) (h2 : i ≤ hi) : within (.int i) lo hi = true := by
  show (decide (lo ≤ i) && decide (i ≤ hi)) = true
  rw [decide_eq_true h1, decide_eq_true h2]
  rfl
end Gn

set_option Elab.async false
set_option linter.all false
set_option maxRecDepth 100000
set_option maxHeartbeats 4000000
set_option pp.maxSteps 3000
set_option exponentiation.threshold 500000
/-! ranges by a step, lists as rows -/
namespace Gn
open PySem PySem.Spec PyProof.Rows L2 Dr Xv LamX Ps
def upN (a b d : Nat) : Nat := if a < b then (b - a - 1) / d + 1 else 0
theorem lt_upN {a b d t : Nat} (hd : 0 < d) : t < upN a b d ↔ a + t * d < b := by
  unfold upN
  by_cases h : a < b
  · rw [if_pos h, Nat.lt_succ_iff, Nat.le_div_iff_mul_le hd]
    omega
  · rw [if_neg h]
    constructor
    · intro z; omega
    · intro z; omega
theorem upN_le {a b d : Nat} (hd : 0 < d) : upN a b d ≤ b - a := by
  unfold upN
  split
  · have := Nat.div_le_self (b - a - 1) d
    omega
  · omega
theorem rg_up {a b d : Nat} (hd : 0 < d) (h1 : a < 2 ^ 29) (h2 : b < 2 ^ 29) (h3 : d < 2 ^ 29) : RgC (a : Int) (b : Int) (d : Int) (upN a b d) := by
  have e29 : (2 : Nat) ^ 29 = 536870912 := by decide
  have hn : Builtin.Range.rangeSize (a : Int) (b : Int) (d : Int) = (upN a b d : Nat) := by
    unfold Builtin.Range.rangeSize upN
    rw [if_pos (by omega : (d : Int) > 0)]
    by_cases h : a < b
    · rw [if_pos h, if_pos (by omega : (a : Int) < (b : Int))]
      have e : (b : Int) - (a : Int) - 1 = ((b - a - 1 : Nat) : Int) := by omega
      rw [e]
      simp
    · rw [if_neg h, if_neg (by omega)]
      rfl
  refine ⟨by omega, by omega, ?_, hn⟩
  unfold Builtin.Range.small
  have hu : upN a b d ≤ b - a := upN_le hd
  have hle : a + upN a b d * d < b + d + 1 ∨ upN a b d = 0 := by
    cases hz : upN a b d with
    | zero => exact .inr rfl
    | succ t =>
      have z := (lt_upN hd).mp (by omega : t < upN a b d)
      rw [Nat.add_mul, Nat.one_mul]
      exact .inl (by omega)
  rw [hn]
  simp only [Builtin.Range.rangeFitsLong, Bool.and_eq_true, Bool.or_eq_true, decide_eq_true_eq, beq_iff_eq, show ((d : Int) > 0) by omega, if_true]
  refine ⟨⟨⟨⟨?_, ?_⟩, ?_⟩, ?_⟩, ?_⟩ <;> try omega
theorem log_small2 {n : Nat} (h : n ≤ 4000) : ((n : Int)).natAbs.log2 < 9000 := by
  have e : ((n : Int)).natAbs = n := by omega
  rw [e]
  by_cases z : n = 0
  · rw [z]
    decide
  · have k : n.log2 < 12 := (Nat.log2_lt z).mpr (by omega)
    omega
/-- all but p stays -/
def SameO (p : Addr) (H H' : Hp) : Prop := ∀ b o, H b = some o → b ≠ p → H' b = some o
section
variable {p q : Addr} {H H0 H1 H' : Hp} {o : HO}
theorem SameO.refl : SameO p H H := fun _ _ e _ => e
theorem SameO.trans (a : SameO p H H1) (b : SameO p H1 H') : SameO p H H' := fun c o e n => b c o (a c o e n) n
theorem SameO.of (a : Same H H') : SameO p H H' := fun c o e _ => a c o e
theorem SameO.put : SameO p H (upd H p o) := fun c o e n => by rw [upd_ne n]; exact e
theorem SameO.new (h : H q = none) : SameO p H (upd H q o) := .of (same_new h)
theorem SameO.back (a : SameO p H H') (s : Same H0 H) (h : H0 p = none) : Same H0 H' := fun c o e => a c o (s c o e) (ne_of_none e h)
theorem SameO.row {K : PySem.W.Frag} {a : Addr} {xs : List V} (s : SameO p H H') (h : H a = some (.lst xs)) (n : a ≠ p) : SqL K H' a xs := SqL.of (s _ _ h n)
end
theorem sqx {K : PySem.W.Frag} {H : Hp} {b : Addr} {xs : List V} {tup : Bool} (h : H b = some (if tup then .tup xs else .lst xs)) : if tup then SqT K H b xs else SqL K H b xs := by
  cases tup with
  | true => exact SqT.of h
  | false => exact SqL.of h
theorem row_val {N i : Nat} {b : S} (h : i < N) : atI (rowOf N b) (i : Int) = some (.int (b i)) := atI_nat (row_get h)
theorem row_at {N i : Nat} {b : S} (h : i < N) : ixN (rowOf N b).length (i : Int) = some i := by
  unfold ixN
  rw [if_pos (by omega), row_len, if_pos (by omega)]
  simp
theorem take_at {ns : List Int} {m i : Nat} (hi : i < (ns.take m).length) : ((ns.take m).map V.int)[i]? = some (.int (fnL ns i)) := by
  rw [List.length_take] at hi
  rw [List.getElem?_map, List.getElem?_take, if_pos (by omega)]
  unfold fnL
  rw [List.getD_eq_getElem?_getD]
  have h2 : i < ns.length := by omega
  simp [h2]
/-- a list or a tuple of these numbers -/
def SeqI (H : Hp) (a : Addr) (ns : List Int) : Prop := H a = some (.lst (ns.map V.int)) ∨ H a = some (.tup (ns.map V.int))
theorem SeqI.same {H H' : Hp} {a : Addr} {ns : List Int} (h : SeqI H a ns) (s : Same H H') : SeqI H' a ns := h.imp (s _ _) (s _ _)
theorem SeqI.ne {H : Hp} {a p : Addr} {ns : List Int} (h : SeqI H a ns) (n : H p = none) : a ≠ p := by
  rcases h with e | e
  · exact ne_of_none e n
  · exact ne_of_none e n
theorem SeqI.len {K : PySem.W.Frag} {H : Hp} {a : Addr} {ns : List Int} (h : SeqI H a ns) : LenV K (.ref a) H (ns.map V.int).length := by
  rcases h with e | e
  · exact .inl ⟨_, SqL.of e, rfl⟩
  · exact .inr ⟨_, SqT.of e, rfl⟩
/-- xs[:n] of a list or a tuple -/
def rHead : V → Option Int → Option Int → Hp → VK → Prop := fun x l u H Q => ∃ (a : Addr) (ns : List Int) (n : Nat), x = .ref a ∧ l = none ∧ u = some (n : Int) ∧ SeqI H a ns ∧
  ∀ (tup : Bool) (b : Addr) (H2 : Hp), (b = a ∨ H b = none) → Same H H2 → H2 b = some (if tup then .tup ((ns.take n).map V.int) else .lst ((ns.take n).map V.int)) → Q (.ref b) H2
theorem sl_head {X : Cx} : SlR X rHead := by
  have main : ∀ {x : V} {lo hi : Option Int} {H : Hp} {Q : VK}, rHead x lo hi H Q → rSlL X.K x lo hi H Q ∨ rSlA X.K x lo hi H Q := by
    rintro x lo hi H Q ⟨a, ns, n, rfl, rfl, rfl, ha, k⟩
    have ecut : cutV (ns.map V.int) none (some (n : Int)) = (ns.take n).map V.int := by
      unfold cutV
      rw [HT.sIx_none, HT.sIx_nat, List.length_map, Nat.sub_zero, List.drop_zero, ← List.map_take]
      congr 1
      by_cases h : n ≤ ns.length
      · rw [Nat.min_eq_left h]
      · rw [Nat.min_eq_right (by omega), List.take_of_length_le (Nat.le_refl _), List.take_of_length_le (by omega)]
    rcases ha with e | e
    · refine .inl ⟨a, _, rfl, SqL.of e, fun p hp => ?_⟩
      rw [ecut]
      exact k false p _ (.inr hp) (same_new hp) upd_same
    · refine .inr ⟨a, _, rfl, SqT.of e, fun hw => ?_, fun _ p hp => ?_⟩
      · have e2 : (ns.take n).map V.int = ns.map V.int := by
          have z := hw.2
          rw [HT.sIx_nat, List.length_map] at z
          rw [List.take_of_length_le (by omega)]
        exact k true a H (.inl rfl) (fun _ _ q => q) (by rw [e2]; exact e)
      · rw [ecut]
        exact k true p _ (.inr hp) (same_new hp) upd_same
  intro pins s σ H x v vl vu lo hi sl Q I rx hs pl pu q
  exact SlR.or (X := X) sl_list sl_tupA pins s σ H x v vl vu lo hi sl Q I rx hs pl pu (main q)
end Gn

set_option Elab.async false
set_option linter.all false
set_option maxRecDepth 100000
set_option maxHeartbeats 4000000
set_option pp.maxSteps 3000
set_option exponentiation.threshold 500000
/-! what a law holds: the draw, the tables, its objects -/
namespace Gn
open PySem PySem.Spec PyProof.Rows L2 Dr Xv LamX Ps
structure Sta (Pt : Addr) (H : Hp) (d l c : Addr) (os : List (Addr × HO)) : Prop where
  W : Wd Pt H d l c
  O : ∀ x ∈ os, H x.1 = some x.2 ∧ x.1 ≠ d ∧ x.1 ≠ l ∧ x.1 ≠ c ∧ ∀ ps, x.2 ≠ .tbl ps
  P : os.Pairwise fun x y => x.1 ≠ y.1
namespace Sta
section
variable {Pt d l c p : Addr} {H H' : Hp} {o : HO} {os os' : List (Addr × HO)}
theorem same (S : Sta Pt H d l c os) (s : Same H H') : Sta Pt H' d l c os := ⟨S.W.same s, fun x hx => ⟨s _ _ (S.O x hx).1, (S.O x hx).2⟩, S.P⟩
theorem sx (S : Sta Pt H d l c os) (s : SameX d l H H') (D : Draw H' d l c) : Sta Pt H' d l c os := ⟨S.W.sx s D, fun x hx => ⟨s _ _ (S.O x hx).1 (S.O x hx).2.1 (S.O x hx).2.2.1, (S.O x hx).2⟩, S.P⟩
theorem ext (S : Sta Pt H d l c os) (s : ExtN H H') (T : Tabs [(Pt, qL)] H') : Sta Pt H' d l c os := ⟨⟨Draw.ext S.W.dr s, T⟩, fun x hx => ⟨s _ _ (S.O x hx).1 (S.O x hx).2.2.2.2, (S.O x hx).2⟩, S.P⟩
theorem res (S : Sta Pt H d l c os) (hp : H p = none) (s : Same H H') (e : H' p = some o) (nt : ∀ ps, o ≠ .tbl ps) : Sta Pt H' d l c ((p, o) :: os) := by
  have S' := S.same s
  have n := S.W.dr.ne hp
  refine ⟨S'.W, fun x hx => ?_, List.pairwise_cons.mpr ⟨fun x hx => (ne_of_none (S.O x hx).1 hp).symm, S.P⟩⟩
  rcases List.mem_cons.mp hx with rfl | hx
  · exact ⟨e, n.1, n.2.1, n.2.2, nt⟩
  · exact S'.O x hx
theorem new (S : Sta Pt H d l c os) (hp : H p = none) (nt : ∀ ps, o ≠ .tbl ps) : Sta Pt (upd H p o) d l c ((p, o) :: os) := S.res hp (same_new hp) upd_same nt
theorem newL {xs : List V} (S : Sta Pt H d l c os) (hp : H p = none) : Sta Pt (upd H p (.lst xs)) d l c ((p, .lst xs) :: os) := S.new hp (fun _ e => nomatch e)
theorem newT {xs : List V} (S : Sta Pt H d l c os) (hp : H p = none) : Sta Pt (upd H p (.tup xs)) d l c ((p, .tup xs) :: os) := S.new hp (fun _ e => nomatch e)
theorem resL {xs : List V} (S : Sta Pt H d l c os) (hp : H p = none) (s : Same H H') (e : H' p = some (.lst xs)) : Sta Pt H' d l c ((p, .lst xs) :: os) := S.res hp s e (fun _ e => nomatch e)
/-- a result of a drawing call -/
theorem resX {xs : List V} (S : Sta Pt H d l c os) (hp : H p = none) (s : SameX d l H H') (D : Draw H' d l c) (e : H' p = some (.lst xs)) : Sta Pt H' d l c ((p, .lst xs) :: os) := by
  have S' := S.sx s D
  have n := S.W.dr.ne hp
  refine ⟨S'.W, fun x hx => ?_, List.pairwise_cons.mpr ⟨fun x hx => (ne_of_none (S.O x hx).1 hp).symm, S.P⟩⟩
  rcases List.mem_cons.mp hx with rfl | hx
  · exact ⟨e, n.1, n.2.1, n.2.2, fun _ e => nomatch e⟩
  · exact S'.O x hx
theorem g (S : Sta Pt H d l c os) (i : Nat) {x : Addr × HO} (h : os[i]? = some x) : H x.1 = some x.2 := (S.O x (List.mem_of_getElem? h)).1
theorem gx (S : Sta Pt H d l c os) (i : Nat) {x : Addr × HO} (h : os[i]? = some x) (s : SameX d l H H') : H' x.1 = some x.2 := s _ _ (S.O x (List.mem_of_getElem? h)).1 (S.O x (List.mem_of_getElem? h)).2.1 (S.O x (List.mem_of_getElem? h)).2.2.1
theorem sub (S : Sta Pt H d l c os) (h : os'.Sublist os) : Sta Pt H d l c os' := ⟨S.W, fun x hx => S.O x (h.subset hx), S.P.sublist h⟩
theorem dr (S : Sta Pt H d l c os) : Draw H d l c := S.W.dr
theorem tb (S : Sta Pt H d l c os) : Tabs [(Pt, qL)] H := S.W.tb
/-- the list ahead is written -/
theorem put {xs ys : List V} (S : Sta Pt H d l c ((p, .lst xs) :: os)) : Sta Pt (upd H p (.lst ys)) d l c ((p, .lst ys) :: os) := by
  obtain ⟨h1, h2, h3, h4, h5⟩ := S.O _ (List.mem_cons_self ..)
  obtain ⟨q1, q2⟩ := List.pairwise_cons.mp S.P
  refine ⟨S.W.upd h1 h2 h3 h4, fun x hx => ?_, List.pairwise_cons.mpr ⟨q1, q2⟩⟩
  rcases List.mem_cons.mp hx with rfl | hx
  · exact ⟨upd_same, h2, h3, h4, fun _ e => nomatch e⟩
  · have z := S.O x (List.mem_cons_of_mem _ hx)
    exact ⟨by rw [upd_ne (q1 x hx).symm]; exact z.1, z.2⟩
theorem tl {x : Addr × HO} (S : Sta Pt H d l c (x :: os)) : Sta Pt H d l c os := S.sub (List.sublist_cons_self ..)
end
end Sta
/-- data of ints, equal -/
theorem eq_ints {a b : List Int} (h : a = b) : (!PyData.eqv (.list (intsD a)) (.list (intsD b))) = false := by
  subst h
  exact eq_no a
def intsOf (n : Nat) (b : S) : List Int := (List.range n).map b
theorem row_ofI {n : Nat} {b : S} : rowOf n b = (intsOf n b).map V.int := rfl
theorem fnL_ints {n : Nat} {b : S} {i : Nat} (h : i < n) : fnL (intsOf n b) i = b i := by
  unfold intsOf
  rw [fnL_row, if_pos h]
theorem len_ints {n : Nat} {b : S} : (intsOf n b).length = n := by
  unfold intsOf
  rw [List.length_map, List.length_range]
theorem fnL_snoc_le {ns : List Int} {z : Int} {c : Nat} (h : ∀ i, (fnL ns i).natAbs ≤ c) (hz : z.natAbs ≤ c) (i : Nat) : (fnL (ns ++ [z]) i).natAbs ≤ c := by
  have hi := h i
  unfold fnL at hi ⊢
  rw [List.getD_eq_getElem?_getD] at hi ⊢
  by_cases h1 : i < ns.length
  · rw [List.getElem?_append_left h1]
    exact hi
  · rw [List.getElem?_append_right (by omega)]
    by_cases h2 : i - ns.length = 0
    · rw [h2]
      exact hz
    · rw [List.getElem?_eq_none (by simp; omega)]
      exact Nat.zero_le _
theorem cut_full (ns : List Int) (m : Nat) : cutV (ns.map V.int ++ zer m) none (some (m : Int)) = rowOf m (fnL ns) := by
  have e : cutV (ns.map V.int ++ zer m) none (some (m : Int)) = (ns.map V.int ++ zer m).take m := by
    unfold cutV
    rw [HT.sIx_none, HT.sIx_nat, Nat.sub_zero, List.drop_zero, Nat.min_eq_left (by
      rw [List.length_append]
      unfold zer
      rw [List.length_replicate]
      omega)]
  rw [e]
  refine List.ext_getElem? fun i => ?_
  rw [List.getElem?_take]
  by_cases h : i < m
  · rw [if_pos h, row_get h]
    by_cases h2 : i < ns.length
    · rw [List.getElem?_append_left (by rw [List.length_map]; exact h2), List.getElem?_map]
      unfold fnL
      rw [List.getD_eq_getElem?_getD]
      simp [h2]
    · rw [List.getElem?_append_right (by rw [List.length_map]; omega), fnL_out (by omega), List.length_map]
      unfold zer
      rw [List.getElem?_replicate, if_pos (by omega)]
  · rw [if_neg h, List.getElem?_eq_none (by rw [row_len]; omega)]
end Gn

set_option Elab.async false
set_option linter.all false
set_option maxRecDepth 100000
set_option maxHeartbeats 4000000
set_option pp.maxSteps 3000
namespace Xv
open PySem PySem.Spec PyProof.Rows L2
/-! ### x *= e, isqrt -/
def ipIc (c : Int → Int → Prop) (f : Int → Int → Int) : TIp := fun x y H Q => ∃ i j, x = .int i ∧ y = .int j ∧ c i j ∧ Q (.int (f i j)) H
theorem ip_mulW {X : Cx} : PIp X .Mult (ipIc CMulW fun i j => i * j) := by
  intro pins s σ H x y v u Q I r1 r2 h
  obtain ⟨i, j, e1, e2, c, q⟩ := h
  subst e1; subst e2
  obtain ⟨t, rfl⟩ := r1
  obtain ⟨t', rfl⟩ := r2
  exact imul_int ⟨.int _, H, I.tok _, ⟨_, rfl⟩, q⟩ c.ok
def rIsqrt : List V → Hp → VK → Prop := fun vs H Q => ∃ a : Nat, vs = [.int (a : Int)] ∧ a < 2 ^ 64 ∧ ∀ r : Nat, r * r ≤ a → a < (r + 1) * (r + 1) → Q (.int (r : Int)) H
theorem cr_isqrt {X : Cx} : CallR X (.builtin "math.isqrt") rIsqrt := by
  intro pins s σ H vs us Q I r h
  obtain ⟨a, rfl, h1, q⟩ := h
  cases r with
  | cons r rr =>
    cases rr
    obtain ⟨t, rfl⟩ := r
    refine PySem.W.mg_isqrt (by omega) (by exact_mod_cast h1) ?_
    have sp := Float64.isqrt_spec ((a : Int)).toNat
    rw [Int.toNat_natCast] at sp ⊢
    exact ⟨.int _, H, I.tok _, ⟨_, rfl⟩, q _ sp.1 sp.2⟩
/-! ### a written dict from numbers to numbers -/
def ent1 (h : Int) (k v : Int) : Value → Value → Bool
  | .int k' _, .int v' _ => decide (k' = k) && (decide (v' = v) && decide (h = hashInt k))
  | _, _ => false
theorem ent1_ok {h k v : Int} {a b : Value} (e : ent1 h k v a b = true) : ∃ t u, a = .int k t ∧ b = .int v u ∧ h = hashInt k := by
  unfold ent1 at e
  split at e
  · rename_i k' t v' u
    rw [Bool.and_eq_true, Bool.and_eq_true, decide_eq_true_eq, decide_eq_true_eq, decide_eq_true_eq] at e
    obtain ⟨rfl, rfl, e3⟩ := e
    exact ⟨t, u, rfl, rfl, e3⟩
  · cases e
def entB : List DictEntry → List (Int × Int) → Bool
  | [], [] => true
  | e :: es, (k, v) :: r => ent1 e.hash k v e.key e.val && entB es r
  | _, _ => false
structure KDI (K : PySem.W.Frag) (a : Addr) (kvs : List (Int × Int)) : Prop where
  at_ : ∃ es n, K.lookup a = some ⟨.type "dict", none, .dict es n, #[]⟩ ∧ entB es.toList kvs = true
  nd : (kvs.map (·.1)).Nodup
  low : (a == sysModules) = false
def kdiB (K : PySem.W.Frag) (a : Addr) (kvs : List (Int × Int)) : Bool := (match K.lookup a with
  | some ⟨.type "dict", none, .dict es n, sl⟩ => decide (sl.toList = []) && entB es.toList kvs
  | _ => false) && (decide (kvs.map (·.1)).Nodup && !(a == sysModules))
theorem kdiB_ok {K : PySem.W.Frag} {a : Addr} {kvs : List (Int × Int)} (h : kdiB K a kvs = true) : KDI K a kvs := by
  unfold kdiB at h
  rw [Bool.and_eq_true, Bool.and_eq_true] at h
  obtain ⟨h1, h2, h3⟩ := h
  refine ⟨?_, of_decide_eq_true h2, by cases e : (a == sysModules) with
    | false => rfl
    | true => rw [e] at h3; cases h3⟩
  split at h1
  · rename_i es n sl e
    rw [Bool.and_eq_true, decide_eq_true_eq] at h1
    obtain ⟨l⟩ := sl
    obtain ⟨h4, h5⟩ := h1
    have h4' : l = [] := h4
    subst h4'
    exact ⟨es, n, e, h5⟩
  · cases h1
def valI (kvs : List (Int × Int)) (k : Int) : Option Int := (kvs.find? fun kv => kv.1 = k).map (·.2)
theorem ent_pairs {P : Program} {w : World} : ∀ {es : List DictEntry} {kvs : List (Int × Int)}, entB es kvs = true → ∃ vs : List (Key × Value), Pairs (mixKind P w) es vs ∧ vs.map (·.1) = kvs.map (fun kv => Sum.inl kv.1) ∧ (∀ e ∈ es, ∃ k, (mixKind P w).is k e.key = true ∧ e.hash = (mixKind P w).hash k) ∧
    ∀ k : Int, (valueAt vs (Sum.inl k) = none ∧ valI kvs k = none) ∨ ∃ t v, valueAt vs (Sum.inl k) = some (.int v t) ∧ valI kvs k = some v
  | [], [], _ => ⟨[], .nil, rfl, fun e he => (nomatch he), fun k => .inl ⟨rfl, rfl⟩⟩
  | [], _ :: _, h => by cases h
  | e :: es, [], h => by cases h
  | e :: es, (k, v) :: r, h => by
    obtain ⟨eh, ek, ev⟩ := e
    have h' : (ent1 eh k v ek ev && entB es r) = true := h
    rw [Bool.and_eq_true] at h'
    obtain ⟨h1, h2⟩ := h'
    obtain ⟨vs, p1, p2, p3, p4⟩ := ent_pairs (P := P) (w := w) h2
    obtain ⟨t', u', rfl, rfl, rfl⟩ := ent1_ok h1
    refine ⟨(Sum.inl k, .int v u') :: vs, .cons (mixKind_int P w _ _) rfl p1, by rw [List.map_cons, List.map_cons, p2], fun e he => ?_, fun k2 => ?_⟩
    · rcases List.mem_cons.mp he with rfl | he
      · exact ⟨Sum.inl k, mixKind_int P w _ _, rfl⟩
      · exact p3 e he
    · by_cases c : k = k2
      · subst c
        refine .inr ⟨u', v, ?_, ?_⟩
        · simp [valueAt]
        · simp [valI]
      · have c2 : ¬ (Sum.inl k : Key) = Sum.inl k2 := fun z => c (Sum.inl.inj z)
        have e1 : valueAt ((Sum.inl k, Value.int v u') :: vs) (Sum.inl k2) = valueAt vs (Sum.inl k2) := by simp [valueAt, List.find?_cons, c]
        have e2 : valI ((k, v) :: r) k2 = valI r k2 := by simp [valI, List.find?_cons, c]
        rw [e1, e2]
        exact p4 k2
theorem kdi_dict {X : Cx} {pins : List (Addr × Obj)} {σ : L2.St} {H : Hp} {s : Shared} {a : Addr} {kvs : List (Int × Int)} (I : Inv X pins σ H s) (D : KDI X.K a kvs) : ∃ vs : List (Key × Value), s.heap.DictOf (mixKind X.prog X.w) a vs ∧
    ∀ k : Int, (valueAt vs (Sum.inl k) = none ∧ valI kvs k = none) ∨ ∃ t v, valueAt vs (Sum.inl k) = some (.int v t) ∧ valI kvs k = some v := by
  obtain ⟨⟨es, n, hl, he⟩, nd, _⟩ := D
  obtain ⟨vs, p1, p2, p3, p4⟩ := ent_pairs (P := X.prog) (w := X.w) he
  refine ⟨vs, ⟨_, es, n, I.kIn _ _ hl, ⟨rfl, rfl, rfl⟩, rfl, fun e he => p3 e (Array.mem_toList_iff.mpr he), p1, ?_⟩, p4⟩
  rw [p2]
  have e : kvs.map (fun kv => (Sum.inl kv.1 : Key)) = (kvs.map (·.1)).map Sum.inl := by rw [List.map_map]; rfl
  rw [e]
  exact List.Pairwise.map Sum.inl (fun a b h z => h (Sum.inl.inj z)) nd
def rNotInKDI (K : PySem.W.Frag) : R2 := fun x y H Q => ∃ p kvs k, x = .int k ∧ y = .ref p ∧ KDI K p kvs ∧ Q (.bl (!(valI kvs k).isSome)) H
theorem op_notIn_kdi {X : Cx} : OpR X (compareOp .NotIn) (rNotInKDI X.K) := by
  intro pins s σ H x y v u Q I rx ry h
  obtain ⟨p, kvs, k, rfl, rfl, D, q⟩ := h
  obtain ⟨t, rfl⟩ := rx
  obtain rfl : u = Value.ref p := ry
  obtain ⟨vs, dd, hv⟩ := kdi_dict I D
  refine wpAny_notIn_of (mixKind_int X.prog X.w k t) D.low dd.mapOf ?_
  have e : (valueAt vs (Sum.inl k)).isSome = (valI kvs k).isSome := by
    rcases hv k with ⟨h1, h2⟩ | ⟨t, v, h1, h2⟩ <;> rw [h1, h2] <;> rfl
  rw [e]
  exact ⟨.bl _, H, I.tok _, rfl, q⟩
def rIxKDI (K : PySem.W.Frag) : R2 := fun x y H Q => ∃ p kvs k v, x = .ref p ∧ y = .int k ∧ KDI K p kvs ∧ valI kvs k = some v ∧ Q (.int v) H
theorem ix_kdi {X : Cx} : IxR X (rIxKDI X.K) := by
  intro value slice pins s σ H x y v u Q I rx ry h hs
  obtain ⟨p, kvs, k, z, rfl, rfl, D, e, q⟩ := h
  obtain rfl : v = Value.ref p := rx
  obtain ⟨t, rfl⟩ := ry
  obtain ⟨vs, dd, hv⟩ := kdi_dict I D
  rcases hv k with ⟨_, h2⟩ | ⟨t', v', h1, h2⟩
  · rw [h2] at e
    cases e
  · rw [h2] at e
    cases e
    exact tail_any dd.mapOf.typeIs slot_dict_getitem.lookup (wpAny_getItem_of (mixKind_int X.prog X.w k t) dd.mapOf h1 ⟨.int _, H, I.tok _, ⟨_, rfl⟩, q⟩) hs
end Xv

set_option Elab.async false
set_option linter.all false
set_option maxRecDepth 100000
set_option maxHeartbeats 4000000
set_option pp.deepTerms false
set_option pp.maxSteps 3000
namespace Dr
open PySem PySem.Spec PyProof.Rows L2
def top (i : Nat) : Stmt := PySem.Challenge.pw_etasure_k03_whole_triple_and_quintuple_p.main.body.getD i (.Pass ⟨0, 0, 0, 0⟩)
abbrev sBegun : Stmt := top 33
abbrev sBlend : Stmt := top 34
abbrev sTake : Stmt := top 35
abbrev sPick : Stmt := top 36
section
variable {P : Program} {w : World} {K : PySem.W.Frag} {mg : Str → Option Value} {base : Heap} {f fB fT : Addr} {fd fdB fdT : FuncData}
theorem scBegun : FnScope ["script", "large", "cell"] ["script"] (defScope sBegun) := ⟨rfl, rfl, rfl, by decide +kernel, rfl, by decide +kernel, by decide +kernel⟩
theorem ok_begun (F : FnP K "_law_begun" sBegun f fd) (abs0 : mg "abs" = none) : FnOk P w K mg base CX0 1 f fd ["script"] (spBegun K) := by
  refine F.ok scBegun (fun vs H Q E h => ?_) (fun cdv A outer s H vs Q E hr h => ?_)
  · obtain ⟨a, ns, rfl, _⟩ := h
    rfl
  · obtain ⟨a, ns, rfl, hS, hlen, k⟩ := h
    refine ⟨_, PSs.nox (pss_cons (ps_setLc (i := 1) (own := [("cell", 2)]) (g := gName 2) rfl scBegun.nd rfl rfl (sw_true rfl rfl rfl (by decide +kernel)) (pi_list (pv 0)) (blkOk_by (own := [("cell", 2)]) (N := ["script", "large", "cell"]) (sc := defScope sBegun) (by decide +kernel))
        (fun _ _ _ _ _ => pg_name (i := 2) scBegun.nd rfl (Or.inl rfl)) (fun _ _ _ _ _ => pts_one (pt_cmpR op_ge (pe_callB call_abs (by rfl) abs0 boot_abs (pa_cons (pv 2) pa_nil)) (pe_op op_pow pe_int pe_int) (nomark _)))
        (fun _ _ _ _ _ => pe_op op_sub (pe_callB call_abs (by rfl) abs0 boot_abs (pa_cons (pv 2) pa_nil)) (pe_op op_pow pe_int pe_int)))
      (pss_one (ps_ret (pe_disp (pps_cons pe_str (pv 1) (pps_cons pe_str (pe_lc (own := [("cell", 2)]) (g := gName 2) rfl scBegun.nd (pi_list (pv 0)) (blkOk_by (own := [("cell", 2)]) (N := ["script", "large", "cell"]) (sc := defScope sBegun) (by decide +kernel))
        (fun _ _ _ _ _ => pg_name (i := 2) scBegun.nd rfl (Or.inl rfl)) (fun _ _ _ _ _ => pts_nil) (fun _ _ _ _ _ => pe_callB call_abs (by rfl) abs0 boot_abs (pa_cons (pv 2) pa_nil)))
        (pps_cons pe_str pe_int (pps_cons pe_str pe_int pps_nil)))) (by rfl) (by rfl) (fun z => by cases z) (by decide))))), ?_⟩
    refine ⟨_, rfl, a, rfl, ⟨_, hS⟩, fun D hD => lc_list (K := K) (a := a) (xs := ns.map V.int) (fun i H' => ∃ out : List Int, H' D = some (.lst (out.map V.int)) ∧ out.length ≤ i ∧ Same H H')
      ⟨[], upd_same, Nat.le_refl _, same_new hD⟩ (fun i H' _ ⟨_, _, _, s⟩ => s.seq hS) ?_ ?_⟩
    · rintro i x H' hi ⟨out, h1, h2, s⟩
      obtain ⟨z, hz, rfl⟩ := int_at hi
      have hlt : i < ns.length := by
        by_cases q : i < ns.length
        · exact q
        · rw [List.getElem?_eq_none (by omega)] at hz
          cases hz
      refine ⟨rfl, _, rfl, _, rfl, _, _, rfl, rfl, ⟨by decide, by decide, by decide⟩, _, _, rfl, rfl, _, rfl, ?_⟩
      refine ite2 (fun _ => ?_) (fun _ => ?_)
      · refine ⟨_, rfl, _, rfl, _, _, rfl, rfl, ⟨by decide, by decide, by decide⟩, _, _, rfl, rfl, _, h1, ?_, ?_⟩
        · rw [List.length_map]
          exact small1000 (by omega)
        · exact ⟨out ++ [(if z < 0 then -z else z) - 10 ^ (18 : Int).toNat], by rw [upd_same, List.map_append]; rfl, by rw [List.length_append]; show out.length + 1 ≤ i + 1; omega, fun b o e => by rw [upd_ne (ne_of_none e hD)]; exact s b o e⟩
      · exact ⟨out, h1, by omega, s⟩
    · rintro H1 ⟨out, h1, h2, s⟩
      intro p hp
      refine ⟨_, rfl, _, rfl, a, rfl, ⟨ns.map V.int, ?_⟩, fun D2 hD2 => lc_list (K := K) (a := a) (xs := ns.map V.int) (fun i H' => ∃ out : List Int, H' D2 = some (.lst (out.map V.int)) ∧ out.length ≤ i ∧ Same (upd H1 p (.dK [])) H')
        ⟨[], upd_same, Nat.le_refl _, same_new hD2⟩ (fun i H' _ ⟨_, _, _, s2⟩ => (s.trans ((same_new hp).trans s2)).seq hS) ?_ ?_⟩
      · exact ((same_new hp).seq (s.seq hS))
      · rintro i x H' hi ⟨out2, g1, g2, s2⟩
        obtain ⟨z, hz, rfl⟩ := int_at hi
        have hlt : i < ns.length := by
          by_cases q : i < ns.length
          · exact q
          · rw [List.getElem?_eq_none (by omega)] at hz
            cases hz
        refine ⟨rfl, yesT ?_⟩
        refine ⟨_, rfl, _, rfl, _, g1, ?_, ?_⟩
        · rw [List.length_map]
          exact small1000 (by omega)
        · exact ⟨out2 ++ [(if z < 0 then -z else z)], by rw [upd_same, List.map_append]; rfl, by rw [List.length_append]; show out2.length + 1 ≤ i + 1; omega, fun b o e => by rw [upd_ne (ne_of_none e hD2)]; exact s2 b o e⟩
      · rintro H2 ⟨out2, g1, g2, s2⟩
        have hp2 : H2 p = some (.dK []) := s2 _ _ upd_same
        refine ⟨hp2, drK D D2 0 0, rfl, (by show 4 ≤ 15; decide), ?_⟩
        have nD : D ≠ p := ne_of_none h1 hp
        have nD2 : D2 ≠ p := (ne_of_none upd_same hD2).symm
        have e1 : H2 D = some (.lst (out.map V.int)) := s2 _ _ (by rw [upd_ne nD]; exact h1)
        have nDD : D ≠ D2 := ne_of_none (o := .lst (out.map V.int)) (by rw [upd_ne nD]; exact h1) hD2
        have em : mergeK [] (drK D D2 0 0) = drK D D2 0 0 := merge_dr
        rw [em]
        refine k p D D2 _ (s.free hp) hD ((s.trans (same_new hp)).free hD2) (fun b o e => ?_) ⟨out, out2, 0, 0, upd_same, by rw [upd_ne nD]; exact e1, by rw [upd_ne nD2]; exact g1, nDD⟩
        have nb : b ≠ p := ne_of_none (s b o e) hp
        rw [upd_ne nb]
        exact s2 b o (by rw [upd_ne nb]; exact s b o e)
theorem scBlend : FnScope ["draw", "turn", "found", "prime", "stirred", "cell"] ["draw"] (defScope sBlend) := ⟨rfl, rfl, rfl, by decide +kernel, rfl, by decide +kernel, by decide +kernel⟩
theorem ok_blend (F : FnP K "_law_blend" sBlend f fd) (int0 : mg "int" = none) : FnOk P w K mg base CX0 1 f fd ["draw"] spBlend := by
  refine F.ok scBlend (fun vs H Q E h => ?_) (fun cdv A outer s H vs Q E hr h => ?_)
  · obtain ⟨d, l, c, ls, cs, r, t, rfl, _⟩ := h
    rfl
  · obtain ⟨d, l, c, ls, cs, r, t, rfl, D, k⟩ := h
    have hu := hu_of hr
    refine ⟨_, PSs.nox (pss_cons (ps_par (i := 1) (j := 2) (by rfl) scBlend.nd rfl rfl (by decide) rfl rfl (pa_cons (pe_op op_add (pe_dget hu (pv 0) pe_str (fun _ _ => rfl)) pe_int) (pa_cons pe_int pa_nil)) (by rfl))
      (pss_cons (ps_dput hu (pv 0) pe_str (pv 1) rfl)
      (pss_cons (ps_for PassesOwn.never rfl (pi_list (pe_lst (pa_cons pe_int (pa_cons pe_int (pa_cons pe_int pa_nil))))) (pg_name (i := 3) scBlend.nd rfl (Or.inl rfl))
        (pss_cons (ps_set (i := 4) scBlend.nd rfl (Or.inl rfl) (pe_op op_mod (pe_callTy call_int1 (by rfl) int0 boot_int (pa_cons (pe_op op_add (pe_op op_mul (pv 1) pe_int) (pe_op op_fdiv (pv 3) pe_int)) pa_nil)) (pv 3)))
        (pss_cons (ps_for PassesOwn.never rfl (pi_list (pe_dget hu (pv 0) pe_str (fun _ _ => rfl))) (pg_name (i := 5) scBlend.nd rfl (Or.inl rfl))
          (pss_one (ps_set (i := 4) scBlend.nd rfl (Or.inl rfl) (pe_op op_mod (pe_callTy call_int1 (by rfl) int0 boot_int (pa_cons (pe_op op_add (pe_op op_add (pe_op op_mul (pv 4) pe_int) (pe_callTy call_int1 (by rfl) int0 boot_int (pa_cons (pv 5) pa_nil))) pe_int) pa_nil)) (pv 3)))))
        (pss_one (ps_set (i := 2) scBlend.nd rfl (Or.inl rfl) (pe_op op_add (pe_op op_mul (pv 2) pe_int) (pe_op op_mod (pe_callTy call_int1 (by rfl) int0 boot_int (pa_cons (pe_op op_pow (pv 4) pe_int) pa_nil)) (pv 3))))))))
      (pss_one (ps_ret (pv 2)))))), ?_⟩
    refine ⟨_, rfl, d, _, rfl, D.gTurn, _, _, rfl, rfl, _, _, rfl, ?_⟩
    refine ⟨_, rfl, _, rfl, d, _, rfl, D.pTurn _, ?_⟩
    have D1 := D.turn (t + 1)
    refine ⟨(by show 3 ≤ sizeLine; decide), fun p hp => ?_⟩
    have D2 := D1.same (same_new (o := .lst ([2147483629, 2147483587, 2147483579].map V.int)) hp)
    refine ⟨p, rfl, ⟨[2147483629, 2147483587, 2147483579].map V.int, SqL.of upd_same⟩, for_list (K := K) (a := p) (xs := [2147483629, 2147483587, 2147483579].map V.int)
      (fun i σ H2 => ∃ (v : Int) (x3 x4 x5 : Option V), σ = [some (.ref d), some (.int (t + 1)), some (.int v), x3, x4, x5] ∧ H2 = upd (upd H d (.dK (drK l c r (t + 1)))) p (.lst ([2147483629, 2147483587, 2147483579].map V.int)))
      ⟨0, none, none, none, rfl, rfl⟩ (fun i σ H2 _ ⟨_, _, _, _, _, e⟩ => by rw [e]; exact SqL.of upd_same) ?_ ?_⟩
    · rintro i x σ H2 hi ⟨v, x3, x4, x5, rfl, rfl⟩
      obtain ⟨q, hq, rfl⟩ := int_at hi
      have hq2 : 0 < q ∧ q ≤ 2147483648 := by
        rcases i with _ | _ | _ | i
        · cases hq; exact ⟨by decide, by decide⟩
        · cases hq; exact ⟨by decide, by decide⟩
        · cases hq; exact ⟨by decide, by decide⟩
        · cases hq
      refine ⟨_, rfl, _, _, rfl, rfl, .inr ⟨by decide, by decide⟩, _, rfl, _, _, rfl, rfl, ⟨by decide, by decide⟩, _, _, rfl, rfl, .inl ⟨_, rfl, _, rfl, _, _, rfl, rfl, hq2.1, ?_⟩⟩
      refine ⟨_, rfl, d, _, rfl, D2.gCells, c, rfl, ⟨cs.map V.int, SqL.of D2.dc⟩, for_list (K := K) (a := c) (xs := cs.map V.int)
        (fun j σ H2 => ∃ (z : Int) (y5 : Option V), σ = [some (.ref d), some (.int (t + 1)), some (.int v), some (.int q), some (.int z), y5] ∧ 0 ≤ z ∧ z < q ∧ H2 = upd (upd H d (.dK (drK l c r (t + 1)))) p (.lst ([2147483629, 2147483587, 2147483579].map V.int)))
        ⟨_, x5, rfl, Int.emod_nonneg _ (by omega), Int.emod_lt_of_pos _ hq2.1, rfl⟩ (fun j σ H2 _ ⟨_, _, _, _, _, e⟩ => by rw [e]; exact SqL.of D2.dc) ?_ ?_⟩
      · rintro j x σ H2 hj ⟨z, y5, rfl, z0, z1, rfl⟩
        obtain ⟨u, hu2, rfl⟩ := int_at hj
        refine ⟨_, rfl, _, _, rfl, rfl, .inr ⟨by decide, by decide⟩, _, rfl, .inl ⟨_, rfl, _, _, rfl, rfl, _, _, rfl, rfl, .inl ⟨_, rfl, _, rfl, _, _, rfl, rfl, hq2.1, ?_⟩⟩⟩
        exact ⟨_, some (.int u), rfl, Int.emod_nonneg _ (by omega), Int.emod_lt_of_pos _ hq2.1, rfl⟩
      · rintro σ H2 ⟨z, y5, rfl, z0, z1, rfl⟩
        refine ⟨_, rfl, _, _, rfl, rfl, .inr ⟨by decide, by decide⟩, _, rfl, _, _, rfl, rfl, pow_small z0 z1 hq2.2, .inl ⟨_, rfl, _, rfl, _, _, rfl, rfl, hq2.1, _, _, rfl, rfl, ?_⟩⟩
        exact ⟨_, some (.int q), some (.int z), y5, rfl, rfl⟩
    · rintro σ H2 ⟨v, x3, x4, x5, rfl, rfl⟩
      exact ⟨_, rfl, k v (t + 1) _ D2 (sameX_d.trans (sameX_new hp))⟩
theorem scTake : FnScope ["draw", "size", "found"] ["draw", "size"] (defScope sTake) := ⟨rfl, rfl, rfl, by decide +kernel, rfl, by decide +kernel, by decide +kernel⟩
theorem ok_take (F : FnP K "_law_take" sTake f fd) (int0 : mg "int" = none) (FB : FnP K "_law_blend" sBlend fB fdB) (gB : mg "_law_blend" = some (.ref fB)) : FnOk P w K mg base CX0 2 f fd ["draw", "size"] spTake := by
  have GB : FnOk P w K mg base CX0 1 fB fdB ["draw"] spBlend := ok_blend FB int0
  have bB : Binds K fdB ["draw"] [] := FB.bindsN fun _ _ _ _ _ _ us hl => match us, hl with | [_], _ => rfl
  refine F.ok scTake (fun vs H Q E h => ?_) (fun cdv A outer s H vs Q E hr h => ?_)
  · obtain ⟨d, l, c, n, rfl, _⟩ := h
    rfl
  · obtain ⟨d, l, c, n, rfl, ⟨ls, cs, r, t, D⟩, n0, n1, k⟩ := h
    have hu := hu_of hr
    refine ⟨_, PSs.nox (pss_cons (ps_while PassesOwn.never (PW.pt (pw_and (pt_cmpR op_eq (pe_dget hu (pv 0) pe_str (fun _ _ => rfl)) pe_int (nomark _)) (pw_and1 (pt_cmpR (op_neD hr.units) (pe_dget hu (pv 0) pe_str (fun _ _ => rfl)) (pe_lst pa_nil) (nomark _)))))
        (pss_one (ps_dput hu (pv 0) pe_str (pe_bm PySem.F.plainAttrs_list PySem.F.slot_list_pop PySem.F.type_list_pop mt_popAt (pe_dget hu (pv 0) pe_str (fun _ _ => rfl)) (pa_cons pe_int pa_nil)) rfl)))
      (pss_cons (ps_if (pt_cmpR op_eq (pe_dget hu (pv 0) pe_str (fun _ _ => rfl)) pe_int (nomark _))
          (pss_one (ps_dput hu (pv 0) pe_str (pe_call GB hr rfl gB FB.kp bB .nil pass0 (pa_cons (pv 0) pa_nil)) rfl)) pss_nil)
      (pss_cons (ps_set (i := 2) scTake.nd rfl (Or.inl rfl) (pe_op op_mod (pe_callTy call_int1 (by rfl) int0 boot_int (pa_cons (pe_dget hu (pv 0) pe_str (fun _ _ => rfl)) pa_nil)) (pv 1)))
      (pss_cons (ps_dput hu (pv 0) pe_str (pe_op op_fdivW (pe_callTy call_int1 (by rfl) int0 boot_int (pa_cons (pe_dget hu (pv 0) pe_str (fun _ _ => rfl)) pa_nil)) (pv 1)) rfl)
      (pss_one (ps_ret (pv 2))))))), ?_⟩
    refine ⟨fun m σ H' => ∃ (ls' : List Int) (r' : Int), σ = [some (.ref d), some (.int n), none] ∧ DrawAt H' d l c ls' cs r' t ∧ SameX d l H H' ∧ m = ls'.length, ⟨_, ls, r, rfl, D, SameX.refl _ _ _, rfl⟩, ?_⟩
    rintro m σ H1 ⟨ls1, r1, rfl, D1, s1, rfl⟩
    refine ⟨_, rfl, d, _, rfl, D1.gRest, rfl, _, rfl, ?_⟩
    refine ite2 (fun e0 => ?_) (fun e0 => ?_)
    · refine ⟨_, rfl, d, _, rfl, D1.gLarge, ?_⟩
      refine ⟨(by show 0 ≤ sizeLine; decide), fun p hp => ?_⟩
      have D2 := D1.same (same_new (o := .lst []) hp)
      have s2 := s1.trans (sameX_new (o := .lst []) hp)
      refine ⟨.list (intsD ls1), .list [], .lst (SqL.of D2.dl) (ints_dp _), .lst (SqL.of upd_same) .nil, ints_shaped _, rfl, _, rfl, ?_⟩
      cases ls1 with
      | nil =>
        refine iteF ?_
        have D1 := D2
        have s1 := s2
        refine ⟨_, rfl, d, _, rfl, D1.gRest, rfl, _, rfl, ?_⟩
        refine ite2 (fun _ => ?_) (fun _ => ?_)
        · refine ⟨_, rfl, d, l, c, _, cs, _, t, rfl, D1, fun v t' H2 D2 s2 => ?_⟩
          have DD := D2.rest v
          have SS := (s1.trans s2).trans (sameX_d (o := .dK (drK l c v t')))
          refine ⟨_, rfl, d, _, rfl, D2.pRest v, ?_⟩
          refine ⟨_, rfl, d, _, rfl, DD.gRest, .inl ⟨_, rfl, _, rfl, _, _, rfl, rfl, n0, ?_⟩⟩
          refine ⟨_, rfl, d, _, rfl, DD.gRest, .inl ⟨_, rfl, _, rfl, _, _, rfl, rfl, ⟨n0, n1⟩, _, rfl, d, _, rfl, DD.pRest _, _, rfl, ?_⟩⟩
          exact k _ _ (Int.emod_nonneg _ (by omega)) (Int.emod_lt_of_pos _ n0) ⟨_, cs, _, _, DD.rest _⟩ (SS.trans sameX_d)
        · have DD := D1
          have SS := s1
          refine ⟨_, rfl, d, _, rfl, DD.gRest, .inl ⟨_, rfl, _, rfl, _, _, rfl, rfl, n0, ?_⟩⟩
          refine ⟨_, rfl, d, _, rfl, DD.gRest, .inl ⟨_, rfl, _, rfl, _, _, rfl, rfl, ⟨n0, n1⟩, _, rfl, d, _, rfl, DD.pRest _, _, rfl, ?_⟩⟩
          exact k _ _ (Int.emod_nonneg _ (by omega)) (Int.emod_lt_of_pos _ n0) ⟨_, cs, _, _, DD.rest _⟩ (SS.trans sameX_d)
      | cons z zs =>
        refine iteT ⟨_, fun σ' H' e => e, ?_⟩
        refine ⟨_, rfl, d, _, rfl, D2.gLarge, .inl ⟨rfl, _, SqL.of D2.dl⟩, ?_⟩
        refine ⟨l, _, _, 0, V.int z, rfl, rfl, D2.dl, by decide, by decide, pop_ix _, rfl, ?_⟩
        have D3 := D2.pop (ls' := zs)
        refine ⟨_, rfl, d, _, rfl, D3.pRest _, ?_⟩
        exact ⟨zs.length, Nat.lt_succ_self _, zs, z, rfl, D3.rest z, (s2.trans sameX_l).trans sameX_d, rfl⟩
    · refine iteF ?_
      refine ⟨_, rfl, d, _, rfl, D1.gRest, rfl, _, rfl, ?_⟩
      refine ite2 (fun _ => ?_) (fun _ => ?_)
      · refine ⟨_, rfl, d, l, c, _, cs, _, t, rfl, D1, fun v t' H2 D2 s2 => ?_⟩
        have DD := D2.rest v
        have SS := (s1.trans s2).trans (sameX_d (o := .dK (drK l c v t')))
        refine ⟨_, rfl, d, _, rfl, D2.pRest v, ?_⟩
        refine ⟨_, rfl, d, _, rfl, DD.gRest, .inl ⟨_, rfl, _, rfl, _, _, rfl, rfl, n0, ?_⟩⟩
        refine ⟨_, rfl, d, _, rfl, DD.gRest, .inl ⟨_, rfl, _, rfl, _, _, rfl, rfl, ⟨n0, n1⟩, _, rfl, d, _, rfl, DD.pRest _, _, rfl, ?_⟩⟩
        exact k _ _ (Int.emod_nonneg _ (by omega)) (Int.emod_lt_of_pos _ n0) ⟨_, cs, _, _, DD.rest _⟩ (SS.trans sameX_d)
      · have DD := D1
        have SS := s1
        refine ⟨_, rfl, d, _, rfl, DD.gRest, .inl ⟨_, rfl, _, rfl, _, _, rfl, rfl, n0, ?_⟩⟩
        refine ⟨_, rfl, d, _, rfl, DD.gRest, .inl ⟨_, rfl, _, rfl, _, _, rfl, rfl, ⟨n0, n1⟩, _, rfl, d, _, rfl, DD.pRest _, _, rfl, ?_⟩⟩
        exact k _ _ (Int.emod_nonneg _ (by omega)) (Int.emod_lt_of_pos _ n0) ⟨_, cs, _, _, DD.rest _⟩ (SS.trans sameX_d)
/-! ### _law_pick -/
theorem scPick : FnScope ["draw", "some"] ["draw", "some"] (defScope sPick) := ⟨rfl, rfl, rfl, by decide +kernel, rfl, by decide +kernel, by decide +kernel⟩
theorem ok_pick (F : FnP K "_law_pick" sPick f fd) (len0 : mg "len" = none) (GT : FnOk P w K mg base CX0 2 fT fdT ["draw", "size"] spTake) (bT : Binds K fdT ["draw", "size"] []) (gT : mg "_law_take" = some (.ref fT)) (kT : PySem.W.keepIn K (.ref fT) = true) :
    FnOk P w K mg base CX0 3 f fd ["draw", "some"] (spPick K) := by
  refine F.ok scPick (fun vs H Q E h => ?_) (fun cdv A outer s H vs Q E hr h => ?_)
  · obtain ⟨d, l, c, a, xs, rfl, _⟩ := h
    rfl
  · obtain ⟨d, l, c, a, xs, rfl, D, hA, hne, hlen, q⟩ := h
    refine ⟨_, PSs.nox (pss_one (ps_ret (pe_ix ix_list (pv 1) (pe_call GT hr rfl gT kT bT .nil pass0 (pa_cons (pv 0) (pa_cons (pe_callB call_len (by rfl) len0 PySem.boot_len (pa_cons (pv 1) pa_nil)) pa_nil))) (fun _ _ => rfl)))), ?_⟩
    have h0 : 0 < xs.length := List.length_pos_iff.mpr hne
    refine ⟨_, rfl, _, rfl, _, rfl, _, xs.length, rfl, .inl ⟨_, hA H (SameX.refl _ _ _), rfl⟩, d, l, c, _, rfl, D, by omega, log_small hlen, fun v H' v0 v1 D' s' => ?_⟩
    obtain ⟨i, rfl⟩ : ∃ i : Nat, v = (i : Int) := ⟨v.toNat, by omega⟩
    have hi : i < xs.length := by omega
    refine ⟨a, xs, _, xs[i], rfl, rfl, hA H' s', atI_nat (by simp [hi]), ?_⟩
    exact q _ _ (List.getElem_mem hi) D' s'
end
end Dr

set_option Elab.async false
set_option linter.all false
set_option maxRecDepth 100000
set_option maxHeartbeats 4000000
set_option pp.maxSteps 3000
set_option exponentiation.threshold 500000
namespace K03
open PySem PySem.Spec PyProof.Rows L2 Dr Xv LamX Ps Gn
abbrev s_is_number : Stmt := top 9
abbrev s_is_within : Stmt := top 10
abbrev s_are_numbers : Stmt := top 11
abbrev s_is_number_list : Stmt := top 12
abbrev s_check_most : Stmt := top 13
abbrev s_check_powers : Stmt := top 16
abbrev s_product_row : Stmt := top 17
abbrev s_row_from_sums : Stmt := top 18
abbrev s_weighted_sums : Stmt := top 19
abbrev s_sums_over_divisors : Stmt := top 20
abbrev s_check_steps : Stmt := top 23
abbrev s_check_half_steps : Stmt := top 24
abbrev s_check_sign : Stmt := top 25
abbrev s_triple_sum : Stmt := top 26
abbrev s_triple_product : Stmt := top 27
abbrev s_quintuple_sum : Stmt := top 28
abbrev s_quintuple_product : Stmt := top 29
abbrev s__put : Stmt := top 30
abbrev s__put_factor : Stmt := top 31
abbrev s__law_begun : Stmt := top 33
abbrev s__law_blend : Stmt := top 34
abbrev s__law_take : Stmt := top 35
abbrev s__law_pick : Stmt := top 36
abbrev s__law_caught : Stmt := top 37
abbrev s__law_sigmas : Stmt := top 38
abbrev s__law_row : Stmt := top 39
abbrev s__law_summed : Stmt := top 40
abbrev s__law_product : Stmt := top 41
abbrev s_law : Stmt := top 42
abbrev N_is_number : List Str := List.map Str.ofString ["thing"]
theorem sc_is_number : FnScope N_is_number ["thing"] (defScope s_is_number) := ⟨rfl, rfl, rfl, by decide +kernel, rfl, by decide +kernel, by decide +kernel⟩
abbrev N_is_within : List Str := List.map Str.ofString ["thing", "least", "greatest"]
theorem sc_is_within : FnScope N_is_within ["thing", "least", "greatest"] (defScope s_is_within) := ⟨rfl, rfl, rfl, by decide +kernel, rfl, by decide +kernel, by decide +kernel⟩
abbrev N_are_numbers : List Str := List.map Str.ofString ["things", "thing"]
theorem sc_are_numbers : FnScope N_are_numbers ["things"] (defScope s_are_numbers) := ⟨rfl, rfl, rfl, by decide +kernel, rfl, by decide +kernel, by decide +kernel⟩
abbrev N_is_number_list : List Str := List.map Str.ofString ["thing"]
theorem sc_is_number_list : FnScope N_is_number_list ["thing"] (defScope s_is_number_list) := ⟨rfl, rfl, rfl, by decide +kernel, rfl, by decide +kernel, by decide +kernel⟩
abbrev N_check_most : List Str := List.map Str.ofString ["most"]
theorem sc_check_most : FnScope N_check_most ["most"] (defScope s_check_most) := ⟨rfl, rfl, rfl, by decide +kernel, rfl, by decide +kernel, by decide +kernel⟩
abbrev N_check_powers : List Str := List.map Str.ofString ["powers"]
theorem sc_check_powers : FnScope N_check_powers ["powers"] (defScope s_check_powers) := ⟨rfl, rfl, rfl, by decide +kernel, rfl, by decide +kernel, by decide +kernel⟩
abbrev N_product_row : List Str := List.map Str.ofString ["powers", "most"]
theorem sc_product_row : FnScope N_product_row ["powers", "most"] (defScope s_product_row) := ⟨rfl, rfl, rfl, by decide +kernel, rfl, by decide +kernel, by decide +kernel⟩
abbrev N_row_from_sums : List Str := List.map Str.ofString ["sums", "later", "row", "n", "total", "x", "y"]
theorem sc_row_from_sums : FnScope N_row_from_sums ["sums"] (defScope s_row_from_sums) := ⟨rfl, rfl, rfl, by decide +kernel, rfl, by decide +kernel, by decide +kernel⟩
abbrev N_weighted_sums : List Str := List.map Str.ofString ["powers", "most"]
theorem sc_weighted_sums : FnScope N_weighted_sums ["powers", "most"] (defScope s_weighted_sums) := ⟨rfl, rfl, rfl, by decide +kernel, rfl, by decide +kernel, by decide +kernel⟩
abbrev N_sums_over_divisors : List Str := List.map Str.ofString ["powers", "size", "sums", "d", "power", "n"]
theorem sc_sums_over_divisors : FnScope N_sums_over_divisors ["powers", "size"] (defScope s_sums_over_divisors) := ⟨rfl, rfl, rfl, by decide +kernel, rfl, by decide +kernel, by decide +kernel⟩
abbrev N_check_steps : List Str := List.map Str.ofString ["m", "s"]
theorem sc_check_steps : FnScope N_check_steps ["m", "s"] (defScope s_check_steps) := ⟨rfl, rfl, rfl, by decide +kernel, rfl, by decide +kernel, by decide +kernel⟩
abbrev N_check_half_steps : List Str := List.map Str.ofString ["m", "s"]
theorem sc_check_half_steps : FnScope N_check_half_steps ["m", "s"] (defScope s_check_half_steps) := ⟨rfl, rfl, rfl, by decide +kernel, rfl, by decide +kernel, by decide +kernel⟩
abbrev N_check_sign : List Str := List.map Str.ofString ["sign"]
theorem sc_check_sign : FnScope N_check_sign ["sign"] (defScope s_check_sign) := ⟨rfl, rfl, rfl, by decide +kernel, rfl, by decide +kernel, by decide +kernel⟩
abbrev N_triple_sum : List Str := List.map Str.ofString ["m", "s", "sign", "most", "row", "reach", "k"]
theorem sc_triple_sum : FnScope N_triple_sum ["m", "s", "sign", "most"] (defScope s_triple_sum) := ⟨rfl, rfl, rfl, by decide +kernel, rfl, by decide +kernel, by decide +kernel⟩
abbrev N_triple_product : List Str := List.map Str.ofString ["m", "s", "sign", "most", "powers", "n"]
theorem sc_triple_product : FnScope N_triple_product ["m", "s", "sign", "most"] (defScope s_triple_product) := ⟨rfl, rfl, rfl, by decide +kernel, rfl, by decide +kernel, by decide +kernel⟩
abbrev N_quintuple_sum : List Str := List.map Str.ofString ["m", "s", "most", "row", "reach", "k", "middle"]
theorem sc_quintuple_sum : FnScope N_quintuple_sum ["m", "s", "most"] (defScope s_quintuple_sum) := ⟨rfl, rfl, rfl, by decide +kernel, rfl, by decide +kernel, by decide +kernel⟩
abbrev N_quintuple_product : List Str := List.map Str.ofString ["m", "s", "most", "powers", "n"]
theorem sc_quintuple_product : FnScope N_quintuple_product ["m", "s", "most"] (defScope s_quintuple_product) := ⟨rfl, rfl, rfl, by decide +kernel, rfl, by decide +kernel, by decide +kernel⟩
abbrev N__put : List Str := List.map Str.ofString ["numbers", "place", "number"]
theorem sc__put : FnScope N__put ["numbers", "place", "number"] (defScope s__put) := ⟨rfl, rfl, rfl, by decide +kernel, rfl, by decide +kernel, by decide +kernel⟩
abbrev N__put_factor : List Str := List.map Str.ofString ["powers", "n", "sign"]
theorem sc__put_factor : FnScope N__put_factor ["powers", "n", "sign"] (defScope s__put_factor) := ⟨rfl, rfl, rfl, by decide +kernel, rfl, by decide +kernel, by decide +kernel⟩
abbrev N__law_caught : List Str := List.map Str.ofString ["work", "caught", "error"]
theorem sc__law_caught : FnScope N__law_caught ["work"] (defScope s__law_caught) := ⟨rfl, rfl, rfl, by decide +kernel, rfl, by decide +kernel, by decide +kernel⟩
abbrev N__law_sigmas : List Str := List.map Str.ofString ["most", "found", "d", "n"]
theorem sc__law_sigmas : FnScope N__law_sigmas ["most"] (defScope s__law_sigmas) := ⟨rfl, rfl, rfl, by decide +kernel, rfl, by decide +kernel, by decide +kernel⟩
abbrev N__law_row : List Str := List.map Str.ofString ["quotient", "most", "sums", "weights", "d", "n", "found", "k"]
theorem sc__law_row : FnScope N__law_row ["quotient", "most"] (defScope s__law_row) := ⟨rfl, rfl, rfl, by decide +kernel, rfl, by decide +kernel, by decide +kernel⟩
abbrev N__law_summed : List Str := List.map Str.ofString ["items", "most", "found", "exponent", "number"]
theorem sc__law_summed : FnScope N__law_summed ["items", "most"] (defScope s__law_summed) := ⟨rfl, rfl, rfl, by decide +kernel, rfl, by decide +kernel, by decide +kernel⟩
abbrev N__law_product : List Str := List.map Str.ofString ["factors", "most", "found", "exponent", "step", "sign", "n", "item"]
theorem sc__law_product : FnScope N__law_product ["factors", "most"] (defScope s__law_product) := ⟨rfl, rfl, rfl, by decide +kernel, rfl, by decide +kernel, by decide +kernel⟩
abbrev N_law : List Str := List.map Str.ofString ["script", "draw", "lap", "m", "sign", "most", "s", "items", "fives", "k", "due", "here", "factors", "odd", "far", "late", "checks"]
theorem sc_law : FnScope N_law ["script"] (defScope s_law) := ⟨rfl, rfl, rfl, by decide +kernel, rfl, by decide +kernel, by decide +kernel⟩
/-- what the top has left -/
structure Mod (P : Program) (w : World) (K : PySem.W.Frag) (mg : Str → Option Value) (base : Heap) : Type where
  (f_is_number f_is_within f_are_numbers f_is_number_list f_check_most f_check_powers f_product_row f_row_from_sums f_weighted_sums f_sums_over_divisors f_check_steps f_check_half_steps f_check_sign f_triple_sum f_triple_product f_quintuple_sum f_quintuple_product f__put f__put_factor f__law_begun f__law_blend f__law_take f__law_pick f__law_caught f__law_sigmas f__law_row f__law_summed f__law_product f_law : Addr)
  (d_is_number d_is_within d_are_numbers d_is_number_list d_check_most d_check_powers d_product_row d_row_from_sums d_weighted_sums d_sums_over_divisors d_check_steps d_check_half_steps d_check_sign d_triple_sum d_triple_product d_quintuple_sum d_quintuple_product d__put d__put_factor d__law_begun d__law_blend d__law_take d__law_pick d__law_caught d__law_sigmas d__law_row d__law_summed d__law_product d_law : FuncData)
  (a_SeriesError a_BadMost a_BadNumber a_BadRow a_BadStep : Addr)
  (t_GREATEST_MOST t_MOST_POWERS t_GREATEST_STEP : Tok)
  F_is_number : FnP K "is_number" s_is_number f_is_number d_is_number
  g_is_number : mg "is_number" = some (.ref f_is_number)
  F_is_within : FnP K "is_within" s_is_within f_is_within d_is_within
  g_is_within : mg "is_within" = some (.ref f_is_within)
  F_are_numbers : FnP K "are_numbers" s_are_numbers f_are_numbers d_are_numbers
  g_are_numbers : mg "are_numbers" = some (.ref f_are_numbers)
  F_is_number_list : FnP K "is_number_list" s_is_number_list f_is_number_list d_is_number_list
  g_is_number_list : mg "is_number_list" = some (.ref f_is_number_list)
  F_check_most : FnP K "check_most" s_check_most f_check_most d_check_most
  g_check_most : mg "check_most" = some (.ref f_check_most)
  F_check_powers : FnP K "check_powers" s_check_powers f_check_powers d_check_powers
  g_check_powers : mg "check_powers" = some (.ref f_check_powers)
  F_product_row : FnP K "product_row" s_product_row f_product_row d_product_row
  g_product_row : mg "product_row" = some (.ref f_product_row)
  F_row_from_sums : FnP K "row_from_sums" s_row_from_sums f_row_from_sums d_row_from_sums
  g_row_from_sums : mg "row_from_sums" = some (.ref f_row_from_sums)
  F_weighted_sums : FnP K "weighted_sums" s_weighted_sums f_weighted_sums d_weighted_sums
  g_weighted_sums : mg "weighted_sums" = some (.ref f_weighted_sums)
  F_sums_over_divisors : FnP K "sums_over_divisors" s_sums_over_divisors f_sums_over_divisors d_sums_over_divisors
  g_sums_over_divisors : mg "sums_over_divisors" = some (.ref f_sums_over_divisors)
  F_check_steps : FnP K "check_steps" s_check_steps f_check_steps d_check_steps
  g_check_steps : mg "check_steps" = some (.ref f_check_steps)
  F_check_half_steps : FnP K "check_half_steps" s_check_half_steps f_check_half_steps d_check_half_steps
  g_check_half_steps : mg "check_half_steps" = some (.ref f_check_half_steps)
  F_check_sign : FnP K "check_sign" s_check_sign f_check_sign d_check_sign
  g_check_sign : mg "check_sign" = some (.ref f_check_sign)
  F_triple_sum : FnP K "triple_sum" s_triple_sum f_triple_sum d_triple_sum
  g_triple_sum : mg "triple_sum" = some (.ref f_triple_sum)
  F_triple_product : FnP K "triple_product" s_triple_product f_triple_product d_triple_product
  g_triple_product : mg "triple_product" = some (.ref f_triple_product)
  F_quintuple_sum : FnP K "quintuple_sum" s_quintuple_sum f_quintuple_sum d_quintuple_sum
  g_quintuple_sum : mg "quintuple_sum" = some (.ref f_quintuple_sum)
  F_quintuple_product : FnP K "quintuple_product" s_quintuple_product f_quintuple_product d_quintuple_product
  g_quintuple_product : mg "quintuple_product" = some (.ref f_quintuple_product)
  F__put : FnP K "_put" s__put f__put d__put
  g__put : mg "_put" = some (.ref f__put)
  F__put_factor : FnP K "_put_factor" s__put_factor f__put_factor d__put_factor
  g__put_factor : mg "_put_factor" = some (.ref f__put_factor)
  F__law_begun : FnP K "_law_begun" s__law_begun f__law_begun d__law_begun
  g__law_begun : mg "_law_begun" = some (.ref f__law_begun)
  F__law_blend : FnP K "_law_blend" s__law_blend f__law_blend d__law_blend
  g__law_blend : mg "_law_blend" = some (.ref f__law_blend)
  F__law_take : FnP K "_law_take" s__law_take f__law_take d__law_take
  g__law_take : mg "_law_take" = some (.ref f__law_take)
  F__law_pick : FnP K "_law_pick" s__law_pick f__law_pick d__law_pick
  g__law_pick : mg "_law_pick" = some (.ref f__law_pick)
  F__law_caught : FnP K "_law_caught" s__law_caught f__law_caught d__law_caught
  g__law_caught : mg "_law_caught" = some (.ref f__law_caught)
  F__law_sigmas : FnP K "_law_sigmas" s__law_sigmas f__law_sigmas d__law_sigmas
  g__law_sigmas : mg "_law_sigmas" = some (.ref f__law_sigmas)
  F__law_row : FnP K "_law_row" s__law_row f__law_row d__law_row
  g__law_row : mg "_law_row" = some (.ref f__law_row)
  F__law_summed : FnP K "_law_summed" s__law_summed f__law_summed d__law_summed
  g__law_summed : mg "_law_summed" = some (.ref f__law_summed)
  F__law_product : FnP K "_law_product" s__law_product f__law_product d__law_product
  g__law_product : mg "_law_product" = some (.ref f__law_product)
  F_law : FnP K "law" s_law f_law d_law
  g_law : mg "law" = some (.ref f_law)
  c_GREATEST_MOST : mg "GREATEST_MOST" = some (.int 3000 t_GREATEST_MOST)
  c_MOST_POWERS : mg "MOST_POWERS" = some (.int 3000 t_MOST_POWERS)
  c_GREATEST_STEP : mg "GREATEST_STEP" = some (.int 200 t_GREATEST_STEP)
  g_SeriesError : mg "SeriesError" = some (.ref a_SeriesError)
  g_BadMost : mg "BadMost" = some (.ref a_BadMost)
  g_BadNumber : mg "BadNumber" = some (.ref a_BadNumber)
  g_BadRow : mg "BadRow" = some (.ref a_BadRow)
  g_BadStep : mg "BadStep" = some (.ref a_BadStep)
  i_isqrt : mg "isqrt" = some (.builtin "math.isqrt")
  E_BadMost : ErrT K a_BadMost a_SeriesError
  E_BadNumber : ErrT K a_BadNumber a_SeriesError
  E_BadRow : ErrT K a_BadRow a_SeriesError
  E_BadStep : ErrT K a_BadStep a_SeriesError
  abs0 : mg "abs" = none
  all0 : mg "all" = none
  bool0 : mg "bool" = none
  enumerate0 : mg "enumerate" = none
  int0 : mg "int" = none
  isinstance0 : mg "isinstance" = none
  len0 : mg "len" = none
  list0 : mg "list" = none
  min0 : mg "min" = none
  range0 : mg "range" = none
  sum0 : mg "sum" = none
  tuple0 : mg "tuple" = none
  zip0 : mg "zip" = none
namespace Mod
variable {P : Program} {w : World} {K : PySem.W.Frag} {mg : Str → Option Value} {base : Heap} (M : Mod P w K mg base)
theorem k_is_number : PySem.W.keepIn K (.ref M.f_is_number) = true := M.F_is_number.kp
theorem b_is_number : L2.Binds K M.d_is_number ["thing"] [] := M.F_is_number.bindsN fun _ _ _ _ _ _ us hl => match us, hl with | [_], _ => rfl
theorem k_is_within : PySem.W.keepIn K (.ref M.f_is_within) = true := M.F_is_within.kp
theorem b_is_within : L2.Binds K M.d_is_within ["thing", "least", "greatest"] [] := M.F_is_within.bindsN fun _ _ _ _ _ _ us hl => match us, hl with | [_, _, _], _ => rfl
theorem k_are_numbers : PySem.W.keepIn K (.ref M.f_are_numbers) = true := M.F_are_numbers.kp
theorem b_are_numbers : L2.Binds K M.d_are_numbers ["things"] [] := M.F_are_numbers.bindsN fun _ _ _ _ _ _ us hl => match us, hl with | [_], _ => rfl
theorem k_is_number_list : PySem.W.keepIn K (.ref M.f_is_number_list) = true := M.F_is_number_list.kp
theorem b_is_number_list : L2.Binds K M.d_is_number_list ["thing"] [] := M.F_is_number_list.bindsN fun _ _ _ _ _ _ us hl => match us, hl with | [_], _ => rfl
theorem k_check_most : PySem.W.keepIn K (.ref M.f_check_most) = true := M.F_check_most.kp
theorem b_check_most : L2.Binds K M.d_check_most ["most"] [] := M.F_check_most.bindsN fun _ _ _ _ _ _ us hl => match us, hl with | [_], _ => rfl
theorem k_check_powers : PySem.W.keepIn K (.ref M.f_check_powers) = true := M.F_check_powers.kp
theorem b_check_powers : L2.Binds K M.d_check_powers ["powers"] [] := M.F_check_powers.bindsN fun _ _ _ _ _ _ us hl => match us, hl with | [_], _ => rfl
theorem k_product_row : PySem.W.keepIn K (.ref M.f_product_row) = true := M.F_product_row.kp
theorem b_product_row : L2.Binds K M.d_product_row ["powers", "most"] [] := M.F_product_row.bindsN fun _ _ _ _ _ _ us hl => match us, hl with | [_, _], _ => rfl
theorem k_row_from_sums : PySem.W.keepIn K (.ref M.f_row_from_sums) = true := M.F_row_from_sums.kp
theorem b_row_from_sums : L2.Binds K M.d_row_from_sums ["sums"] [] := M.F_row_from_sums.bindsN fun _ _ _ _ _ _ us hl => match us, hl with | [_], _ => rfl
theorem k_weighted_sums : PySem.W.keepIn K (.ref M.f_weighted_sums) = true := M.F_weighted_sums.kp
theorem b_weighted_sums : L2.Binds K M.d_weighted_sums ["powers", "most"] [] := M.F_weighted_sums.bindsN fun _ _ _ _ _ _ us hl => match us, hl with | [_, _], _ => rfl
theorem k_sums_over_divisors : PySem.W.keepIn K (.ref M.f_sums_over_divisors) = true := M.F_sums_over_divisors.kp
theorem b_sums_over_divisors : L2.Binds K M.d_sums_over_divisors ["powers", "size"] [] := M.F_sums_over_divisors.bindsN fun _ _ _ _ _ _ us hl => match us, hl with | [_, _], _ => rfl
theorem k_check_steps : PySem.W.keepIn K (.ref M.f_check_steps) = true := M.F_check_steps.kp
theorem b_check_steps : L2.Binds K M.d_check_steps ["m", "s"] [] := M.F_check_steps.bindsN fun _ _ _ _ _ _ us hl => match us, hl with | [_, _], _ => rfl
theorem k_check_half_steps : PySem.W.keepIn K (.ref M.f_check_half_steps) = true := M.F_check_half_steps.kp
theorem b_check_half_steps : L2.Binds K M.d_check_half_steps ["m", "s"] [] := M.F_check_half_steps.bindsN fun _ _ _ _ _ _ us hl => match us, hl with | [_, _], _ => rfl
theorem k_check_sign : PySem.W.keepIn K (.ref M.f_check_sign) = true := M.F_check_sign.kp
theorem b_check_sign : L2.Binds K M.d_check_sign ["sign"] [] := M.F_check_sign.bindsN fun _ _ _ _ _ _ us hl => match us, hl with | [_], _ => rfl
theorem k_triple_sum : PySem.W.keepIn K (.ref M.f_triple_sum) = true := M.F_triple_sum.kp
theorem b_triple_sum : L2.Binds K M.d_triple_sum ["m", "s", "sign", "most"] [] := M.F_triple_sum.bindsN fun _ _ _ _ _ _ us hl => match us, hl with | [_, _, _, _], _ => rfl
theorem k_triple_product : PySem.W.keepIn K (.ref M.f_triple_product) = true := M.F_triple_product.kp
theorem b_triple_product : L2.Binds K M.d_triple_product ["m", "s", "sign", "most"] [] := M.F_triple_product.bindsN fun _ _ _ _ _ _ us hl => match us, hl with | [_, _, _, _], _ => rfl
theorem k_quintuple_sum : PySem.W.keepIn K (.ref M.f_quintuple_sum) = true := M.F_quintuple_sum.kp
theorem b_quintuple_sum : L2.Binds K M.d_quintuple_sum ["m", "s", "most"] [] := M.F_quintuple_sum.bindsN fun _ _ _ _ _ _ us hl => match us, hl with | [_, _, _], _ => rfl
theorem k_quintuple_product : PySem.W.keepIn K (.ref M.f_quintuple_product) = true := M.F_quintuple_product.kp
theorem b_quintuple_product : L2.Binds K M.d_quintuple_product ["m", "s", "most"] [] := M.F_quintuple_product.bindsN fun _ _ _ _ _ _ us hl => match us, hl with | [_, _, _], _ => rfl
theorem k__put : PySem.W.keepIn K (.ref M.f__put) = true := M.F__put.kp
theorem b__put : L2.Binds K M.d__put ["numbers", "place", "number"] [] := M.F__put.bindsN fun _ _ _ _ _ _ us hl => match us, hl with | [_, _, _], _ => rfl
theorem k__put_factor : PySem.W.keepIn K (.ref M.f__put_factor) = true := M.F__put_factor.kp
theorem b__put_factor : L2.Binds K M.d__put_factor ["powers", "n", "sign"] [] := M.F__put_factor.bindsN fun _ _ _ _ _ _ us hl => match us, hl with | [_, _, _], _ => rfl
theorem k__law_begun : PySem.W.keepIn K (.ref M.f__law_begun) = true := M.F__law_begun.kp
theorem b__law_begun : L2.Binds K M.d__law_begun ["script"] [] := M.F__law_begun.bindsN fun _ _ _ _ _ _ us hl => match us, hl with | [_], _ => rfl
theorem k__law_blend : PySem.W.keepIn K (.ref M.f__law_blend) = true := M.F__law_blend.kp
theorem b__law_blend : L2.Binds K M.d__law_blend ["draw"] [] := M.F__law_blend.bindsN fun _ _ _ _ _ _ us hl => match us, hl with | [_], _ => rfl
theorem k__law_take : PySem.W.keepIn K (.ref M.f__law_take) = true := M.F__law_take.kp
theorem b__law_take : L2.Binds K M.d__law_take ["draw", "size"] [] := M.F__law_take.bindsN fun _ _ _ _ _ _ us hl => match us, hl with | [_, _], _ => rfl
theorem k__law_pick : PySem.W.keepIn K (.ref M.f__law_pick) = true := M.F__law_pick.kp
theorem b__law_pick : L2.Binds K M.d__law_pick ["draw", "some"] [] := M.F__law_pick.bindsN fun _ _ _ _ _ _ us hl => match us, hl with | [_, _], _ => rfl
theorem k__law_caught : PySem.W.keepIn K (.ref M.f__law_caught) = true := M.F__law_caught.kp
theorem b__law_caught : L2.Binds K M.d__law_caught ["work"] [] := M.F__law_caught.bindsN fun _ _ _ _ _ _ us hl => match us, hl with | [_], _ => rfl
theorem k__law_sigmas : PySem.W.keepIn K (.ref M.f__law_sigmas) = true := M.F__law_sigmas.kp
theorem b__law_sigmas : L2.Binds K M.d__law_sigmas ["most"] [] := M.F__law_sigmas.bindsN fun _ _ _ _ _ _ us hl => match us, hl with | [_], _ => rfl
theorem k__law_row : PySem.W.keepIn K (.ref M.f__law_row) = true := M.F__law_row.kp
theorem b__law_row : L2.Binds K M.d__law_row ["quotient", "most"] [] := M.F__law_row.bindsN fun _ _ _ _ _ _ us hl => match us, hl with | [_, _], _ => rfl
theorem k__law_summed : PySem.W.keepIn K (.ref M.f__law_summed) = true := M.F__law_summed.kp
theorem b__law_summed : L2.Binds K M.d__law_summed ["items", "most"] [] := M.F__law_summed.bindsN fun _ _ _ _ _ _ us hl => match us, hl with | [_, _], _ => rfl
theorem k__law_product : PySem.W.keepIn K (.ref M.f__law_product) = true := M.F__law_product.kp
theorem b__law_product : L2.Binds K M.d__law_product ["factors", "most"] [] := M.F__law_product.bindsN fun _ _ _ _ _ _ us hl => match us, hl with | [_, _], _ => rfl
theorem k_law : PySem.W.keepIn K (.ref M.f_law) = true := M.F_law.kp
theorem b_law : L2.Binds K M.d_law ["script"] [] := M.F_law.bindsN fun _ _ _ _ _ _ us hl => match us, hl with | [_], _ => rfl
theorem h_triple_sum : KBinds K M.d_triple_sum ["m", "s", "sign", "most"] ["most", "sign", "s", "m"] gR gR := kbR M.F_triple_sum (by decide) fun _ _ _ _ _ _ ws hl => match ws, hl with | [_, _, _, _], _ => rfl
theorem h_triple_product : KBinds K M.d_triple_product ["m", "s", "sign", "most"] ["most", "sign", "s", "m"] gR gR := kbR M.F_triple_product (by decide) fun _ _ _ _ _ _ ws hl => match ws, hl with | [_, _, _, _], _ => rfl
-- ?? keyword order quintuple_product ('most', 'm', 's')
end Mod
section
variable {P : Program} {w : World} {K : PySem.W.Frag} {mg : Str → Option Value} {base : Heap}
theorem ok__law_begun (M : Mod P w K mg base) : FnOk P w K mg base CX0 1 M.f__law_begun M.d__law_begun ["script"] (spBegun K) := ok_begun M.F__law_begun M.abs0
theorem ok__law_take (M : Mod P w K mg base) : FnOk P w K mg base CX0 2 M.f__law_take M.d__law_take ["draw", "size"] spTake := ok_take M.F__law_take M.int0 M.F__law_blend M.g__law_blend
theorem ok__law_pick (M : Mod P w K mg base) : FnOk P w K mg base CX0 3 M.f__law_pick M.d__law_pick ["draw", "some"] (spPick K) := ok_pick M.F__law_pick M.len0 (ok__law_take M) M.b__law_take M.g__law_take M.k__law_take
def sp_is_number : Sp := fun vs H Q _ => ∃ x, vs = [x] ∧ PV H x ∧ Q (.bl (isNum x)) H
theorem ok_is_number (M : Mod P w K mg base) : FnOk P w K mg base CX0 1 M.f_is_number M.d_is_number ["thing"] sp_is_number := by
  refine M.F_is_number.ok sc_is_number (fun vs H Q E h => ?_) (fun cdv A outer s H vs Q E hr h => ?_)
  · obtain ⟨x, rfl, _⟩ := h
    rfl
  · obtain ⟨x, rfl, hx, q⟩ := h
    refine ⟨_, PSs.nox (pss_one (ps_ret (pe_and (pe_callB call_isi (by rfl) M.isinstance0 boot_isinstance (pa_cons (pv 0) (pa_cons (pe_bltn (v := .ty "int") rfl M.int0 (by decide +kernel) rfl) pa_nil))) (pe_one (pe_not (pe_callB call_isi (by rfl) M.isinstance0 boot_isinstance (pa_cons (pv 0) (pa_cons (pe_bltn (v := .ty "bool") rfl M.bool0 (by decide +kernel) rfl) pa_nil)))))))), ?_⟩
    obtain ⟨t, ty, k1, k2⟩ := hx.ty (K := K)
    refine ⟨_, rfl, x, _, t, _, _, rfl, .ty "int", ty, k1, kInt x, rfl, ?_⟩
    have e := kInt_num x
    cases hk : kInt x with
    | true =>
      refine iteT ⟨_, rfl, x, _, t, _, _, rfl, .ty "bool", ty, k2, kBool x, rfl, ?_⟩
      rw [hk, Bool.true_and] at e
      rw [e]
      exact q
    | false =>
      refine iteF ?_
      rw [hk, Bool.false_and] at e
      rw [e]
      exact q
def sp_is_within : Sp := fun vs H Q _ => ∃ (x : V) (lo hi : Int), vs = [x, .int lo, .int hi] ∧ PV H x ∧ Q (.bl (within x lo hi)) H
theorem ok_is_within (M : Mod P w K mg base) : FnOk P w K mg base CX0 2 M.f_is_within M.d_is_within ["thing", "least", "greatest"] sp_is_within := by
  refine M.F_is_within.ok sc_is_within (fun vs H Q E h => ?_) (fun cdv A outer s H vs Q E hr h => ?_)
  · obtain ⟨x, lo, hi, rfl, _⟩ := h
    rfl
  · obtain ⟨x, lo, hi, rfl, hx, q⟩ := h
    refine ⟨_, PSs.nox (pss_one (ps_ret (pe_and (pe_call (ok_is_number M) (hr.mono (by decide)) rfl M.g_is_number M.k_is_number M.b_is_number .nil pass0 (pa_cons (pv 0) pa_nil)) (pe_one (pe_chain op_le op_le (pv 1) (pv 0) (pv 2)))))), ?_⟩
    refine ⟨_, rfl, x, rfl, hx, isNum x, rfl, ?_⟩
    cases x with
    | int i =>
      refine iteT ⟨_, rfl, _, rfl, _, _, rfl, rfl, _, rfl, ?_⟩
      have e : within (.int i) lo hi = (decide (lo ≤ i) && decide (i ≤ hi)) := rfl
      rw [e] at q
      by_cases c : lo ≤ i
      · rw [decide_eq_true c, Bool.true_and] at q
        rw [decide_eq_true c]
        exact iteT ⟨_, rfl, _, _, rfl, rfl, q⟩
      · rw [decide_eq_false c, Bool.false_and] at q
        rw [decide_eq_false c]
        exact iteF q
    | _ => exact iteF q
def sp_are_numbers : Sp := fun vs H Q _ => ∃ (a : Addr) (xs : List V), vs = [.ref a] ∧ Items H (.ref a) (some xs) ∧ xs.length < sizeLine ∧ (∀ v ∈ xs, PV H v) ∧ ∀ H', Same H H' → Q (.bl (xs.all isNum)) H'
theorem ok_are_numbers (M : Mod P w K mg base) : FnOk P w K mg base CX0 2 M.f_are_numbers M.d_are_numbers ["things"] sp_are_numbers := by
  refine M.F_are_numbers.ok sc_are_numbers (fun vs H Q E h => ?_) (fun cdv A outer s H vs Q E hr h => ?_)
  · obtain ⟨a, xs, rfl, _⟩ := h
    rfl
  · obtain ⟨a, xs, rfl, hi, hl, hp, q⟩ := h
    cases hi with
    | lst e =>
      refine ⟨_, PSs.nox (pss_one (ps_ret (pe_callB (cr_all rfl) (by rfl) M.all0 (by decide +kernel) (pa_cons (pe_lc (own := [("thing", 1)]) (g := (gName 1)) (by rfl) sc_are_numbers.nd (pi_list (pv 0)) (blkOk_by (own := [("thing", 1)]) (N := N_are_numbers) (sc := defScope s_are_numbers) (by decide +kernel))
        (fun _ _ _ _ _ => (pg_name (i := 1) sc_are_numbers.nd rfl (Or.inl rfl))) (fun _ _ _ _ _ => pts_nil) (fun _ _ _ _ _ => (pe_call (ok_is_number M) (hr.mono (by decide)) rfl M.g_is_number M.k_is_number M.b_is_number .nil pass0 (pa_cons (pv 1) pa_nil)))) pa_nil)))), ?_⟩
      refine ⟨_, rfl, a, rfl, ⟨_, SqL.of e⟩, fun D hD => lc_list (K := K) (a := a) (xs := xs) (fun i H' => H' D = some (.lst ((xs.take i).map fun v => V.bl (isNum v))) ∧ Same H H')
        ⟨upd_same, same_new hD⟩ (fun i H' _ ⟨_, s⟩ => SqL.of (s _ _ e)) ?_ ?_⟩
      · rintro i x H' hi ⟨h1, s⟩
        refine ⟨rfl, yesT ⟨_, rfl, x, rfl, (hp x (List.mem_of_getElem? hi)).same s, _, h1, ?_, ?_, ?_⟩⟩
        · exact Nat.lt_of_le_of_lt take_len hl
        · rw [upd_same, take_snoc hi]
        · exact fun b o e => by rw [upd_ne (ne_of_none e hD)]; exact s b o e
      · rintro H1 ⟨h1, s⟩
        rw [List.take_length] at h1
        refine ⟨D, xs.map isNum, rfl, ?_, ?_⟩
        · rw [List.map_map]
          exact SqL.of h1
        · have e2 : (xs.map isNum).all id = xs.all isNum := by
            rw [List.all_map]
            rfl
          rw [e2]
          exact q _ s
    | tup e =>
      refine ⟨_, PSs.nox (pss_one (ps_ret (pe_callB (cr_all rfl) (by rfl) M.all0 (by decide +kernel) (pa_cons (pe_lc (own := [("thing", 1)]) (g := (gName 1)) (by rfl) sc_are_numbers.nd (pi_tup (pv 0)) (blkOk_by (own := [("thing", 1)]) (N := N_are_numbers) (sc := defScope s_are_numbers) (by decide +kernel))
        (fun _ _ _ _ _ => (pg_name (i := 1) sc_are_numbers.nd rfl (Or.inl rfl))) (fun _ _ _ _ _ => pts_nil) (fun _ _ _ _ _ => (pe_call (ok_is_number M) (hr.mono (by decide)) rfl M.g_is_number M.k_is_number M.b_is_number .nil pass0 (pa_cons (pv 1) pa_nil)))) pa_nil)))), ?_⟩
      refine ⟨_, rfl, a, rfl, ⟨_, SqT.of e⟩, fun D hD => lc_tup (K := K) (a := a) (xs := xs) (fun i H' => H' D = some (.lst ((xs.take i).map fun v => V.bl (isNum v))) ∧ Same H H')
        ⟨upd_same, same_new hD⟩ (fun i H' _ ⟨_, s⟩ => SqT.of (s _ _ e)) ?_ ?_⟩
      · rintro i x H' hi ⟨h1, s⟩
        refine ⟨rfl, yesT ⟨_, rfl, x, rfl, (hp x (List.mem_of_getElem? hi)).same s, _, h1, ?_, ?_, ?_⟩⟩
        · exact Nat.lt_of_le_of_lt take_len hl
        · rw [upd_same, take_snoc hi]
        · exact fun b o e => by rw [upd_ne (ne_of_none e hD)]; exact s b o e
      · rintro H1 ⟨h1, s⟩
        rw [List.take_length] at h1
        refine ⟨D, xs.map isNum, rfl, ?_, ?_⟩
        · rw [List.map_map]
          exact SqL.of h1
        · have e2 : (xs.map isNum).all id = xs.all isNum := by
            rw [List.all_map]
            rfl
          rw [e2]
          exact q _ s
def sp_is_number_list : Sp := fun vs H Q _ => ∃ (x : V) (o : Option (List V)), vs = [x] ∧ Items H x o ∧ short o ∧ AllPV H o ∧ ∀ H', Same H H' → Q (.bl (itemsOk o)) H'
theorem ok_is_number_list (M : Mod P w K mg base) : FnOk P w K mg base CX0 3 M.f_is_number_list M.d_is_number_list ["thing"] sp_is_number_list := by
  refine M.F_is_number_list.ok sc_is_number_list (fun vs H Q E h => ?_) (fun cdv A outer s H vs Q E hr h => ?_)
  · obtain ⟨x, o, rfl, _⟩ := h
    rfl
  · obtain ⟨x, o, rfl, hi, hl, hp, q⟩ := h
    refine ⟨_, PSs.nox (pss_one (ps_ret (pe_and (pe_callB call_isiT (by rfl) M.isinstance0 boot_isinstance (pa_cons (pv 0) (pa_cons (pe_tup (pa_cons (pe_bltn (v := .ty "list") rfl M.list0 (by decide +kernel) rfl) (pa_cons (pe_bltn (v := .ty "tuple") rfl M.tuple0 (by decide +kernel) rfl) pa_nil))) pa_nil))) (pe_one (pe_call (ok_are_numbers M) (hr.mono (by decide)) rfl M.g_are_numbers M.k_are_numbers M.b_are_numbers .nil pass0 (pa_cons (pv 0) pa_nil)))))), ?_⟩
    refine ⟨_, rfl, (by show 2 ≤ sizeLine; decide), fun tp htp => ?_⟩
    have s1 : Same H (upd H tp (.tup [.ty "list", .ty "tuple"])) := same_new htp
    obtain ⟨t, ty, k1⟩ := isi_seq (K := K) (hi.same s1)
    refine ⟨x, tp, _, t, _, o.isSome, rfl, upd_same, .cons (.ty "list") (.cons (.ty "tuple") .nil), ty, k1, o.isSome, rfl, ?_⟩
    cases o with
    | none =>
      refine iteF ?_
      exact q _ s1
    | some xs =>
      refine iteT ?_
      have hi2 := hi.same s1
      have hx : ∃ a, x = .ref a := by
        cases hi with
        | lst e => exact ⟨_, rfl⟩
        | tup e => exact ⟨_, rfl⟩
      obtain ⟨a, rfl⟩ := hx
      exact ⟨_, rfl, a, xs, rfl, hi2, hl xs rfl, fun v hv => (hp xs rfl v hv).same s1, fun H' s2 => q _ (s1.trans s2)⟩
def sp_check_most (cM : Addr) : Sp := fun vs H Q E => ∃ x : V, vs = [x] ∧ PV H x ∧ (within x 0 3000 = true → Q .non H) ∧ (within x 0 3000 = false → E (.ref cM) none H)
theorem ok_check_most (M : Mod P w K mg base) : FnOk P w K mg base (L2.CX P w) 3 M.f_check_most M.d_check_most ["most"] (sp_check_most M.a_BadMost) := by
  refine M.F_check_most.ok sc_check_most (fun vs H Q E h => ?_) (fun cdv A outer s H vs Q E hr h => ?_)
  · obtain ⟨x, rfl, _⟩ := h
    rfl
  · obtain ⟨x, rfl, hx, q1, q2⟩ := h
    refine ⟨_, (pss_one (ps_if (pt_not (pt_val (pe_call (ok_is_within M) (hr.mono (by decide)) rfl M.g_is_within M.k_is_within M.b_is_within .nil pass0 (pa_cons (pv 0) (pa_cons pe_int (pa_cons (pe_glob (v := .int 3000) rfl M.c_GREATEST_MOST ⟨_, rfl⟩) pa_nil)))))) 
        (pss_one (ps_raise rfl (takes_of rfl rfl rfl rfl) (pmk_own PySem.F.excBase_ValueError M.E_BadMost.x M.g_BadMost M.E_BadMost.k (raises_own M.E_BadMost.b M.E_BadMost.t) rfl))) pss_nil)), ?_⟩
    refine ⟨_, rfl, x, 0, 3000, rfl, hx, within x 0 3000, rfl, ?_⟩
    cases h : within x 0 3000 with
    | true => exact iteF (q1 h)
    | false => exact iteT (q2 h)

end
end K03

set_option Elab.async false
set_option linter.all false
set_option maxRecDepth 100000
set_option maxHeartbeats 4000000
set_option pp.maxSteps 3000
set_option exponentiation.threshold 500000
namespace K03
open PySem PySem.Spec PyProof.Rows L2 Dr Xv LamX Ps Gn
section
variable {P : Program} {w : World} {K : PySem.W.Frag} {mg : Str → Option Value} {base : Heap}
/-- the head of a row within which k < size -/
theorem sS_head (p : S) {ns : List Int} (hp : p = fnL ns) {N : Nat} (h : 1 ≤ N) : ∀ k, k < N → sS p (min (N - 1) ns.length) k = sS p (N - 1) k := fun k hk => by
  subst hp
  by_cases c : N - 1 ≤ ns.length
  · rw [Nat.min_eq_left c]
  · rw [Nat.min_eq_right (by omega)]
    obtain ⟨j, e⟩ : ∃ j, N - 1 = ns.length + j := ⟨N - 1 - ns.length, by omega⟩
    rw [e, sS_tail (fun i hi => fnL_out hi)]
def sp_sums_over_divisors : Sp := fun vs H Q _ => ∃ (a : Addr) (ns : List Int) (N : Nat), vs = [.ref a, .int (N : Int)] ∧ SeqI H a ns ∧ 1 ≤ N ∧ N ≤ 3001 ∧ ns.length ≤ 4000 ∧
  ∀ (p : Addr) (H' : Hp), H p = none → Same H H' → H' p = some (.lst (rowOf N (sS (fnL ns) (N - 1)))) → Q (.ref p) H'
theorem ok_sums_over_divisors (M : Mod P w K mg base) : FnOk P w K mg base CX0 1 M.f_sums_over_divisors M.d_sums_over_divisors ["powers", "size"] sp_sums_over_divisors := by
  refine M.F_sums_over_divisors.ok sc_sums_over_divisors (fun vs H Q E h => ?_) (fun cdv A outer s H vs Q E hr h => ?_)
  · obtain ⟨a, ns, N, rfl, _⟩ := h
    rfl
  · obtain ⟨a, ns, N, rfl, ha, N1, N2, hl, q⟩ := h
    refine ⟨_, PSs.nox (pss_cons (ps_set (i := 2) sc_sums_over_divisors.nd rfl (Or.inl rfl) (pe_op op_rep (pe_lst (pa_cons pe_int pa_nil)) (pv 1)))
      (pss_cons (ps_for PassesOwn.never rfl (pi_enumK (by rfl) M.enumerate0 (pa_cons (pe_slice sl_head (pv 0) po_none (po_some (pe_op op_sub (pv 1) pe_int))) pa_nil) (pk_cons pe_int pk_nil)) (pg_tup rfl (pgs_cons (pg_name (i := 3) sc_sums_over_divisors.nd rfl (Or.inl rfl)) (pgs_cons (pg_name (i := 4) sc_sums_over_divisors.nd rfl (Or.inl rfl)) pgs_nil))) 
        (pss_one (ps_if (pt_cmpR op_ne (pv 4) pe_int (nomark _)) 
          (pss_one (ps_for PassesOwn.never rfl (pi_range3 (by rfl) M.range0 (pa_cons (pv 3) (pa_cons (pv 1) (pa_cons (pv 3) pa_nil)))) (pg_name (i := 5) sc_sums_over_divisors.nd rfl (Or.inl rfl)) 
            (pss_one (ps_augS (pv 2) (pv 5) get_list (pe_op op_mul (pv 3) (pv 4)) ip_add set_list)))) pss_nil)))
      (pss_one (ps_ret (pv 2))))), ?_⟩
    refine ⟨(by show 1 ≤ sizeLine; decide), fun p1 h1 => ?_⟩
    refine ⟨_, rfl, p1, _, _, rfl, rfl, upd_same, by omega, by omega, ?_, fun p2 h2 => ?_⟩
    · show 1 * _ ≤ sizeLine
      rw [sizeLine_eq]
      omega
    have s1 := (same_new (o := .lst [V.int 0]) h1).trans (same_new (o := .lst (List.replicate (N : Int).toNat [V.int 0]).flatten) h2)
    have hp2 : H p2 = none := (same_new (o := .lst [V.int 0]) h1).free h2
    have e0 : (upd (upd H p1 (.lst [V.int 0])) p2 (.lst (List.replicate (N : Int).toNat [V.int 0]).flatten)) p2 = some (.lst (rowOf N (sS (fnL ns) 0))) := by
      rw [upd_same, rep1, row_zero (b := sS (fnL ns) 0) (fun _ _ => rfl)]
      rfl
    generalize upd (upd H p1 (.lst [V.int 0])) p2 (.lst (List.replicate (N : Int).toNat [V.int 0]).flatten) = H1 at s1 e0 ⊢
    clear h1 h2
    have eN : (N : Int) - 1 = ((N - 1 : Nat) : Int) := by omega
    have ha1 := ha.same s1
    have hpn : H1 p2 ≠ none := fun z => by rw [e0] at z; cases z
    refine ⟨_, rfl, _, rfl, _, _, rfl, rfl, _, rfl, a, ns, N - 1, rfl, rfl, congrArg some eN, ha1, fun tup b H2 nb s2 hb => ?_⟩
    refine ⟨b, _, 1, tup, rfl, rfl, by decide, by decide, sqx hb, ?_⟩
    have hb2 : b ≠ p2 := by
      rcases nb with rfl | nb
      · exact ha.ne hp2
      · exact (ne_of_none e0 nb).symm
    have e2 := s2 _ _ e0
    have lt : ((ns.take (N - 1)).map V.int).length = min (N - 1) ns.length := by rw [List.length_map, List.length_take]
    refine for_it walk_enumS (fun i σ H' => ∃ x3 x4 x5, σ = [some (.ref a), some (.int (N : Int)), some (.ref p2), x3, x4, x5] ∧ H' p2 = some (.lst (rowOf N (sS (fnL ns) i))) ∧ SameO p2 H2 H') ⟨_, _, _, rfl, e2, SameO.refl⟩
      (fun i σ H' _ ⟨_, _, _, _, _, so⟩ => sqx (so _ _ hb hb2)) ?_ ?_
    · rintro i v σ H3 H4 hi ⟨x3, x4, x5, rfl, h3, so⟩ ⟨T, y1, y2, rfl, hT, rfl, g1, g2⟩
      cases Option.some.inj g1
      have g3 := take_at (ns := ns) (m := N - 1) (i := i) (by rw [List.length_map] at hi; exact hi)
      have g4 : ((ns.take (N - 1)).map V.int)[i]? = some y2 := g2
      rw [g3] at g4
      cases Option.some.inj g4
      have hiN : i < N - 1 := by omega
      have nT : p2 ≠ T := ne_of_none h3 hT
      have sT := same_new (o := .tup [.int (1 + (i : Nat)), .int (fnL ns i)]) hT
      refine ⟨T, _, rfl, SqT.of upd_same, rfl, _, _, rfl, _, _, rfl, rfl, ?_⟩
      have h4 := sT _ _ h3
      have so4 : SameO p2 H2 (upd H3 T (.tup [.int (1 + (i : Nat)), .int (fnL ns i)])) := so.trans (.of sT)
      generalize upd H3 T (.tup [.int (1 + (i : Nat)), .int (fnL ns i)]) = H4 at h4 so4 ⊢
      have ec : (1 + (i : Int)) = ((i + 1 : Nat) : Int) := by omega
      rw [ec]
      refine ⟨_, rfl, rfl, _, rfl, ?_⟩
      by_cases c : fnL ns i = 0
      · refine iteF' (by rw [c]; rfl) ⟨_, _, _, rfl, ?_, so4⟩
        rw [h4]
        congr 2
        refine row_ext fun k _ => ?_
        show _ = sS (fnL ns) i k + ((i + 1 : Nat) : Int) * fnL ns i * Ev (i + 1) k
        rw [c, Int.mul_zero, Int.zero_mul, Int.add_zero]
      · refine iteT' (by
          rw [decide_eq_false (fun z => c (by injection z))]
          rfl) ?_
        refine ⟨_, rfl, _, rfl, _, rfl, _, _, _, _, rfl, rg_up (a := i + 1) (b := N) (d := i + 1) (by omega) (by omega) (by omega) (by omega), ?_⟩
        refine for_rangeC (fun j σ H' => ∃ x5, σ = [some (.ref a), some (.int (N : Int)), some (.ref p2), some (.int ((i + 1 : Nat) : Int)), some (.int (fnL ns i)), x5] ∧
          H' p2 = some (.lst (rowOf N fun k => sS (fnL ns) i k + (if k < (i + 1) + j * (i + 1) then ((i + 1 : Nat) : Int) * fnL ns i * Ev (i + 1) k else 0))) ∧ SameO p2 H2 H') ⟨_, rfl, ?_, so4⟩ ?_ ?_
        · rw [h4]
          congr 2
          refine row_ext fun k _ => ?_
          split
          · rename_i hk
            have z : Ev (i + 1) k = 0 := by
              unfold Ev
              rw [if_neg]
              intro z
              have := Nat.le_of_dvd (by omega) z.2
              omega
            rw [z, Int.mul_zero, Int.add_zero]
          · rw [Int.add_zero]
        · rintro j σ H5 hj ⟨x5, rfl, h5, so5⟩
          have hj2 := (lt_upN (by omega)).mp hj
          obtain ⟨n, en⟩ : ∃ n, n = (i + 1) + j * (i + 1) := ⟨_, rfl⟩
          have ei : ((i + 1 : Nat) : Int) + (j : Int) * ((i + 1 : Nat) : Int) = (n : Int) := by
            rw [en]
            push_cast
            rfl
          rw [ei]
          rw [← en] at hj2
          refine ⟨_, rfl, _, rfl, p2, _, _, _, rfl, rfl, SqL.of h5, row_val hj2, _, rfl, _, rfl, _, _, rfl, rfl, .inl ⟨by omega, by omega⟩, _, _, rfl, rfl, p2, _, _, _, rfl, rfl, h5, row_at hj2, _, rfl, ?_, so5.trans .put⟩
          rw [upd_same]
          congr 2
          have dn : (i + 1) ∣ n := ⟨1 + j, by rw [en, Nat.add_comm 1 j, Nat.mul_comm (i + 1) (j + 1), Nat.add_mul j 1, Nat.one_mul]; exact Nat.add_comm _ _⟩
          refine row_set hj2 ?_ fun k hk hne => ?_
          · show _ + (if n < (i + 1) + (j + 1) * (i + 1) then _ else 0) = _
            rw [if_pos (by rw [Nat.add_mul]; omega), ← en, if_neg (Nat.lt_irrefl _)]
            have z : Ev (i + 1) n = 1 := by
              unfold Ev
              rw [if_pos ⟨by omega, dn⟩]
            rw [z, Int.mul_one, Int.add_zero]
          · show _ + (if k < (i + 1) + (j + 1) * (i + 1) then _ else 0) = _ + (if k < (i + 1) + j * (i + 1) then _ else 0)
            by_cases q1 : k < (i + 1) + j * (i + 1)
            · rw [if_pos q1, if_pos (by rw [Nat.add_mul]; omega)]
            · rw [if_neg q1]
              by_cases q2 : k < (i + 1) + (j + 1) * (i + 1)
              · rw [if_pos q2]
                have z : Ev (i + 1) k = 0 := by
                  unfold Ev
                  rw [if_neg]
                  rintro ⟨_, dk⟩
                  have d2 := Nat.dvd_sub dk dn
                  have := Nat.le_of_dvd (by omega) d2
                  rw [Nat.add_mul] at q2
                  omega
                rw [z, Int.mul_zero]
              · rw [if_neg q2]
        · rintro σ H5 ⟨x5, rfl, h5, so5⟩
          refine ⟨_, _, _, rfl, ?_, so5⟩
          rw [h5]
          congr 2
          refine row_ext fun k hk => ?_
          show _ = sS (fnL ns) i k + ((i + 1 : Nat) : Int) * fnL ns i * Ev (i + 1) k
          rw [if_pos]
          have z : ¬ (i + 1 + upN (i + 1) N (i + 1) * (i + 1) < N) := fun z => Nat.lt_irrefl _ ((lt_upN (by omega)).mpr z)
          omega
    · rintro σ H3 ⟨x3, x4, x5, rfl, h3, so⟩
      refine ⟨_, rfl, q p2 H3 hp2 (so.back (s1.trans s2) hp2) ?_⟩
      rw [h3, lt]
      congr 2
      exact row_ext fun k hk => sS_head _ rfl N1 k hk
end
end K03

set_option Elab.async false
set_option linter.all false
set_option maxRecDepth 100000
set_option maxHeartbeats 4000000
set_option pp.maxSteps 3000
set_option exponentiation.threshold 500000
namespace K03
open PySem PySem.Spec PyProof.Rows L2 Dr Xv LamX Ps Gn
section
variable {P : Program} {w : World} {K : PySem.W.Frag} {mg : Str → Option Value} {base : Heap}
/-! ### row_from_sums -/
def sp_row_from_sums : Sp := fun vs H Q _ => ∃ (a : Addr) (N B : Nat) (s A : S), vs = [.ref a] ∧ H a = some (.lst (rowOf N s)) ∧ 1 ≤ N ∧ N ≤ 3001 ∧ Lg s A ∧ A 0 = 1 ∧ 0 < B ∧ B ≤ 400000 ∧ (∀ k, k < N → (s k).natAbs < 2 ^ B) ∧ (∀ k, k < N → (A k).natAbs < 2 ^ B) ∧
  ∀ (p : Addr) (H' : Hp), H p = none → Same H H' → H' p = some (.lst (rowOf N A)) → Q (.ref p) H'
theorem row_rev {n : Nat} {b : S} : (rowOf n b).reverse = rowOf n fun i => b (n - 1 - i) := by
  refine List.ext_getElem (by rw [List.length_reverse, row_len, row_len]) fun i h1 h2 => ?_
  rw [row_len] at h2
  have e1 : (rowOf n b).reverse[i]? = some (.int (b (n - 1 - i))) := by
    rw [List.getElem?_reverse (by rw [row_len]; exact h2), row_len, row_get (by omega)]
  have e2 := row_get (n := n) (i := i) (b := fun i => b (n - 1 - i)) h2
  rw [List.getElem?_eq_getElem h1] at e1
  rw [List.getElem?_eq_getElem (by rw [row_len]; exact h2)] at e2
  exact Option.some.inj (e1.trans e2.symm)
theorem row_tail {n : Nat} {b : S} : cutV (rowOf n b) (some 1) none = rowOf (n - 1) fun i => b (i + 1) := by
  have e : cutV (rowOf n b) (some 1) none = (rowOf n b).drop 1 := by
    unfold cutV
    have e1 : HT.sIx (rowOf n b).length 0 (some 1) = min 1 (rowOf n b).length := HT.sIx_nat _ 0 1
    rw [HT.sIx_none, e1]
    by_cases h : 1 ≤ (rowOf n b).length
    · rw [Nat.min_eq_left h]
      exact List.take_of_length_le (by rw [List.length_drop]; exact Nat.le_refl _)
    · have z : rowOf n b = [] := List.length_eq_zero_iff.mp (by omega)
      rw [z]
      rfl
  rw [e]
  refine List.ext_getElem (by rw [List.length_drop, row_len, row_len]) fun i h1 h2 => ?_
  rw [row_len] at h2
  rw [List.getElem_drop]
  have e1 := row_get (n := n) (i := 1 + i) (b := b) (by omega)
  have e2 := row_get (n := n - 1) (i := i) (b := fun i => b (i + 1)) h2
  rw [List.getElem?_eq_getElem (by rw [row_len]; omega)] at e1
  rw [List.getElem?_eq_getElem (by rw [row_len]; exact h2)] at e2
  rw [Option.some.inj e1, Option.some.inj e2, Nat.add_comm]
theorem ok_row_from_sums (M : Mod P w K mg base) : FnOk P w K mg base CX0 1 M.f_row_from_sums M.d_row_from_sums ["sums"] sp_row_from_sums := by
  refine M.F_row_from_sums.ok sc_row_from_sums (fun vs H Q E h => ?_) (fun cdv A outer s H vs Q E hr h => ?_)
  · obtain ⟨a, N, B, s, A, rfl, _⟩ := h
    rfl
  · obtain ⟨a, N, B, sf, Af, rfl, ha, N1, N2, L, A0, B0, B1, bs, bA, q⟩ := h
    refine ⟨_, PSs.nox (pss_cons (ps_set (i := 1) sc_row_from_sums.nd rfl (Or.inl rfl) (pe_slice sl_list (pv 0) (po_some pe_int) po_none))
      (pss_cons (ps_set (i := 2) sc_row_from_sums.nd rfl (Or.inl rfl) (pe_lst (pa_cons pe_int pa_nil)))
      (pss_cons (ps_for PassesOwn.never rfl (pi_range2 (by rfl) M.range0 (pa_cons pe_int (pa_cons (pe_callB call_len (by rfl) M.len0 PySem.boot_len (pa_cons (pv 0) pa_nil)) pa_nil))) (pg_name (i := 3) sc_row_from_sums.nd rfl (Or.inl rfl)) 
        (pss_cons (ps_set (i := 4) sc_row_from_sums.nd rfl (Or.inl rfl) (pe_callB (cr_sum rfl) (by rfl) M.sum0 (by decide +kernel) (pa_cons (pe_lc (own := [("x", 5), ("y", 6)]) (g := (gTup K 2 (gCons (gName 5) (gCons (gName 6) gNil)))) (by rfl) sc_row_from_sums.nd (pi_zip (by rfl) M.zip0 (pa_cons (pv 1) (pa_cons (pe_revL (pv 2)) pa_nil))) (blkOk_by (own := [("x", 5), ("y", 6)]) (N := N_row_from_sums) (sc := defScope s_row_from_sums) (by decide +kernel))
        (fun _ _ _ _ _ => (pg_tup rfl (pgs_cons (pg_name (i := 5) sc_row_from_sums.nd rfl (Or.inl rfl)) (pgs_cons (pg_name (i := 6) sc_row_from_sums.nd rfl (Or.inl rfl)) pgs_nil)))) (fun _ _ _ _ _ => pts_nil) (fun _ _ _ _ _ => (pe_op op_mulW (pv 5) (pv 6)))) pa_nil)))
        (pss_one (ps_expr (pe_bm PySem.F.plainAttrs_list PySem.F.slot_list_append PySem.F.type_list_append mt_append (pv 2) (pa_cons (pe_op op_fdivB (pv 4) (pv 3)) pa_nil))))))
      (pss_one (ps_ret (pv 2)))))), ?_⟩
    refine ⟨_, rfl, 1, rfl, a, _, rfl, SqL.of ha, fun p1 h1 => ?_⟩
    rw [row_tail]
    have hp1 : (upd H p1 (.lst (rowOf (N - 1) fun i => sf (i + 1)))) p1 = some (.lst (rowOf (N - 1) fun i => sf (i + 1))) := upd_same
    have s1 := same_new (o := .lst (rowOf (N - 1) fun i => sf (i + 1))) h1
    generalize upd H p1 (.lst (rowOf (N - 1) fun i => sf (i + 1))) = H1 at hp1 s1 ⊢
    clear h1
    refine ⟨(by show 1 ≤ sizeLine; decide), fun p2 h2 => ?_⟩
    have s2 := same_new (o := .lst [V.int 1]) h2
    have hp2 : H p2 = none := s1.free h2
    have e2 : (upd H1 p2 (.lst [V.int 1])) p2 = some (.lst (rowOf 1 Af)) := by
      rw [upd_same]
      show _ = some (HO.lst [V.int (Af 0)])
      rw [A0]
    have np : p1 ≠ p2 := ne_of_none hp1 h2
    have hp1' := s2 _ _ hp1
    have ha1 := s2 _ _ (s1 _ _ ha)
    have S2 := s1.trans s2
    generalize upd H1 p2 (.lst [V.int 1]) = H2 at e2 hp1' ha1 S2 ⊢
    clear h2 s2 hp1 s1
    have na : a ≠ p2 := ne_of_none ha hp2
    refine ⟨_, rfl, _, _, rfl, .inl ⟨_, SqL.of ha1, rfl⟩, 1, _, rfl, ⟨by decide, by decide, by omega, by rw [row_len]; omega⟩, ?_⟩
    refine for_range (lo := 1) (n := (((rowOf N sf).length : Int) - 1).toNat) (fun j σ H' => ∃ x3 x4, σ = [some (.ref a), some (.ref p1), some (.ref p2), x3, x4, none, none] ∧ H' p2 = some (.lst (rowOf (j + 1) Af)) ∧ SameO p2 H2 H') ⟨_, _, rfl, e2, SameO.refl⟩ ?_ ?_
    · rintro j σ H3 hj ⟨x3, x4, rfl, h3, so⟩
      rw [row_len] at hj
      have ec : (1 + (j : Int)) = ((j + 1 : Nat) : Int) := by omega
      rw [ec]
      have hp13 := so _ _ hp1' np
      refine ⟨_, rfl, _, rfl, p2, _, rfl, SqL.of h3, fun p4 h4 => ?_⟩
      rw [row_rev]
      have s4 := same_new (o := .lst (rowOf (j + 1) fun i => Af (j + 1 - 1 - i))) h4
      have e4 : (upd H3 p4 (.lst (rowOf (j + 1) fun i => Af (j + 1 - 1 - i)))) p4 = some (.lst (rowOf (j + 1) fun i => Af (j + 1 - 1 - i))) := upd_same
      have n4 : p2 ≠ p4 := ne_of_none h3 h4
      generalize upd H3 p4 (.lst (rowOf (j + 1) fun i => Af (j + 1 - 1 - i))) = H4 at s4 e4 ⊢
      clear h4
      refine ⟨p1, p4, _, _, rfl, SqL.of (s4 _ _ hp13), SqL.of e4, fun D hD => lc_it (walk_zip (n := j + 1) (by rw [row_len, row_len]; omega)) (fun i H' => H' D = some (.lst (rowOf i fun i => sf (i + 1) * Af (j - i))) ∧ Same H4 H') ⟨by rw [upd_same]; rfl, same_new hD⟩
        (fun i H' _ ⟨_, sb⟩ => ⟨SqL.of (sb _ _ (s4 _ _ hp13)), SqL.of (sb _ _ e4)⟩) ?_ ?_⟩
      · rintro i v H5 H6 hi ⟨h5, sb⟩ ⟨T', y1, y2, rfl, hT, rfl, g1, g2⟩
        have f1 : y1 = .int (sf (i + 1)) := by
          have z : (rowOf (N - 1) fun i => sf (i + 1))[i]? = some y1 := g1
          rw [row_get (by omega)] at z
          exact (Option.some.inj z).symm
        have f2 : y2 = .int (Af (j - i)) := by
          have z : (rowOf (j + 1) fun i => Af (j + 1 - 1 - i))[i]? = some y2 := g2
          rw [row_get (by omega)] at z
          have e : j + 1 - 1 - i = j - i := by omega
          rw [e] at z
          exact (Option.some.inj z).symm
        subst f1 f2
        have sT := same_new (o := .tup [.int (sf (i + 1)), .int (Af (j - i))]) hT
        refine ⟨T', _, rfl, SqT.of upd_same, rfl, _, _, rfl, _, _, rfl, rfl, rfl, yesT ?_⟩
        refine ⟨_, rfl, _, rfl, _, _, rfl, rfl, wide_mul (bs (i + 1) (by omega)) (bA (j - i) (by omega)) B0 B0 (by omega), _, sT _ _ h5, ?_, ?_, ?_⟩
        · rw [row_len, sizeLine_eq]
          omega
        · rw [upd_same, row_succ]
        · intro b' o' e'
          rw [upd_ne (ne_of_none e' hD)]
          exact sT _ _ (sb _ _ e')
      · rintro H5 ⟨h5, sb⟩
        refine ⟨D, (List.range (j + 1)).map fun i => sf (i + 1) * Af (j - i), rfl, SqL.of h5, ?_⟩
        rw [sum_sm]
        have hA := L.at_ (j + 1)
        have e5 : sm (fun i => sf (i + 1) * Af (j + 1 - (i + 1))) (j + 1) = sm (fun i => sf (i + 1) * Af (j - i)) (j + 1) := sm_congr _ fun i hi => by
          have e : j + 1 - (i + 1) = j - i := by omega
          rw [e]
        rw [e5] at hA
        rw [← hA]
        have h6 := sb _ _ (s4 _ _ h3)
        refine ⟨_, rfl, .inl ⟨rfl, _, SqL.of h6⟩, _, rfl, _, rfl, _, _, rfl, rfl, ⟨by omega, log_small2 (by omega)⟩, ?_⟩
        refine ⟨p2, _, _, rfl, rfl, h6, ?_, _, _, rfl, ?_, ?_⟩
        · rw [row_len, sizeLine_eq]
          omega
        · have ef : (((j + 1 : Nat) : Int) * Af (j + 1)).fdiv ((j + 1 : Nat) : Int) = Af (j + 1) := Int.mul_fdiv_cancel_left _ (by omega)
          rw [upd_same, row_succ (n := j + 1)]
          show some (HO.lst (_ ++ [V.int ((((j + 1 : Nat) : Int) * Af (j + 1)).fdiv ((j + 1 : Nat) : Int))])) = _
          rw [ef]
        · exact so.trans ((SameO.of (s4.trans sb)).trans .put)
    · rintro σ H3 ⟨x3, x4, rfl, h3, so⟩
      rw [row_len] at h3
      have e9 : ((N : Int) - 1).toNat + 1 = N := by omega
      rw [e9] at h3
      exact ⟨_, rfl, q p2 H3 hp2 (so.back S2 hp2) h3⟩
end
end K03

set_option Elab.async false
set_option linter.all false
set_option maxRecDepth 100000
set_option maxHeartbeats 4000000
set_option pp.maxSteps 3000
set_option exponentiation.threshold 500000
namespace K03
open PySem PySem.Spec PyProof.Rows L2 Dr Xv LamX Ps Gn
section
variable {P : Program} {w : World} {K : PySem.W.Frag} {mg : Str → Option Value} {base : Heap}
/-! ### check_powers, weighted_sums, product_row -/
def powOk (o : Option (List V)) : Bool := match o with
  | some xs => xs.all isNum && decide ((xs.length : Int) ≤ 3000)
  | none => false
def sp_check_powers (cR : Addr) : Sp := fun vs H Q E => ∃ (x : V) (o : Option (List V)), vs = [x] ∧ Items H x o ∧ short o ∧ AllPV H o ∧ (powOk o = true → ∀ H', Same H H' → Q .non H') ∧ (powOk o = false → ∀ H', Same H H' → E (.ref cR) none H')
theorem ok_check_powers (M : Mod P w K mg base) : FnOk P w K mg base (L2.CX P w) 4 M.f_check_powers M.d_check_powers ["powers"] (sp_check_powers M.a_BadRow) := by
  refine M.F_check_powers.ok sc_check_powers (fun vs H Q E h => ?_) (fun cdv A outer s H vs Q E hr h => ?_)
  · obtain ⟨x, o, rfl, _⟩ := h
    rfl
  · obtain ⟨x, o, rfl, hi, hl, hp, q1, q2⟩ := h
    refine ⟨_, (pss_one (ps_if (PW.pt (pw_or (pt_not (pt_val (pe_call (ok_is_number_list M) (hr.mono (by decide)) rfl M.g_is_number_list M.k_is_number_list M.b_is_number_list .nil pass0 (pa_cons (pv 0) pa_nil)))) (pw_or1 (pt_cmpR op_gt (pe_callB call_len (by rfl) M.len0 PySem.boot_len (pa_cons (pv 0) pa_nil)) (pe_glob (v := .int 3000) rfl M.c_MOST_POWERS ⟨_, rfl⟩) (nomark _))))) 
        (pss_one (ps_raise rfl (takes_of rfl rfl rfl rfl) (pmk_own PySem.F.excBase_ValueError M.E_BadRow.x M.g_BadRow M.E_BadRow.k (raises_own M.E_BadRow.b M.E_BadRow.t) rfl))) pss_nil)), ?_⟩
    refine ⟨_, rfl, x, o, rfl, hi, hl, hp, fun H1 s1 => ⟨itemsOk o, rfl, ?_⟩⟩
    cases o with
    | none => exact iteT (q2 rfl _ s1)
    | some xs =>
      have e0 : itemsOk (some xs) = xs.all isNum := rfl
      have e1 : powOk (some xs) = (xs.all isNum && decide ((xs.length : Int) ≤ 3000)) := rfl
      rw [e0]
      rw [e1] at q1 q2
      cases hx : xs.all isNum with
      | false => exact iteT (q2 (by rw [hx]; rfl) _ s1)
      | true =>
        rw [hx, Bool.true_and] at q1 q2
        refine iteF ?_
        have hlv : ∃ v, x = .ref v ∧ LenV K (.ref v) H1 xs.length := by
          cases hi with
          | lst e => exact ⟨_, rfl, .inl ⟨_, SqL.of (s1 _ _ e), rfl⟩⟩
          | tup e => exact ⟨_, rfl, .inr ⟨_, SqT.of (s1 _ _ e), rfl⟩⟩
        obtain ⟨v, rfl, hlv⟩ := hlv
        refine ⟨_, rfl, _, xs.length, rfl, hlv, _, _, rfl, rfl, _, rfl, ?_⟩
        by_cases c : (xs.length : Int) ≤ 3000
        · exact iteF' (decide_eq_false (by omega)) (q1 (decide_eq_true c) _ s1)
        · exact iteT' (decide_eq_true (by omega)) (q2 (decide_eq_false c) _ s1)
theorem powOk_ints {o : Option (List V)} (h : powOk o = true) : ∃ ns : List Int, o = some (ns.map V.int) ∧ ns.length ≤ 3000 := by
  cases o with
  | none => cases h
  | some xs =>
    have e1 : powOk (some xs) = (xs.all isNum && decide ((xs.length : Int) ≤ 3000)) := rfl
    rw [e1, Bool.and_eq_true, decide_eq_true_eq] at h
    obtain ⟨ns, rfl⟩ := nums_of h.1
    have h2 := h.2
    rw [List.length_map] at h2
    exact ⟨ns, rfl, by omega⟩
theorem seqI_of {H : Hp} {x : V} {ns : List Int} (h : Items H x (some (ns.map V.int))) : ∃ a, x = .ref a ∧ SeqI H a ns := by
  obtain ⟨a, e, h⟩ := items_ref h
  exact ⟨a, e, h⟩
def sp_weighted_sums (cR cM : Addr) : Sp := fun vs H Q E => ∃ (x y : V) (o : Option (List V)), vs = [x, y] ∧ Items H x o ∧ short o ∧ AllPV H o ∧ PV H y ∧ (powOk o = false → ∀ H', Same H H' → E (.ref cR) none H') ∧ (powOk o = true → within y 0 3000 = false → ∀ H', Same H H' → E (.ref cM) none H') ∧
  (∀ (ns : List Int) (m : Nat), o = some (ns.map V.int) → powOk o = true → y = .int (m : Int) → m ≤ 3000 → ∀ (p : Addr) (H' : Hp), H p = none → Same H H' → H' p = some (.lst (rowOf (m + 1) (sS (fnL ns) m))) → Q (.ref p) H')
theorem ok_weighted_sums (M : Mod P w K mg base) : FnOk P w K mg base (L2.CX P w) 5 M.f_weighted_sums M.d_weighted_sums ["powers", "most"] (sp_weighted_sums M.a_BadRow M.a_BadMost) := by
  refine M.F_weighted_sums.ok sc_weighted_sums (fun vs H Q E h => ?_) (fun cdv A outer s H vs Q E hr h => ?_)
  · obtain ⟨x, y, o, rfl, _⟩ := h
    rfl
  · obtain ⟨x, y, o, rfl, hi, hl, hp, hy, q1, q2, q3⟩ := h
    refine ⟨_, (pss_cons (ps_expr (pe_call (ok_check_powers M) (hr.mono (by decide)) rfl M.g_check_powers M.k_check_powers M.b_check_powers .nil (passes_call (takes_of rfl rfl rfl rfl) (fun _ _ _ _ h => h)) (pa_cons (pv 0) pa_nil)))
      (pss_cons (ps_expr (pe_call (ok_check_most M) (hr.mono (by decide)) rfl M.g_check_most M.k_check_most M.b_check_most .nil (passes_call (takes_of rfl rfl rfl rfl) (fun _ _ _ _ h => h)) (pa_cons (pv 1) pa_nil)))
      (PSs.nox 
      (pss_one (ps_ret (pe_call (ok_sums_over_divisors M) (hr.mono (by decide)) rfl M.g_sums_over_divisors M.k_sums_over_divisors M.b_sums_over_divisors .nil pass0 (pa_cons (pv 0) (pa_cons (pe_op op_add (pv 1) pe_int) pa_nil)))))))), ?_⟩
    refine ⟨_, rfl, x, o, rfl, hi, hl, hp, fun hok H1 s1 => ?_, fun hno H1 s1 => q1 hno _ s1⟩
    refine ⟨_, rfl, y, rfl, hy.same s1, fun hw => ?_, fun hw => q2 hok hw _ s1⟩
    obtain ⟨ns, rfl, l1⟩ := powOk_ints hok
    obtain ⟨z, rfl, z0, z1⟩ := within_int hw
    obtain ⟨m, rfl⟩ : ∃ m : Nat, z = (m : Int) := ⟨z.toNat, by omega⟩
    obtain ⟨a, rfl, ha⟩ := seqI_of hi
    refine ⟨_, rfl, _, rfl, _, _, rfl, rfl, a, ns, m + 1, rfl, ha.same s1, by omega, by omega, by omega, fun p H2 h2 s2 e2 => ?_⟩
    exact q3 ns m rfl hok rfl (by omega) p H2 (s1.free h2) (s1.trans s2) e2
def sp_product_row (cR cM : Addr) : Sp := fun vs H Q E => ∃ (x y : V) (o : Option (List V)), vs = [x, y] ∧ Items H x o ∧ short o ∧ AllPV H o ∧ PV H y ∧ (powOk o = false → ∀ H', Same H H' → E (.ref cR) none H') ∧ (powOk o = true → within y 0 3000 = false → ∀ H', Same H H' → E (.ref cM) none H') ∧
  (∀ (ns : List Int) (m : Nat), o = some (ns.map V.int) → powOk o = true → y = .int (m : Int) → m ≤ 3000 → (∃ B, 0 < B ∧ B ≤ 400000 ∧ (∀ k, k < m + 1 → (sS (fnL ns) m k).natAbs < 2 ^ B) ∧ (∀ k, k < m + 1 → (prA (fnL ns) m k).natAbs < 2 ^ B)) ∧
    ∀ (p : Addr) (H' : Hp), H p = none → Same H H' → H' p = some (.lst (rowOf (m + 1) (prA (fnL ns) m))) → Q (.ref p) H')
theorem ok_product_row (M : Mod P w K mg base) : FnOk P w K mg base (L2.CX P w) 6 M.f_product_row M.d_product_row ["powers", "most"] (sp_product_row M.a_BadRow M.a_BadMost) := by
  refine M.F_product_row.ok sc_product_row (fun vs H Q E h => ?_) (fun cdv A outer s H vs Q E hr h => ?_)
  · obtain ⟨x, y, o, rfl, _⟩ := h
    rfl
  · obtain ⟨x, y, o, rfl, hi, hl, hp, hy, q1, q2, q3⟩ := h
    refine ⟨_, (pss_one (ps_ret (pe_call (ok_row_from_sums M) (hr.mono (by decide)) rfl M.g_row_from_sums M.k_row_from_sums M.b_row_from_sums .nil pass0 (pa_cons (pe_call (ok_weighted_sums M) (hr.mono (by decide)) rfl M.g_weighted_sums M.k_weighted_sums M.b_weighted_sums .nil (passes_call (takes_of rfl rfl rfl rfl) (fun _ _ _ _ h => h)) (pa_cons (pv 0) (pa_cons (pv 1) pa_nil))) pa_nil)))), ?_⟩
    refine ⟨_, rfl, _, rfl, tn <| ⟨x, y, o, rfl, hi, hl, hp, hy, q1, q2, fun ns m eo hok ey hm p H1 hp1 s1 e1 => ?_⟩⟩
    obtain ⟨⟨B, b0, b1, b2, b3⟩, k⟩ := q3 ns m eo hok ey hm
    refine tn <| ⟨p, m + 1, B, _, _, rfl, e1, by omega, by omega, lg_prA (fnL ns) m, prA_zero _ _, b0, b1, b2, b3, fun r H2 h2 s2 e2 => ?_⟩
    exact k r H2 (s1.free h2) (s1.trans s2) e2
end
end K03

set_option Elab.async false
set_option linter.all false
set_option maxRecDepth 100000
set_option maxHeartbeats 4000000
set_option pp.maxSteps 3000
set_option exponentiation.threshold 500000
namespace K03
open PySem PySem.Spec PyProof.Rows L2 Dr Xv LamX Ps Gn
section
variable {P : Program} {w : World} {K : PySem.W.Frag} {mg : Str → Option Value} {base : Heap}
/-! ### steps and signs -/
def okSt (x y : V) : Bool := within x 2 200 && (match x with
  | .int m => within y 1 (m - 1)
  | _ => false)
def sp_check_steps (cS : Addr) : Sp := fun vs H Q E => ∃ x y : V, vs = [x, y] ∧ PV H x ∧ PV H y ∧ (okSt x y = true → Q .non H) ∧ (okSt x y = false → E (.ref cS) none H)
theorem ok_check_steps (M : Mod P w K mg base) : FnOk P w K mg base (L2.CX P w) 3 M.f_check_steps M.d_check_steps ["m", "s"] (sp_check_steps M.a_BadStep) := by
  refine M.F_check_steps.ok sc_check_steps (fun vs H Q E h => ?_) (fun cdv A outer s H vs Q E hr h => ?_)
  · obtain ⟨x, y, rfl, _⟩ := h
    rfl
  · obtain ⟨x, y, rfl, hx, hy, q1, q2⟩ := h
    refine ⟨_, (C8.pss_cut (ps_if (pt_not (pt_val (pe_call (ok_is_within M) (hr.mono (by decide)) rfl M.g_is_within M.k_is_within M.b_is_within .nil pass0 (pa_cons (pv 0) (pa_cons pe_int (pa_cons (pe_glob (v := .int 200) rfl M.c_GREATEST_STEP ⟨_, rfl⟩) pa_nil)))))) 
        (pss_one (ps_raise rfl (takes_of rfl rfl rfl rfl) (pmk_own PySem.F.excBase_ValueError M.E_BadStep.x M.g_BadStep M.E_BadStep.k (raises_own M.E_BadStep.b M.E_BadStep.t) rfl))) pss_nil)
      (pss_one (ps_if (pt_not (pt_val (pe_call (ok_is_within M) (hr.mono (by decide)) rfl M.g_is_within M.k_is_within M.b_is_within .nil pass0 (pa_cons (pv 1) (pa_cons pe_int (pa_cons (pe_op op_sub (pv 0) pe_int) pa_nil)))))) 
        (pss_one (ps_raise rfl (takes_of rfl rfl rfl rfl) (pmk_own PySem.F.excBase_ValueError M.E_BadStep.x M.g_BadStep M.E_BadStep.k (raises_own M.E_BadStep.b M.E_BadStep.t) rfl))) pss_nil))), ?_⟩
    refine ⟨fun σ' H' => σ' = [some x, some y] ∧ H' = H ∧ within x 2 200 = true, ?_, ?_⟩
    · refine ⟨_, rfl, x, 2, 200, rfl, hx, within x 2 200, rfl, ?_⟩
      cases h : within x 2 200 with
      | true => exact iteF ⟨rfl, rfl, rfl⟩
      | false => exact iteT (q2 (by unfold okSt; rw [h]; rfl))
    · rintro σ H1 ⟨rfl, rfl, h⟩
      obtain ⟨m, rfl, _, _⟩ := within_int h
      have e : okSt (.int m) y = within y 1 (m - 1) := by
        unfold okSt
        rw [h]
        rfl
      rw [e] at q1 q2
      refine ⟨_, rfl, _, rfl, _, _, rfl, rfl, y, 1, m - 1, rfl, hy, within y 1 (m - 1), rfl, ?_⟩
      cases h2 : within y 1 (m - 1) with
      | true => exact iteF (q1 h2)
      | false => exact iteT (q2 h2)
def okHs (x y : V) : Bool := okSt x y && (match x, y with
  | .int m, .int s => decide (2 * s < m)
  | _, _ => false)
theorem okSt_int {x y : V} (h : okSt x y = true) : ∃ m s : Nat, x = .int (m : Int) ∧ y = .int (s : Int) ∧ 2 ≤ m ∧ m ≤ 200 ∧ 1 ≤ s ∧ s < m := by
  unfold okSt at h
  rw [Bool.and_eq_true] at h
  obtain ⟨m, rfl, m0, m1⟩ := within_int h.1
  obtain ⟨s, rfl, s0, s1⟩ := within_int h.2
  exact ⟨m.toNat, s.toNat, by rw [Int.toNat_of_nonneg (by omega)], by rw [Int.toNat_of_nonneg (by omega)], by omega, by omega, by omega, by omega⟩
theorem okSt_yes {m s : Nat} (h1 : 2 ≤ m) (h2 : m ≤ 200) (h3 : 1 ≤ s) (h4 : s < m) : okSt (.int (m : Int)) (.int (s : Int)) = true := by
  unfold okSt
  rw [within_yes (by omega) (by omega)]
  exact within_yes (by omega) (by omega)
def sp_check_half_steps (cS : Addr) : Sp := fun vs H Q E => ∃ x y : V, vs = [x, y] ∧ PV H x ∧ PV H y ∧ (okHs x y = true → Q .non H) ∧ (okHs x y = false → E (.ref cS) none H)
theorem ok_check_half_steps (M : Mod P w K mg base) : FnOk P w K mg base (L2.CX P w) 4 M.f_check_half_steps M.d_check_half_steps ["m", "s"] (sp_check_half_steps M.a_BadStep) := by
  refine M.F_check_half_steps.ok sc_check_half_steps (fun vs H Q E h => ?_) (fun cdv A outer s H vs Q E hr h => ?_)
  · obtain ⟨x, y, rfl, _⟩ := h
    rfl
  · obtain ⟨x, y, rfl, hx, hy, q1, q2⟩ := h
    refine ⟨_, (pss_cons (ps_expr (pe_call (ok_check_steps M) (hr.mono (by decide)) rfl M.g_check_steps M.k_check_steps M.b_check_steps .nil (passes_call (takes_of rfl rfl rfl rfl) (fun _ _ _ _ h => h)) (pa_cons (pv 0) (pa_cons (pv 1) pa_nil))))
      (pss_one (ps_if (pt_cmpR op_ge (pe_op op_mul pe_int (pv 1)) (pv 0) (nomark _)) 
        (pss_one (ps_raise rfl (takes_of rfl rfl rfl rfl) (pmk_own PySem.F.excBase_ValueError M.E_BadStep.x M.g_BadStep M.E_BadStep.k (raises_own M.E_BadStep.b M.E_BadStep.t) rfl))) pss_nil))), ?_⟩
    refine ⟨_, rfl, _, rfl, x, y, rfl, hx, hy, fun h => ?_, fun h => q2 (by unfold okHs; rw [h]; rfl)⟩
    obtain ⟨m, s, rfl, rfl, h1, h2, h3, h4⟩ := okSt_int h
    have e : okHs (.int (m : Int)) (.int (s : Int)) = decide (2 * (s : Int) < (m : Int)) := by
      unfold okHs
      rw [h]
      rfl
    rw [e] at q1 q2
    refine ⟨_, rfl, _, _, rfl, rfl, .inl ⟨by decide, by decide⟩, _, rfl, _, _, rfl, rfl, _, rfl, ?_⟩
    by_cases c : 2 * (s : Int) < (m : Int)
    · exact iteF' (decide_eq_false (by omega)) (q1 (decide_eq_true c))
    · exact iteT' (decide_eq_true (by omega)) (q2 (decide_eq_false c))
def okSg : V → Bool
  | .int i => decide (i = 1 ∨ i = -1)
  | _ => false
def sp_check_sign (cN : Addr) : Sp := fun vs H Q E => ∃ x : V, vs = [x] ∧ PV H x ∧ (okSg x = true → ∀ H', Same H H' → Q .non H') ∧ (okSg x = false → ∀ H', Same H H' → E (.ref cN) none H')
theorem ok_check_sign (M : Mod P w K mg base) : FnOk P w K mg base (L2.CX P w) 2 M.f_check_sign M.d_check_sign ["sign"] (sp_check_sign M.a_BadNumber) := by
  refine M.F_check_sign.ok sc_check_sign (fun vs H Q E h => ?_) (fun cdv A outer s H vs Q E hr h => ?_)
  · obtain ⟨x, rfl, _⟩ := h
    rfl
  · obtain ⟨x, rfl, hx, q1, q2⟩ := h
    refine ⟨_, (pss_one (ps_if (PW.pt (pw_or (pt_not (pt_val (pe_call (ok_is_number M) (hr.mono (by decide)) rfl M.g_is_number M.k_is_number M.b_is_number .nil pass0 (pa_cons (pv 0) pa_nil)))) (pw_or1 (pt_cmpR op_notIn_seq (pv 0) (pe_tup (pa_cons pe_int (pa_cons (pe_un un_neg pe_int) pa_nil))) (by rfl))))) 
        (pss_one (ps_raise rfl (takes_of rfl rfl rfl rfl) (pmk_own PySem.F.excBase_ValueError M.E_BadNumber.x M.g_BadNumber M.E_BadNumber.k (raises_own M.E_BadNumber.b M.E_BadNumber.t) rfl))) pss_nil)), ?_⟩
    refine ⟨_, rfl, x, rfl, hx, isNum x, rfl, ?_⟩
    cases x with
    | int i =>
      refine iteF ?_
      refine ⟨_, rfl, 1, rfl, (by show 2 ≤ sizeLine; decide), fun t ht => ?_⟩
      have st := same_new (o := .tup [V.int 1, V.int (-1)]) ht
      have e : okSg (.int i) = decide (i = 1 ∨ i = -1) := rfl
      rw [e] at q1 q2
      refine ⟨t, [V.int 1, V.int (-1)], rfl, .inr (SqT.of upd_same), rfl, rfl, _, rfl, ?_⟩
      rw [if_pos rfl, inV_pm]
      by_cases c : i = 1 ∨ i = -1
      · rw [decide_eq_true c]
        exact iteF (q1 (decide_eq_true c) _ st)
      · rw [decide_eq_false c]
        exact iteT (q2 (decide_eq_false c) _ st)
    | _ => exact iteT (q2 rfl _ (Same.refl _))
/-! ### putting -/
def sp__put : Sp := fun vs H Q _ => ∃ (a : Addr) (N p : Nat) (c : Int) (b : S), vs = [.ref a, .int (p : Int), .int c] ∧ H a = some (.lst (rowOf N b)) ∧ ∀ H', SameO a H H' → H' a = some (.lst (rowOf N (putS b p c))) → Q .non H'
theorem ok__put (M : Mod P w K mg base) : FnOk P w K mg base CX0 1 M.f__put M.d__put ["numbers", "place", "number"] sp__put := by
  refine M.F__put.ok sc__put (fun vs H Q E h => ?_) (fun cdv A outer s H vs Q E hr h => ?_)
  · obtain ⟨a, N, p, c, b, rfl, _⟩ := h
    rfl
  · obtain ⟨a, N, p, c, b, rfl, ha, q⟩ := h
    refine ⟨_, PSs.nox (pss_one (ps_if (pt_cmpR op_lt (pv 1) (pe_callB call_len (by rfl) M.len0 PySem.boot_len (pa_cons (pv 0) pa_nil)) (nomark _)) 
        (pss_one (ps_augS (pv 0) (pv 1) get_list (pv 2) ip_add set_list)) pss_nil)), ?_⟩
    refine ⟨_, rfl, _, rfl, _, _, rfl, .inl ⟨_, SqL.of ha, rfl⟩, _, _, rfl, rfl, _, rfl, ?_⟩
    by_cases h : p < N
    · refine iteT' (decide_eq_true (by rw [row_len]; omega)) ?_
      refine ⟨_, rfl, _, rfl, a, _, _, _, rfl, rfl, SqL.of ha, row_val h, _, rfl, _, _, rfl, rfl, a, _, _, _, rfl, rfl, ha, row_at h, q _ .put ?_⟩
      rw [upd_same]
      congr 2
      refine row_set h ?_ fun k hk hne => ?_
      · show (if p = p then _ else _) = _
        rw [if_pos rfl]
      · show (if k = p then _ else _) = _
        rw [if_neg hne]
    · refine iteF' (decide_eq_false (by rw [row_len]; omega)) (q _ .refl ?_)
      rw [ha]
      congr 2
      refine row_ext fun k hk => ?_
      show _ = if k = p then _ else _
      rw [if_neg (by omega)]
def sp__put_factor : Sp := fun vs H Q _ => ∃ (a : Addr) (N n : Nat) (sg : Int) (b : S), vs = [.ref a, .int (n : Int), .int sg] ∧ H a = some (.lst (rowOf N b)) ∧ ∀ H', SameO a H H' → H' a = some (.lst (rowOf N (pfS b n sg))) → Q .non H'
theorem ok__put_factor (M : Mod P w K mg base) : FnOk P w K mg base CX0 2 M.f__put_factor M.d__put_factor ["powers", "n", "sign"] sp__put_factor := by
  refine M.F__put_factor.ok sc__put_factor (fun vs H Q E h => ?_) (fun cdv A outer s H vs Q E hr h => ?_)
  · obtain ⟨a, N, n, sg, b, rfl, _⟩ := h
    rfl
  · obtain ⟨a, N, n, sg, b, rfl, ha, q⟩ := h
    refine ⟨_, PSs.nox (pss_cons (ps_expr (pe_call (ok__put M) (hr.mono (by decide)) rfl M.g__put M.k__put M.b__put .nil pass0 (pa_cons (pv 0) (pa_cons (pv 1) (pa_cons (pv 2) pa_nil)))))
      (pss_one (ps_if (pt_cmpR op_eq (pv 2) pe_int (nomark _)) 
        (pss_one (ps_expr (pe_call (ok__put M) (hr.mono (by decide)) rfl M.g__put M.k__put M.b__put .nil pass0 (pa_cons (pv 0) (pa_cons (pe_op op_mul pe_int (pv 1)) (pa_cons (pe_un un_neg pe_int) pa_nil)))))) pss_nil))), ?_⟩
    refine ⟨_, rfl, _, rfl, _, rfl, a, N, n, sg, b, rfl, ha, fun H1 s1 h1 => ?_⟩
    refine ⟨_, rfl, rfl, _, rfl, ?_⟩
    by_cases c : sg = 1
    · subst c
      refine iteT' (decide_eq_true rfl) ?_
      refine ⟨_, rfl, _, rfl, _, _, rfl, rfl, .inl ⟨by decide, by decide⟩, 1, rfl, a, N, 2 * n, -1, putS b n 1, ?_, h1, fun H2 s2 h2 => q _ (s1.trans s2) ?_⟩
      · show [V.ref a, V.int (2 * (n : Int)), V.int (-1)] = _
        congr 3
      · rw [h2]
        rfl
    · refine iteF' (decide_eq_false fun z => c (by injection z)) (q _ s1 ?_)
      rw [h1]
      unfold pfS
      rw [if_neg c]
end
end K03

set_option Elab.async false
set_option linter.all false
set_option maxRecDepth 100000
set_option maxHeartbeats 4000000
set_option pp.maxSteps 3000
set_option exponentiation.threshold 500000
namespace K03
open PySem PySem.Spec PyProof.Rows L2 Dr Xv LamX Ps Gn
theorem rt_le {n : Nat} (h : n ≤ 3000) : rt n ≤ 60 := by
  have s := PySem.Float64.isqrt_spec n
  have s1 : rt n * rt n ≤ n := s.1
  refine Nat.le_of_not_lt fun z => ?_
  have := Nat.mul_le_mul z z
  omega
theorem okSg_int {z : V} (h : okSg z = true) : ∃ sg : Int, z = .int sg ∧ (sg = 1 ∨ sg = -1) := by
  cases z with
  | int i => exact ⟨i, rfl, of_decide_eq_true h⟩
  | _ => cases h
theorem tnC {v : V} {σ : L2.St} {H : Hp} {F : V → Hp → Prop} (h : F v H) : tC v σ H F := h
theorem use_put {a : Addr} {N : Nat} {pi c : Int} {b : S} {H : Hp} {Q : VK} {E : XK} (h0 : 0 ≤ pi) (ha : H a = some (.lst (rowOf N b))) (q : ∀ H', SameO a H H' → H' a = some (.lst (rowOf N (putS b pi.toNat c))) → Q .non H') : sp__put [.ref a, .int pi, .int c] H Q E :=
  ⟨a, N, pi.toNat, c, b, by rw [Int.toNat_of_nonneg h0], ha, q⟩
theorem put_tsm {m s : Nat} {sg lo : Int} {i N : Nat} {x : Int} (hx : x = ex3 m s (lo + i)) (h0 : 0 ≤ x) : rowOf N (putS (tsm m s sg lo i) x.toNat (sg3 sg (lo + i))) = rowOf N (tsm m s sg lo (i + 1)) := row_ext fun n _ => by
  show (if n = x.toNat then _ else _) = tsm m s sg lo i n + (if ex3 m s (lo + i) = (n : Int) then sg3 sg (lo + i) else 0)
  rw [← hx]
  by_cases c : n = x.toNat
  · rw [if_pos c, if_pos (by omega)]
  · rw [if_neg c, if_neg (by omega), Int.add_zero]
section
variable {P : Program} {w : World} {K : PySem.W.Frag} {mg : Str → Option Value} {base : Heap}
def sp_triple_sum (cS cN cM : Addr) : Sp := fun vs H Q E => ∃ x y z v : V, vs = [x, y, z, v] ∧ PV H x ∧ PV H y ∧ PV H z ∧ PV H v ∧ (okSt x y = false → E (.ref cS) none H) ∧ (okSt x y = true → okSg z = false → ∀ H', Same H H' → E (.ref cN) none H') ∧
  (okSt x y = true → okSg z = true → within v 0 3000 = false → ∀ H', Same H H' → E (.ref cM) none H') ∧
  (∀ (m s mo : Nat) (sg : Int), x = .int (m : Int) → y = .int (s : Int) → z = .int sg → v = .int (mo : Int) → 2 ≤ m → m ≤ 200 → 1 ≤ s → s < m → (sg = 1 ∨ sg = -1) → mo ≤ 3000 →
    ∀ (p : Addr) (H' : Hp), H p = none → Same H H' → H' p = some (.lst (rowOf (mo + 1) (tsm m s sg (-(rt mo : Int)) (2 * rt mo + 1)))) → Q (.ref p) H')
theorem ok_triple_sum (M : Mod P w K mg base) : FnOk P w K mg base (L2.CX P w) 4 M.f_triple_sum M.d_triple_sum ["m", "s", "sign", "most"] (sp_triple_sum M.a_BadStep M.a_BadNumber M.a_BadMost) := by
  refine M.F_triple_sum.ok sc_triple_sum (fun vs H Q E h => ?_) (fun cdv A outer s H vs Q E hr h => ?_)
  · obtain ⟨x, y, z, v, rfl, _⟩ := h
    rfl
  · obtain ⟨x, y, z, v, rfl, hx, hy, hz, hv, q1, q2, q3, q4⟩ := h
    refine ⟨_, (pss_cons (ps_expr (pe_call (ok_check_steps M) (hr.mono (by decide)) rfl M.g_check_steps M.k_check_steps M.b_check_steps .nil (passes_call (takes_of rfl rfl rfl rfl) (fun _ _ _ _ h => h)) (pa_cons (pv 0) (pa_cons (pv 1) pa_nil))))
      (pss_cons (ps_expr (pe_call (ok_check_sign M) (hr.mono (by decide)) rfl M.g_check_sign M.k_check_sign M.b_check_sign .nil (passes_call (takes_of rfl rfl rfl rfl) (fun _ _ _ _ h => h)) (pa_cons (pv 2) pa_nil)))
      (pss_cons (ps_expr (pe_call (ok_check_most M) (hr.mono (by decide)) rfl M.g_check_most M.k_check_most M.b_check_most .nil (passes_call (takes_of rfl rfl rfl rfl) (fun _ _ _ _ h => h)) (pa_cons (pv 3) pa_nil)))
      (PSs.nox 
      (pss_cons (ps_set (i := 4) sc_triple_sum.nd rfl (Or.inl rfl) (pe_op op_rep (pe_lst (pa_cons pe_int pa_nil)) (pe_op op_add (pv 3) pe_int)))
      (pss_cons (ps_set (i := 5) sc_triple_sum.nd rfl (Or.inl rfl) (pe_callBfun cr_isqrt rfl M.i_isqrt (pa_cons (pv 3) pa_nil)))
      (pss_cons (ps_for PassesOwn.never rfl (pi_range2 (by rfl) M.range0 (pa_cons (pe_un un_neg (pv 5)) (pa_cons (pe_op op_add (pv 5) pe_int) pa_nil))) (pg_name (i := 6) sc_triple_sum.nd rfl (Or.inl rfl)) 
        (pss_one (ps_expr (pe_call (ok__put M) (hr.mono (by decide)) rfl M.g__put M.k__put M.b__put .nil pass0 (pa_cons (pv 4) (pa_cons (pe_op op_add (pe_op op_fdiv (pe_op op_mul (pe_op op_mul (pv 0) (pv 6)) (pe_op op_sub (pv 6) pe_int)) pe_int) (pe_op op_mul (pv 1) (pv 6))) (pa_cons (pe_ifExp (pt_cmpR op_eq (pe_op op_mod (pv 6) pe_int) pe_int (nomark _)) (pv 2) pe_int) pa_nil)))))))
      (pss_one (ps_ret (pv 4)))))))))), ?_⟩
    refine ⟨_, rfl, _, rfl, x, y, rfl, hx, hy, fun h1 => ?_, q1⟩
    refine ⟨_, rfl, z, rfl, hz, fun h2 H1 s1 => ?_, fun h2 => q2 h1 h2⟩
    refine ⟨_, rfl, v, rfl, hv.same s1, fun h3 => ?_, fun h3 => q3 h1 h2 h3 _ s1⟩
    obtain ⟨m, st, rfl, rfl, m1, m2, st1, st2⟩ := okSt_int h1
    obtain ⟨sg, rfl, hsg⟩ := okSg_int h2
    obtain ⟨mo, rfl, mo0, mo1⟩ := within_int h3
    obtain ⟨mo, rfl⟩ : ∃ n : Nat, mo = (n : Int) := ⟨mo.toNat, by omega⟩
    have hmo : mo ≤ 3000 := by omega
    have hR := rt_le hmo
    have q := q4 m st mo sg rfl rfl rfl rfl m1 m2 st1 st2 hsg hmo
    clear q1 q2 q3 q4 h1 h2 h3 hx hy hz hv
    refine ⟨(by show 1 ≤ sizeLine; decide), fun p1 g1 => ⟨_, rfl, _, _, rfl, rfl, p1, _, _, rfl, rfl, upd_same, by omega, by omega, ?_, fun p2 g2 => ?_⟩⟩
    · show 1 * _ ≤ sizeLine
      rw [sizeLine_eq]
      omega
    have s2 := (s1.trans (same_new (o := .lst [V.int 0]) g1)).trans (same_new (o := .lst (List.replicate ((mo : Int) + 1).toNat [V.int 0]).flatten) g2)
    have e2 : (upd (upd H1 p1 (.lst [V.int 0])) p2 (.lst (List.replicate ((mo : Int) + 1).toNat [V.int 0]).flatten)) p2 = some (.lst (rowOf (mo + 1) (tsm m st sg (-(rt mo : Int)) 0))) := by
      rw [upd_same, rep1, row_zero (b := tsm m st sg (-(rt mo : Int)) 0) (fun _ _ => rfl)]
      rfl
    have hp2 : H p2 = none := (s1.trans (same_new (o := .lst [V.int 0]) g1)).free g2
    generalize upd (upd H1 p1 (.lst [V.int 0])) p2 (.lst (List.replicate ((mo : Int) + 1).toNat [V.int 0]).flatten) = H2 at s2 e2 ⊢
    clear g1 g2 s1
    refine ⟨_, rfl, mo, rfl, by omega, fun r r1 r2 => ?_⟩
    have er := rt_eq r1 r2
    subst er
    obtain ⟨R, eR⟩ : ∃ R, R = rt mo := ⟨_, rfl⟩
    rw [← eR] at hR q e2 ⊢
    clear r1 r2 eR
    refine ⟨_, rfl, _, rfl, _, rfl, _, _, rfl, rfl, _, _, rfl, ⟨by omega, by omega, by omega, by omega⟩, ?_⟩
    refine for_range (lo := -(R : Int)) (n := ((R : Int) + 1 - -(R : Int)).toNat) (fun i σ H' => ∃ x6, σ = [some (.int (m : Int)), some (.int (st : Int)), some (.int sg), some (.int (mo : Int)), some (.ref p2), some (.int (R : Int)), x6] ∧ H' p2 = some (.lst (rowOf (mo + 1) (tsm m st sg (-(R : Int)) i))) ∧ SameO p2 H2 H') ⟨_, rfl, e2, SameO.refl⟩ ?_ ?_
    · rintro i σ H3 hi ⟨x6, rfl, e3, s3⟩
      obtain ⟨k, ek⟩ : ∃ k : Int, k = -(R : Int) + (i : Int) := ⟨_, rfl⟩
      rw [← ek]
      have k1 : -60 ≤ k := by omega
      have k2 : k ≤ 61 := by omega
      have pos : 0 ≤ ex3 m st k := Int.le_trans (sq_nn k) (ex3_sq st1 st2 k)
      refine ⟨_, rfl, _, rfl, _, rfl, _, _, rfl, rfl, .inl ⟨by omega, by omega⟩, _, rfl, _, _, rfl, rfl, _, _, rfl, rfl, .inr ⟨by omega, by omega⟩, _, _, rfl, rfl, ⟨by decide, by decide⟩, _, rfl, _, rfl, _, _, rfl, rfl, .inl ⟨by omega, by omega⟩, _, _, rfl, rfl, _, rfl, _, _, rfl, rfl, (show (0 : Int) < 2 by decide), rfl, _, rfl, ?_⟩
      have fin : ∀ H4, SameO p2 H3 H4 → H4 p2 = some (.lst (rowOf (mo + 1) (putS (tsm m st sg (-(R : Int)) i) (ex3 m st k).toNat (sg3 sg k)))) → ∃ x6', [some (V.int (m : Int)), some (.int (st : Int)), some (.int sg), some (.int (mo : Int)), some (.ref p2), some (.int (R : Int)), some (.int k)] = [some (.int (m : Int)), some (.int (st : Int)), some (.int sg), some (.int (mo : Int)), some (.ref p2), some (.int (R : Int)), x6'] ∧ H4 p2 = some (.lst (rowOf (mo + 1) (tsm m st sg (-(R : Int)) (i + 1)))) ∧ SameO p2 H2 H4 := fun H4 s4 e4 => by
        refine ⟨_, rfl, ?_, s3.trans s4⟩
        rw [e4, ek, put_tsm rfl (by rw [← ek]; exact pos)]
      by_cases c : k % 2 = 1
      · have es : sg3 sg k = sg := by
          unfold sg3
          rw [if_pos c]
        rw [es] at fin
        refine iteT' (decide_eq_true (congrArg V.int c)) ⟨_, rfl, tn <| use_put (pi := ex3 m st k) pos e3 fin⟩
      · have es : sg3 sg k = 1 := by
          unfold sg3
          rw [if_neg c]
        rw [es] at fin
        refine iteF' (decide_eq_false fun z => c (by injection z)) ?_
        refine tnC (tn <| use_put (pi := ex3 m st k) pos e3 fin)
    · rintro σ H3 ⟨x6, rfl, e3, s3⟩
      have eN : ((R : Int) + 1 - -(R : Int)).toNat = 2 * R + 1 := by omega
      rw [eN] at e3
      exact ⟨_, rfl, q p2 H3 hp2 (s3.back s2 hp2) e3⟩
end
end K03

set_option Elab.async false
set_option linter.all false
set_option maxRecDepth 100000
set_option maxHeartbeats 4000000
set_option pp.maxSteps 3000
set_option exponentiation.threshold 500000
namespace K03
open PySem PySem.Spec PyProof.Rows L2 Dr Xv LamX Ps Gn
theorem put_qsm {m s : Nat} {lo : Int} {i N : Nat} {x y : Int} (hx : x = ea5 m s (lo + i)) (hy : y = eb5 m s (lo + i)) (h0 : 0 ≤ x) (h1 : 0 ≤ y) : rowOf N (putS (putS (qsm m s lo i) x.toNat 1) y.toNat (-1)) = rowOf N (qsm m s lo (i + 1)) := row_ext fun n _ => by
  show (if n = y.toNat then (if n = x.toNat then _ else _) + _ else (if n = x.toNat then _ else _)) = qsm m s lo i n + ((if ea5 m s (lo + i) = (n : Int) then 1 else 0) + (if eb5 m s (lo + i) = (n : Int) then -1 else 0))
  rw [← hx, ← hy]
  by_cases c : n = x.toNat
  · rw [if_pos c, if_pos (show x = (n : Int) by omega)]
    by_cases d : n = y.toNat
    · rw [if_pos d, if_pos (show y = (n : Int) by omega)]
      omega
    · rw [if_neg d, if_neg (show ¬ y = (n : Int) by omega)]
      omega
  · rw [if_neg c, if_neg (show ¬ x = (n : Int) by omega)]
    by_cases d : n = y.toNat
    · rw [if_pos d, if_pos (show y = (n : Int) by omega)]
      omega
    · rw [if_neg d, if_neg (show ¬ y = (n : Int) by omega)]
      omega
theorem okHs_int {x y : V} (h : okHs x y = true) : ∃ m s : Nat, x = .int (m : Int) ∧ y = .int (s : Int) ∧ m ≤ 200 ∧ 1 ≤ s ∧ 2 * s < m := by
  unfold okHs at h
  rw [Bool.and_eq_true] at h
  obtain ⟨m, s, rfl, rfl, h1, h2, h3, h4⟩ := okSt_int h.1
  have z := of_decide_eq_true h.2
  exact ⟨m, s, rfl, rfl, h2, h3, by omega⟩
theorem okHs_yes {m s : Nat} (h2 : m ≤ 200) (h3 : 1 ≤ s) (h4 : 2 * s < m) : okHs (.int (m : Int)) (.int (s : Int)) = true := by
  unfold okHs
  rw [okSt_yes (by omega) h2 h3 (by omega)]
  exact decide_eq_true (by omega)
section
variable {P : Program} {w : World} {K : PySem.W.Frag} {mg : Str → Option Value} {base : Heap}
def sp_quintuple_sum (cS cM : Addr) : Sp := fun vs H Q E => ∃ x y v : V, vs = [x, y, v] ∧ PV H x ∧ PV H y ∧ PV H v ∧ (okHs x y = false → E (.ref cS) none H) ∧ (okHs x y = true → within v 0 3000 = false → E (.ref cM) none H) ∧
  (∀ (m s mo : Nat), x = .int (m : Int) → y = .int (s : Int) → v = .int (mo : Int) → m ≤ 200 → 1 ≤ s → 2 * s < m → mo ≤ 3000 →
    ∀ (p : Addr) (H' : Hp), H p = none → Same H H' → H' p = some (.lst (rowOf (mo + 1) (qsm m s (-(rt mo : Int)) (2 * rt mo + 1)))) → Q (.ref p) H')
theorem ok_quintuple_sum (M : Mod P w K mg base) : FnOk P w K mg base (L2.CX P w) 5 M.f_quintuple_sum M.d_quintuple_sum ["m", "s", "most"] (sp_quintuple_sum M.a_BadStep M.a_BadMost) := by
  refine M.F_quintuple_sum.ok sc_quintuple_sum (fun vs H Q E h => ?_) (fun cdv A outer s H vs Q E hr h => ?_)
  · obtain ⟨x, y, v, rfl, _⟩ := h
    rfl
  · obtain ⟨x, y, v, rfl, hx, hy, hv, q1, q3, q4⟩ := h
    refine ⟨_, (pss_cons (ps_expr (pe_call (ok_check_half_steps M) (hr.mono (by decide)) rfl M.g_check_half_steps M.k_check_half_steps M.b_check_half_steps .nil (passes_call (takes_of rfl rfl rfl rfl) (fun _ _ _ _ h => h)) (pa_cons (pv 0) (pa_cons (pv 1) pa_nil))))
      (pss_cons (ps_expr (pe_call (ok_check_most M) (hr.mono (by decide)) rfl M.g_check_most M.k_check_most M.b_check_most .nil (passes_call (takes_of rfl rfl rfl rfl) (fun _ _ _ _ h => h)) (pa_cons (pv 2) pa_nil)))
      (PSs.nox 
      (pss_cons (ps_set (i := 3) sc_quintuple_sum.nd rfl (Or.inl rfl) (pe_op op_rep (pe_lst (pa_cons pe_int pa_nil)) (pe_op op_add (pv 2) pe_int)))
      (pss_cons (ps_set (i := 4) sc_quintuple_sum.nd rfl (Or.inl rfl) (pe_callBfun cr_isqrt rfl M.i_isqrt (pa_cons (pv 2) pa_nil)))
      (pss_cons (ps_for PassesOwn.never rfl (pi_range2 (by rfl) M.range0 (pa_cons (pe_un un_neg (pv 4)) (pa_cons (pe_op op_add (pv 4) pe_int) pa_nil))) (pg_name (i := 5) sc_quintuple_sum.nd rfl (Or.inl rfl)) 
        (pss_cons (ps_set (i := 6) sc_quintuple_sum.nd rfl (Or.inl rfl) (pe_op op_fdiv (pe_op op_mul (pe_op op_mul (pv 0) (pv 5)) (pe_op op_add (pe_op op_mul pe_int (pv 5)) pe_int)) pe_int))
        (pss_cons (ps_expr (pe_call (ok__put M) (hr.mono (by decide)) rfl M.g__put M.k__put M.b__put .nil pass0 (pa_cons (pv 3) (pa_cons (pe_op op_sub (pv 6) (pe_op op_mul (pe_op op_mul pe_int (pv 5)) (pv 1))) (pa_cons pe_int pa_nil)))))
        (pss_one (ps_expr (pe_call (ok__put M) (hr.mono (by decide)) rfl M.g__put M.k__put M.b__put .nil pass0 (pa_cons (pv 3) (pa_cons (pe_op op_add (pv 6) (pe_op op_mul (pe_op op_add (pe_op op_mul pe_int (pv 5)) pe_int) (pv 1))) (pa_cons (pe_un un_neg pe_int) pa_nil)))))))))
      (pss_one (ps_ret (pv 3))))))))), ?_⟩
    refine ⟨_, rfl, _, rfl, x, y, rfl, hx, hy, fun h1 => ?_, q1⟩
    refine ⟨_, rfl, v, rfl, hv, fun h3 => ?_, fun h3 => q3 h1 h3⟩
    obtain ⟨m, st, rfl, rfl, m2, st1, st2⟩ := okHs_int h1
    obtain ⟨mo, rfl, mo0, mo1⟩ := within_int h3
    obtain ⟨mo, rfl⟩ : ∃ n : Nat, mo = (n : Int) := ⟨mo.toNat, by omega⟩
    have hmo : mo ≤ 3000 := by omega
    have hR := rt_le hmo
    have q := q4 m st mo rfl rfl rfl m2 st1 st2 hmo
    clear q1 q3 q4 h1 h3 hx hy hv
    refine ⟨(by show 1 ≤ sizeLine; decide), fun p1 g1 => ⟨_, rfl, _, _, rfl, rfl, p1, _, _, rfl, rfl, upd_same, by omega, by omega, ?_, fun p2 g2 => ?_⟩⟩
    · show 1 * _ ≤ sizeLine
      rw [sizeLine_eq]
      omega
    have s2 := (same_new (o := .lst [V.int 0]) g1).trans (same_new (o := .lst (List.replicate ((mo : Int) + 1).toNat [V.int 0]).flatten) g2)
    have e2 : (upd (upd H p1 (.lst [V.int 0])) p2 (.lst (List.replicate ((mo : Int) + 1).toNat [V.int 0]).flatten)) p2 = some (.lst (rowOf (mo + 1) (qsm m st (-(rt mo : Int)) 0))) := by
      rw [upd_same, rep1, row_zero (b := qsm m st (-(rt mo : Int)) 0) (fun _ _ => rfl)]
      rfl
    have hp2 : H p2 = none := (same_new (o := .lst [V.int 0]) g1).free g2
    generalize upd (upd H p1 (.lst [V.int 0])) p2 (.lst (List.replicate ((mo : Int) + 1).toNat [V.int 0]).flatten) = H2 at s2 e2 ⊢
    clear g1 g2
    refine ⟨_, rfl, mo, rfl, by omega, fun r r1 r2 => ?_⟩
    have er := rt_eq r1 r2
    subst er
    obtain ⟨R, eR⟩ : ∃ R, R = rt mo := ⟨_, rfl⟩
    rw [← eR] at hR q e2 ⊢
    clear r1 r2 eR
    refine ⟨_, rfl, _, rfl, _, rfl, _, _, rfl, rfl, _, _, rfl, ⟨by omega, by omega, by omega, by omega⟩, ?_⟩
    refine for_range (lo := -(R : Int)) (n := ((R : Int) + 1 - -(R : Int)).toNat) (fun i σ H' => ∃ x5 x6, σ = [some (.int (m : Int)), some (.int (st : Int)), some (.int (mo : Int)), some (.ref p2), some (.int (R : Int)), x5, x6] ∧ H' p2 = some (.lst (rowOf (mo + 1) (qsm m st (-(R : Int)) i))) ∧ SameO p2 H2 H') ⟨_, _, rfl, e2, SameO.refl⟩ ?_ ?_
    · rintro i σ H3 hi ⟨x5, x6, rfl, e3, s3⟩
      obtain ⟨k, ek⟩ : ∃ k : Int, k = -(R : Int) + (i : Int) := ⟨_, rfl⟩
      rw [← ek]
      have k1 : -60 ≤ k := by omega
      have k2 : k ≤ 61 := by omega
      have pa : 0 ≤ ea5 m st k := Int.le_trans (sq_nn k) (ea5_sq st1 st2 k)
      have pb : 0 ≤ eb5 m st k := Int.le_trans (sq_nn k) (eb5_sq st1 st2 k)
      refine ⟨_, rfl, _, rfl, _, _, rfl, rfl, .inl ⟨by omega, by omega⟩, _, rfl, _, _, rfl, rfl, .inl ⟨by decide, by decide⟩, _, _, rfl, rfl, _, _, rfl, rfl, .inr ⟨by omega, by omega⟩, _, _, rfl, rfl, ⟨by decide, by decide⟩, ?_⟩
      refine ⟨_, rfl, _, rfl, _, rfl, _, _, rfl, rfl, .inl ⟨by decide, by decide⟩, _, rfl, _, _, rfl, rfl, .inr ⟨by omega, by omega⟩, _, _, rfl, rfl, ?_⟩
      refine tnC (tn <| use_put (pi := ea5 m st k) pa e3 fun H4 s4 e4 => ?_)
      refine ⟨_, rfl, _, rfl, _, rfl, _, _, rfl, rfl, .inl ⟨by decide, by decide⟩, _, _, rfl, rfl, _, rfl, _, _, rfl, rfl, .inr ⟨by omega, by omega⟩, _, _, rfl, rfl, 1, rfl, ?_⟩
      refine tn <| use_put (pi := eb5 m st k) pb e4 fun H5 s5 e5 => ?_
      refine ⟨_, _, rfl, ?_, (s3.trans s4).trans s5⟩
      rw [e5, put_qsm (by rw [ek]) (by rw [ek]) pa pb]
    · rintro σ H3 ⟨x5, x6, rfl, e3, s3⟩
      have eN : ((R : Int) + 1 - -(R : Int)).toNat = 2 * R + 1 := by omega
      rw [eN] at e3
      exact ⟨_, rfl, q p2 H3 hp2 (s3.back s2 hp2) e3⟩
end
end K03

set_option Elab.async false
set_option linter.all false
set_option maxRecDepth 100000
set_option maxHeartbeats 4000000
set_option pp.maxSteps 3000
set_option exponentiation.threshold 500000
namespace K03
open PySem PySem.Spec PyProof.Rows L2 Dr Xv LamX Ps Gn
section
variable {H : Hp} {p : Addr} {ns : List Int} {m B : Nat} {cR cM : Addr} {Q : VK} {E : XK}
theorem pow_ints (l : ns.length ≤ 3000) : powOk (some (ns.map V.int)) = true := by
  show ((ns.map V.int).all isNum && decide (((ns.map V.int).length : Int) ≤ 3000)) = true
  rw [all_num, List.length_map, decide_eq_true (by omega : (ns.length : Int) ≤ 3000)]
  rfl
theorem use_pr (hp : H p = some (.lst (ns.map V.int))) (l : ns.length ≤ 3000) (hm : m ≤ 3000) (b0 : 0 < B) (b1 : B ≤ 400000) (bs : ∀ k, k < m + 1 → (sS (fnL ns) m k).natAbs < 2 ^ B) (ba : ∀ k, k < m + 1 → (prA (fnL ns) m k).natAbs < 2 ^ B)
    (k : ∀ (r : Addr) (H' : Hp), H r = none → Same H H' → H' r = some (.lst (rowOf (m + 1) (prA (fnL ns) m))) → Q (.ref r) H') : sp_product_row cR cM [.ref p, .int (m : Int)] H Q E := by
  refine ⟨_, _, _, rfl, .lst hp, short_ints (by omega), pv_ints _, .int _, fun z => ?_, fun _ z => ?_, fun ns' m' e1 _ e2 _ => ?_⟩
  · rw [pow_ints l] at z
    cases z
  · rw [within_yes (by omega) (by omega)] at z
    cases z
  · cases ints_inj e1
    have e3 : m = m' := by
      injection e2 with e2
      omega
    subst e3
    exact ⟨⟨B, b0, b1, bs, ba⟩, k⟩
end
theorem use_pf {a : Addr} {N : Nat} {pi c : Int} (n : Nat) (e : pi = (n : Int)) {b : S} {H : Hp} {Q : VK} {E : XK} (ha : H a = some (.lst (rowOf N b))) (q : ∀ H', SameO a H H' → H' a = some (.lst (rowOf N (pfS b n c))) → Q .non H') : sp__put_factor [.ref a, .int pi, .int c] H Q E :=
  ⟨a, N, n, c, b, by rw [e], ha, q⟩
/-- the product of a list of powers, bounded by c -/
theorem use_row {cR cM : Addr} {H : Hp} {Q : VK} {E : XK} {p : Addr} {m c : Nat} {b A : S} (P : PI m b A) (hb : ∀ n, (b n).natAbs ≤ c) (hc : c ≤ 3000) (hm : m ≤ 200) (hp : H p = some (.lst (rowOf m fun i => b (i + 1))))
    (k : ∀ (r : Addr) (H' : Hp), H r = none → Same H H' → H' r = some (.lst (rowOf (m + 1) A)) → Q (.ref r) H') : sp_product_row cR cM [.ref p, .int (m : Int)] H Q E := by
  have hf : ∀ i, (fnL (intsOf m fun i => b (i + 1)) i).natAbs ≤ c := fun i => by
    by_cases h : i < m
    · rw [fnL_ints h]
      exact hb _
    · rw [fnL_out (by rw [len_ints]; omega)]
      exact Nat.zero_le _
  have sb : ∀ k, (sS (fnL (intsOf m fun i => b (i + 1))) m k).natAbs ≤ 2 ^ 27 := fun k => by
    have h1 := sS_bound hf m k
    have h2 : c * (m * (m + 1)) ≤ 3000 * (200 * 201) := Nat.mul_le_mul hc (Nat.mul_le_mul hm (by omega))
    have e : (2 : Nat) ^ 27 = 134217728 := by decide
    omega
  refine use_pr (ns := intsOf m fun i => b (i + 1)) (B := 6000) hp (by rw [len_ints]; omega) (by omega) (by decide) (by decide) (fun k _ => Nat.lt_of_le_of_lt (sb k) (Nat.pow_lt_pow_right (by decide) (by decide))) (fun k hk => ?_) fun r H' hr s h => k r H' hr s ?_
  · have h1 := lg_bound (lg_prA (fnL (intsOf m fun i => b (i + 1))) m) (prA_zero _ _) (B := 2 ^ 27) (N := m) (by decide) (fun k _ => sb k) k (by omega)
    refine Nat.lt_of_le_of_lt h1 ?_
    rw [← Nat.pow_mul]
    exact Nat.pow_lt_pow_right (by decide) (by omega)
  · rw [h]
    congr 2
    exact row_ext fun k hk => P.row (q := fnL (intsOf m fun i => b (i + 1))) (fun i hi => fnL_ints (b := fun i => b (i + 1)) hi) k (by omega)
theorem ps_nox {X : Cx} {st : Stmt} {t : TS} (h : PS X.nox st t) : PS X st t := ⟨fun pins s σ H D I hw =>
  wpAny_mono (h.run pins s σ H D (I.wish _) hw) (fun _ _ q => q.unwish) fun _ _ z => False.elim z⟩
def b3 (m s : Nat) (sg : Int) : Nat → S
  | 0 => fun _ => 0
  | j + 1 => pfS (pfS (pfS (b3 m s sg j) (m * (j + 1)) (-1)) (m * (j + 1) - s) sg) (m * j + s) sg
def c3 (m s : Nat) (sg : Int) : Nat → S
  | 0 => one
  | j + 1 => mulF (mulF (mulF (c3 m s sg j) (m * (j + 1)) (-1)) (m * (j + 1) - s) sg) (m * j + s) sg
theorem pi3 {M m s : Nat} {sg : Int} (h1 : 1 ≤ s) (h2 : s < m) (hs : sg = 1 ∨ sg = -1) : ∀ j, PI M (b3 m s sg j) (c3 m s sg j)
  | 0 => PI.start M
  | j + 1 => by
    have a : m ≤ m * (j + 1) := Nat.le_mul_of_pos_right m (by omega)
    exact (((pi3 h1 h2 hs j).neg (e := m * (j + 1)) (by omega)).sg (by omega) hs).sg (by omega) hs
theorem b3_le {m s : Nat} {sg : Int} (hs : sg = 1 ∨ sg = -1) : ∀ j n, (b3 m s sg j n).natAbs ≤ 6 * j
  | 0, _ => Nat.le_refl _
  | j + 1, n => pf_le (pf_le (pf_le (b3_le hs j) (.inr rfl)) hs) hs n
def b5 (m s : Nat) : Nat → S
  | 0 => fun _ => 0
  | j + 1 => pfS (pfS (pfS (pfS (pfS (b5 m s j) (m * (j + 1)) (-1)) (m * (j + 1) - s) (-1)) (m * j + s) (-1)) (2 * (m * j) + m - 2 * s) (-1)) (2 * (m * j) + m + 2 * s) (-1)
def c5 (m s : Nat) : Nat → S
  | 0 => one
  | j + 1 => mulF (mulF (mulF (mulF (mulF (c5 m s j) (m * (j + 1)) (-1)) (m * (j + 1) - s) (-1)) (m * j + s) (-1)) (2 * (m * j) + m - 2 * s) (-1)) (2 * (m * j) + m + 2 * s) (-1)
theorem pi5 {M m s : Nat} (h1 : 1 ≤ s) (h2 : 2 * s < m) : ∀ j, PI M (b5 m s j) (c5 m s j)
  | 0 => PI.start M
  | j + 1 => by
    have a : m ≤ m * (j + 1) := Nat.le_mul_of_pos_right m (by omega)
    exact (((((pi5 h1 h2 j).neg (e := m * (j + 1)) (by omega)).neg (by omega)).neg (by omega)).neg (by omega)).neg (by omega)
theorem b5_le {m s : Nat} : ∀ j n, (b5 m s j n).natAbs ≤ 10 * j
  | 0, _ => Nat.le_refl _
  | j + 1, n => pf_le (pf_le (pf_le (pf_le (pf_le (b5_le j) (.inr rfl)) (.inr rfl)) (.inr rfl)) (.inr rfl)) (.inr rfl) n
/-- rounds of a product up to mo -/
theorem rounds {m mo : Nat} (h : 0 < m) : upN m (mo + m + 1) m ≤ mo + 1 := by
  refine Nat.le_of_not_lt fun z => ?_
  have q := (lt_upN (a := m) (b := mo + m + 1) (d := m) h).mp z
  have := Nat.le_mul_of_pos_right (mo + 1) h
  omega
section
variable {P : Program} {w : World} {K : PySem.W.Frag} {mg : Str → Option Value} {base : Heap}
def sp_triple_product (cS cN cM : Addr) : Sp := fun vs H Q E => ∃ x y z v : V, vs = [x, y, z, v] ∧ PV H x ∧ PV H y ∧ PV H z ∧ PV H v ∧ (okSt x y = false → E (.ref cS) none H) ∧ (okSt x y = true → okSg z = false → ∀ H', Same H H' → E (.ref cN) none H') ∧
  (okSt x y = true → okSg z = true → within v 0 3000 = false → ∀ H', Same H H' → E (.ref cM) none H') ∧
  (∀ (m s mo : Nat) (sg : Int), x = .int (m : Int) → y = .int (s : Int) → z = .int sg → v = .int (mo : Int) → okSt x y = true → okSg z = true → within v 0 3000 = true → mo ≤ 200 ∧
    ∀ (p : Addr) (H' : Hp), H p = none → Same H H' → H' p = some (.lst (rowOf (mo + 1) (c3 m s sg (upN m (mo + m + 1) m)))) → Q (.ref p) H')
theorem ok_triple_product (M : Mod P w K mg base) : FnOk P w K mg base (L2.CX P w) 7 M.f_triple_product M.d_triple_product ["m", "s", "sign", "most"] (sp_triple_product M.a_BadStep M.a_BadNumber M.a_BadMost) := by
  refine M.F_triple_product.ok sc_triple_product (fun vs H Q E h => ?_) (fun cdv A outer s H vs Q E hr h => ?_)
  · obtain ⟨x, y, z, v, rfl, _⟩ := h
    rfl
  · obtain ⟨x, y, z, v, rfl, hx, hy, hz, hv, q1, q2, q3, q4⟩ := h
    refine ⟨_, (pss_cons (ps_expr (pe_call (ok_check_steps M) (hr.mono (by decide)) rfl M.g_check_steps M.k_check_steps M.b_check_steps .nil (passes_call (takes_of rfl rfl rfl rfl) (fun _ _ _ _ h => h)) (pa_cons (pv 0) (pa_cons (pv 1) pa_nil))))
      (pss_cons (ps_expr (pe_call (ok_check_sign M) (hr.mono (by decide)) rfl M.g_check_sign M.k_check_sign M.b_check_sign .nil (passes_call (takes_of rfl rfl rfl rfl) (fun _ _ _ _ h => h)) (pa_cons (pv 2) pa_nil)))
      (pss_cons (ps_expr (pe_call (ok_check_most M) (hr.mono (by decide)) rfl M.g_check_most M.k_check_most M.b_check_most .nil (passes_call (takes_of rfl rfl rfl rfl) (fun _ _ _ _ h => h)) (pa_cons (pv 3) pa_nil)))
      (pss_cons (ps_set (i := 4) sc_triple_product.nd rfl (Or.inl rfl) (pe_op op_rep (pe_lst (pa_cons pe_int pa_nil)) (pe_op op_add (pv 3) pe_int)))
      (pss_cons (ps_nox (ps_for PassesOwn.never rfl (pi_range3 (by rfl) M.range0 (pa_cons (pv 0) (pa_cons (pe_op op_add (pe_op op_add (pv 3) (pv 0)) pe_int) (pa_cons (pv 0) pa_nil)))) (pg_name (i := 5) sc_triple_product.nd rfl (Or.inl rfl)) 
        (pss_cons (ps_expr (pe_call (ok__put_factor M) (hr.mono (by decide)) rfl M.g__put_factor M.k__put_factor M.b__put_factor .nil pass0 (pa_cons (pv 4) (pa_cons (pv 5) (pa_cons (pe_un un_neg pe_int) pa_nil)))))
        (pss_cons (ps_expr (pe_call (ok__put_factor M) (hr.mono (by decide)) rfl M.g__put_factor M.k__put_factor M.b__put_factor .nil pass0 (pa_cons (pv 4) (pa_cons (pe_op op_sub (pv 5) (pv 1)) (pa_cons (pv 2) pa_nil)))))
        (pss_one (ps_expr (pe_call (ok__put_factor M) (hr.mono (by decide)) rfl M.g__put_factor M.k__put_factor M.b__put_factor .nil pass0 (pa_cons (pv 4) (pa_cons (pe_op op_add (pe_op op_sub (pv 5) (pv 0)) (pv 1)) (pa_cons (pv 2) pa_nil))))))))))
      (pss_one (ps_ret (pe_call (ok_product_row M) (hr.mono (by decide)) rfl M.g_product_row M.k_product_row M.b_product_row .nil (passes_call (takes_of rfl rfl rfl rfl) (fun _ _ _ _ h => h)) (pa_cons (pe_slice sl_list (pv 4) (po_some pe_int) po_none) (pa_cons (pv 3) pa_nil)))))))))), ?_⟩
    refine ⟨_, rfl, _, rfl, x, y, rfl, hx, hy, fun h1 => ?_, q1⟩
    refine ⟨_, rfl, z, rfl, hz, fun h2 H1 s1 => ?_, fun h2 => q2 h1 h2⟩
    refine ⟨_, rfl, v, rfl, hv.same s1, fun h3 => ?_, fun h3 => q3 h1 h2 h3 _ s1⟩
    obtain ⟨m, st, rfl, rfl, m1, m2, st1, st2⟩ := okSt_int h1
    obtain ⟨sg, rfl, hsg⟩ := okSg_int h2
    obtain ⟨mo, rfl, mo0, mo1⟩ := within_int h3
    obtain ⟨mo, rfl⟩ : ∃ n : Nat, mo = (n : Int) := ⟨mo.toNat, by omega⟩
    obtain ⟨hmo, q⟩ := q4 m st mo sg rfl rfl rfl rfl h1 h2 h3
    clear q1 q2 q3 q4 h1 h2 h3 hx hy hz hv
    refine ⟨(by show 1 ≤ sizeLine; decide), fun p1 g1 => ⟨_, rfl, _, _, rfl, rfl, p1, _, _, rfl, rfl, upd_same, by omega, by omega, ?_, fun p2 g2 => ?_⟩⟩
    · show 1 * _ ≤ sizeLine
      rw [sizeLine_eq]
      omega
    have s2 := (s1.trans (same_new (o := .lst [V.int 0]) g1)).trans (same_new (o := .lst (List.replicate ((mo : Int) + 1).toNat [V.int 0]).flatten) g2)
    have e2 : (upd (upd H1 p1 (.lst [V.int 0])) p2 (.lst (List.replicate ((mo : Int) + 1).toNat [V.int 0]).flatten)) p2 = some (.lst (rowOf (mo + 1) (b3 m st sg 0))) := by
      rw [upd_same, rep1, row_zero (b := b3 m st sg 0) (fun _ _ => rfl)]
      rfl
    have hp2 : H p2 = none := (s1.trans (same_new (o := .lst [V.int 0]) g1)).free g2
    generalize upd (upd H1 p1 (.lst [V.int 0])) p2 (.lst (List.replicate ((mo : Int) + 1).toNat [V.int 0]).flatten) = H2 at s2 e2 ⊢
    clear g1 g2 s1
    have hrd := rounds (m := m) (mo := mo) (by omega)
    have rg : RgC (m : Int) ((mo : Int) + m + 1) (m : Int) (upN m (mo + m + 1) m) := by
      have z := rg_up (a := m) (b := mo + m + 1) (d := m) (by omega) (by omega) (by omega) (by omega)
      have e : ((mo + m + 1 : Nat) : Int) = (mo : Int) + m + 1 := by omega
      rw [e] at z
      exact z
    refine ⟨_, rfl, _, rfl, _, rfl, _, _, rfl, rfl, _, _, rfl, rfl, _, rfl, _, _, _, _, rfl, rg, ?_⟩
    refine for_rangeC (fun j σ H' => ∃ x5, σ = [some (.int (m : Int)), some (.int (st : Int)), some (.int sg), some (.int (mo : Int)), some (.ref p2), x5] ∧ H' p2 = some (.lst (rowOf (mo + 1) (b3 m st sg j))) ∧ SameO p2 H2 H') ⟨_, rfl, e2, SameO.refl⟩ ?_ ?_
    · rintro j σ H3 hj ⟨x5, rfl, e3, s3⟩
      have ej : (m : Int) + (j : Int) * (m : Int) = ((m * (j + 1) : Nat) : Int) := by
        push_cast
        rw [Int.mul_add, Int.mul_one, Int.mul_comm (j : Int)]
        omega
      rw [ej]
      have em : m * (j + 1) = m * j + m := by rw [Nat.mul_add, Nat.mul_one]
      refine ⟨_, rfl, _, rfl, 1, rfl, tn <| use_pf (m * (j + 1)) rfl e3 fun H4 s4 e4 => ?_⟩
      refine ⟨_, rfl, _, rfl, _, rfl, _, _, rfl, rfl, _, rfl, tn <| use_pf (m * (j + 1) - st) (by omega) e4 fun H5 s5 e5 => ?_⟩
      refine ⟨_, rfl, _, rfl, _, rfl, _, _, rfl, rfl, _, rfl, _, _, rfl, rfl, _, rfl, tn <| use_pf (m * j + st) (by omega) e5 fun H6 s6 e6 => ?_⟩
      exact ⟨_, rfl, e6, ((s3.trans s4).trans s5).trans s6⟩
    · rintro σ H3 ⟨x5, rfl, e3, s3⟩
      have S3 := s3.back s2 hp2
      refine ⟨_, rfl, 1, rfl, p2, _, rfl, SqL.of e3, fun p3 h3 => ?_⟩
      rw [row_tail]
      have k3 := same_new (o := .lst (rowOf (mo + 1 - 1) fun i => b3 m st sg (upN m (mo + m + 1) m) (i + 1))) h3
      refine ⟨_, rfl, tn <| use_row (pi3 st1 st2 hsg _) (b3_le hsg _) (by omega) hmo upd_same fun r H4 hr4 s4 h4 => ?_⟩
      exact q r H4 (S3.free (k3.free hr4)) ((S3.trans k3).trans s4) h4
def sp_quintuple_product (cS cM : Addr) : Sp := fun vs H Q E => ∃ x y v : V, vs = [x, y, v] ∧ PV H x ∧ PV H y ∧ PV H v ∧ (okHs x y = false → E (.ref cS) none H) ∧ (okHs x y = true → within v 0 3000 = false → E (.ref cM) none H) ∧
  (∀ (m s mo : Nat), x = .int (m : Int) → y = .int (s : Int) → v = .int (mo : Int) → okHs x y = true → within v 0 3000 = true → mo ≤ 200 ∧
    ∀ (p : Addr) (H' : Hp), H p = none → Same H H' → H' p = some (.lst (rowOf (mo + 1) (c5 m s (upN m (mo + m + 1) m)))) → Q (.ref p) H')
theorem ok_quintuple_product (M : Mod P w K mg base) : FnOk P w K mg base (L2.CX P w) 7 M.f_quintuple_product M.d_quintuple_product ["m", "s", "most"] (sp_quintuple_product M.a_BadStep M.a_BadMost) := by
  refine M.F_quintuple_product.ok sc_quintuple_product (fun vs H Q E h => ?_) (fun cdv A outer s H vs Q E hr h => ?_)
  · obtain ⟨x, y, v, rfl, _⟩ := h
    rfl
  · obtain ⟨x, y, v, rfl, hx, hy, hv, q1, q3, q4⟩ := h
    refine ⟨_, (pss_cons (ps_expr (pe_call (ok_check_half_steps M) (hr.mono (by decide)) rfl M.g_check_half_steps M.k_check_half_steps M.b_check_half_steps .nil (passes_call (takes_of rfl rfl rfl rfl) (fun _ _ _ _ h => h)) (pa_cons (pv 0) (pa_cons (pv 1) pa_nil))))
      (pss_cons (ps_expr (pe_call (ok_check_most M) (hr.mono (by decide)) rfl M.g_check_most M.k_check_most M.b_check_most .nil (passes_call (takes_of rfl rfl rfl rfl) (fun _ _ _ _ h => h)) (pa_cons (pv 2) pa_nil)))
      (pss_cons (ps_set (i := 3) sc_quintuple_product.nd rfl (Or.inl rfl) (pe_op op_rep (pe_lst (pa_cons pe_int pa_nil)) (pe_op op_add (pv 2) pe_int)))
      (pss_cons (ps_nox (ps_for PassesOwn.never rfl (pi_range3 (by rfl) M.range0 (pa_cons (pv 0) (pa_cons (pe_op op_add (pe_op op_add (pv 2) (pv 0)) pe_int) (pa_cons (pv 0) pa_nil)))) (pg_name (i := 4) sc_quintuple_product.nd rfl (Or.inl rfl)) 
        (pss_cons (ps_expr (pe_call (ok__put_factor M) (hr.mono (by decide)) rfl M.g__put_factor M.k__put_factor M.b__put_factor .nil pass0 (pa_cons (pv 3) (pa_cons (pv 4) (pa_cons (pe_un un_neg pe_int) pa_nil)))))
        (pss_cons (ps_expr (pe_call (ok__put_factor M) (hr.mono (by decide)) rfl M.g__put_factor M.k__put_factor M.b__put_factor .nil pass0 (pa_cons (pv 3) (pa_cons (pe_op op_sub (pv 4) (pv 1)) (pa_cons (pe_un un_neg pe_int) pa_nil)))))
        (pss_cons (ps_expr (pe_call (ok__put_factor M) (hr.mono (by decide)) rfl M.g__put_factor M.k__put_factor M.b__put_factor .nil pass0 (pa_cons (pv 3) (pa_cons (pe_op op_add (pe_op op_sub (pv 4) (pv 0)) (pv 1)) (pa_cons (pe_un un_neg pe_int) pa_nil)))))
        (pss_cons (ps_expr (pe_call (ok__put_factor M) (hr.mono (by decide)) rfl M.g__put_factor M.k__put_factor M.b__put_factor .nil pass0 (pa_cons (pv 3) (pa_cons (pe_op op_sub (pe_op op_sub (pe_op op_mul pe_int (pv 4)) (pv 0)) (pe_op op_mul pe_int (pv 1))) (pa_cons (pe_un un_neg pe_int) pa_nil)))))
        (pss_one (ps_expr (pe_call (ok__put_factor M) (hr.mono (by decide)) rfl M.g__put_factor M.k__put_factor M.b__put_factor .nil pass0 (pa_cons (pv 3) (pa_cons (pe_op op_add (pe_op op_sub (pe_op op_mul pe_int (pv 4)) (pv 0)) (pe_op op_mul pe_int (pv 1))) (pa_cons (pe_un un_neg pe_int) pa_nil))))))))))))
      (pss_one (ps_ret (pe_call (ok_product_row M) (hr.mono (by decide)) rfl M.g_product_row M.k_product_row M.b_product_row .nil (passes_call (takes_of rfl rfl rfl rfl) (fun _ _ _ _ h => h)) (pa_cons (pe_slice sl_list (pv 3) (po_some pe_int) po_none) (pa_cons (pv 2) pa_nil))))))))), ?_⟩
    refine ⟨_, rfl, _, rfl, x, y, rfl, hx, hy, fun h1 => ?_, q1⟩
    refine ⟨_, rfl, v, rfl, hv, fun h3 => ?_, fun h3 => q3 h1 h3⟩
    obtain ⟨m, st, rfl, rfl, m2, st1, st2⟩ := okHs_int h1
    obtain ⟨mo, rfl, mo0, mo1⟩ := within_int h3
    obtain ⟨mo, rfl⟩ : ∃ n : Nat, mo = (n : Int) := ⟨mo.toNat, by omega⟩
    obtain ⟨hmo, q⟩ := q4 m st mo rfl rfl rfl h1 h3
    clear q1 q3 q4 h1 h3 hx hy hv
    refine ⟨(by show 1 ≤ sizeLine; decide), fun p1 g1 => ⟨_, rfl, _, _, rfl, rfl, p1, _, _, rfl, rfl, upd_same, by omega, by omega, ?_, fun p2 g2 => ?_⟩⟩
    · show 1 * _ ≤ sizeLine
      rw [sizeLine_eq]
      omega
    have s2 := (same_new (o := .lst [V.int 0]) g1).trans (same_new (o := .lst (List.replicate ((mo : Int) + 1).toNat [V.int 0]).flatten) g2)
    have e2 : (upd (upd H p1 (.lst [V.int 0])) p2 (.lst (List.replicate ((mo : Int) + 1).toNat [V.int 0]).flatten)) p2 = some (.lst (rowOf (mo + 1) (b5 m st 0))) := by
      rw [upd_same, rep1, row_zero (b := b5 m st 0) (fun _ _ => rfl)]
      rfl
    have hp2 : H p2 = none := (same_new (o := .lst [V.int 0]) g1).free g2
    generalize upd (upd H p1 (.lst [V.int 0])) p2 (.lst (List.replicate ((mo : Int) + 1).toNat [V.int 0]).flatten) = H2 at s2 e2 ⊢
    clear g1 g2
    have hrd := rounds (m := m) (mo := mo) (by omega)
    have rg : RgC (m : Int) ((mo : Int) + m + 1) (m : Int) (upN m (mo + m + 1) m) := by
      have z := rg_up (a := m) (b := mo + m + 1) (d := m) (by omega) (by omega) (by omega) (by omega)
      have e : ((mo + m + 1 : Nat) : Int) = (mo : Int) + m + 1 := by omega
      rw [e] at z
      exact z
    refine ⟨_, rfl, _, rfl, _, rfl, _, _, rfl, rfl, _, _, rfl, rfl, _, rfl, _, _, _, _, rfl, rg, ?_⟩
    refine for_rangeC (fun j σ H' => ∃ x5, σ = [some (.int (m : Int)), some (.int (st : Int)), some (.int (mo : Int)), some (.ref p2), x5] ∧ H' p2 = some (.lst (rowOf (mo + 1) (b5 m st j))) ∧ SameO p2 H2 H') ⟨_, rfl, e2, SameO.refl⟩ ?_ ?_
    · rintro j σ H3 hj ⟨x5, rfl, e3, s3⟩
      have hj2 := (lt_upN (a := m) (b := mo + m + 1) (d := m) (by omega)).mp hj
      have ej : (m : Int) + (j : Int) * (m : Int) = ((m * (j + 1) : Nat) : Int) := by
        push_cast
        rw [Int.mul_add, Int.mul_one, Int.mul_comm (j : Int)]
        omega
      rw [ej]
      have em : m * (j + 1) = m * j + m := by rw [Nat.mul_add, Nat.mul_one]
      refine ⟨_, rfl, _, rfl, 1, rfl, tn <| use_pf (m * (j + 1)) rfl e3 fun H4 s4 e4 => ?_⟩
      refine ⟨_, rfl, _, rfl, _, rfl, _, _, rfl, rfl, 1, rfl, tn <| use_pf (m * (j + 1) - st) (by omega) e4 fun H5 s5 e5 => ?_⟩
      refine ⟨_, rfl, _, rfl, _, rfl, _, _, rfl, rfl, _, rfl, _, _, rfl, rfl, 1, rfl, tn <| use_pf (m * j + st) (by omega) e5 fun H6 s6 e6 => ?_⟩
      refine ⟨_, rfl, _, rfl, _, _, rfl, rfl, .inl ⟨by decide, by decide⟩, _, rfl, _, _, rfl, rfl, _, rfl, _, _, rfl, rfl, .inl ⟨by decide, by decide⟩, _, _, rfl, rfl, 1, rfl, tn <| use_pf (2 * (m * j) + m - 2 * st) (by omega) e6 fun H7 s7 e7 => ?_⟩
      refine ⟨_, rfl, _, rfl, _, _, rfl, rfl, .inl ⟨by decide, by decide⟩, _, rfl, _, _, rfl, rfl, _, rfl, _, _, rfl, rfl, .inl ⟨by decide, by decide⟩, _, _, rfl, rfl, 1, rfl, tn <| use_pf (2 * (m * j) + m + 2 * st) (by omega) e7 fun H8 s8 e8 => ?_⟩
      exact ⟨_, rfl, e8, ((((s3.trans s4).trans s5).trans s6).trans s7).trans s8⟩
    · rintro σ H3 ⟨x5, rfl, e3, s3⟩
      have S3 := s3.back s2 hp2
      refine ⟨_, rfl, 1, rfl, p2, _, rfl, SqL.of e3, fun p3 h3 => ?_⟩
      rw [row_tail]
      have k3 := same_new (o := .lst (rowOf (mo + 1 - 1) fun i => b5 m st (upN m (mo + m + 1) m) (i + 1))) h3
      refine ⟨_, rfl, tn <| use_row (pi5 st1 st2 _) (b5_le _) (by omega) hmo upd_same fun r H4 hr4 s4 h4 => ?_⟩
      exact q r H4 (S3.free (k3.free hr4)) ((S3.trans k3).trans s4) h4
end
end K03

set_option Elab.async false
set_option linter.all false
set_option maxRecDepth 100000
set_option maxHeartbeats 4000000
set_option pp.maxSteps 3000
set_option exponentiation.threshold 500000
namespace K03
open PySem PySem.Spec PyProof.Rows L2 Dr Xv LamX Ps Gn
/-- at ts the tuples xs -/
def Tups (H : Hp) (ts : List Addr) (xs : List (List V)) : Prop := ts.length = xs.length ∧ ∀ (i : Nat) (t : Addr) (x : List V), ts[i]? = some t → xs[i]? = some x → H t = some (.tup x)
def smP (ps : List (Int × Int)) (c : Nat) : S := fun n => sm (fun i => if (ps.getD i (0, 0)).1 = (n : Int) then (ps.getD i (0, 0)).2 else 0) c
section
variable {P : Program} {w : World} {K : PySem.W.Frag} {mg : Str → Option Value} {base : Heap}
def sp__law_summed : Sp := fun vs H Q _ => ∃ (a : Addr) (mo : Nat) (ts : List Addr) (ps : List (Int × Int)), vs = [.ref a, .int (mo : Int)] ∧ mo ≤ 3000 ∧ H a = some (.lst (ts.map V.ref)) ∧ Tups H ts (ps.map fun p => [.int p.1, .int p.2]) ∧
  ∀ (p : Addr) (H' : Hp), H p = none → Same H H' → H' p = some (.lst (rowOf (mo + 1) (smP ps ps.length))) → Q (.ref p) H'
theorem ok__law_summed (M : Mod P w K mg base) : FnOk P w K mg base CX0 1 M.f__law_summed M.d__law_summed ["items", "most"] sp__law_summed := by
  refine M.F__law_summed.ok sc__law_summed (fun vs H Q E h => ?_) (fun cdv A outer s H vs Q E hr h => ?_)
  · obtain ⟨a, mo, ts, ps, rfl, _⟩ := h
    rfl
  · obtain ⟨a, mo, ts, ps, rfl, hmo, ha, ht, q⟩ := h
    refine ⟨_, PSs.nox (pss_cons (ps_set (i := 2) sc__law_summed.nd rfl (Or.inl rfl) (pe_op op_rep (pe_lst (pa_cons pe_int pa_nil)) (pe_op op_add (pv 1) pe_int)))
      (pss_cons (ps_for PassesOwn.never rfl (pi_list (pv 0)) (pg_tup rfl (pgs_cons (pg_name (i := 3) sc__law_summed.nd rfl (Or.inl rfl)) (pgs_cons (pg_name (i := 4) sc__law_summed.nd rfl (Or.inl rfl)) pgs_nil))) 
        (pss_one (ps_if (pt_chain op_le op_le pe_int (pv 3) (pv 1)) 
          (pss_one (ps_asg (pe_op op_add (pe_ix ix_list (pv 2) (pv 3) (fun _ _ => rfl)) (pv 4)) (pg_sub (pv 2) (pv 3) set_list))) pss_nil)))
      (pss_one (ps_ret (pv 2))))), ?_⟩
    refine ⟨(by show 1 ≤ sizeLine; decide), fun p1 g1 => ⟨_, rfl, _, _, rfl, rfl, p1, _, _, rfl, rfl, upd_same, by omega, by omega, ?_, fun p2 g2 => ?_⟩⟩
    · show 1 * _ ≤ sizeLine
      rw [sizeLine_eq]
      omega
    have s2 := (same_new (o := .lst [V.int 0]) g1).trans (same_new (o := .lst (List.replicate ((mo : Int) + 1).toNat [V.int 0]).flatten) g2)
    have e2 : (upd (upd H p1 (.lst [V.int 0])) p2 (.lst (List.replicate ((mo : Int) + 1).toNat [V.int 0]).flatten)) p2 = some (.lst (rowOf (mo + 1) (smP ps 0))) := by
      rw [upd_same, rep1, row_zero (b := smP ps 0) (fun _ _ => rfl)]
      rfl
    have hp2 : H p2 = none := (same_new (o := .lst [V.int 0]) g1).free g2
    generalize upd (upd H p1 (.lst [V.int 0])) p2 (.lst (List.replicate ((mo : Int) + 1).toNat [V.int 0]).flatten) = H2 at s2 e2 ⊢
    clear g1 g2
    refine ⟨_, rfl, a, rfl, ⟨_, SqL.of (s2 _ _ ha)⟩, ?_⟩
    have na : a ≠ p2 := ne_of_none ha hp2
    refine for_list (K := K) (a := a) (xs := ts.map V.ref) (fun i σ H' => ∃ x3 x4, σ = [some (.ref a), some (.int (mo : Int)), some (.ref p2), x3, x4] ∧ H' p2 = some (.lst (rowOf (mo + 1) (smP ps i))) ∧ SameO p2 H2 H') ⟨_, _, rfl, e2, SameO.refl⟩ ?_ ?_ ?_
    · rintro i σ H3 hi ⟨x3, x4, rfl, e3, s3⟩
      exact SqL.of (s3 _ _ (s2 _ _ ha) na)
    · rintro i x σ H3 hi ⟨x3, x4, rfl, e3, s3⟩
      rw [List.getElem?_map] at hi
      obtain ⟨t, et, rfl⟩ := Option.map_eq_some_iff.mp hi
      obtain ⟨p, ep⟩ : ∃ p, ps[i]? = some p := by
        have h1 := (List.getElem?_eq_some_iff.mp et).1
        have h2 := ht.1
        rw [List.length_map] at h2
        exact ⟨ps[i]'(by omega), List.getElem?_eq_getElem _⟩
      have htp : H t = some (.tup [.int p.1, .int p.2]) := ht.2 i t _ et (by rw [List.getElem?_map, ep]; rfl)
      have nt : t ≠ p2 := ne_of_none htp hp2
      have ed : ps.getD i (0, 0) = p := by rw [List.getD_eq_getElem?_getD, ep]; rfl
      refine ⟨t, _, rfl, SqT.of (s3 _ _ (s2 _ _ htp) nt), rfl, _, _, rfl, _, _, rfl, rfl, ?_⟩
      obtain ⟨e, c⟩ := p
      have st : ∀ n : Nat, smP ps (i + 1) n = smP ps i n + (if e = (n : Int) then c else 0) := fun n => by
        show sm _ i + (if (ps.getD i (0, 0)).1 = (n : Int) then (ps.getD i (0, 0)).2 else 0) = _
        rw [ed]
        rfl
      refine ⟨_, rfl, _, _, rfl, rfl, _, rfl, ?_⟩
      have skip : (e < 0 ∨ (mo : Int) < e) → H3 p2 = some (.lst (rowOf (mo + 1) (smP ps (i + 1)))) := fun hh => by
        rw [e3]
        congr 2
        exact row_ext fun n hn => by rw [st, if_neg (by omega), Int.add_zero]
      by_cases c0 : 0 ≤ e
      · refine iteT' (decide_eq_true c0) ⟨_, rfl, _, _, rfl, rfl, _, rfl, ?_⟩
        by_cases c1 : e ≤ (mo : Int)
        · obtain ⟨n, rfl⟩ : ∃ n : Nat, e = (n : Int) := ⟨e.toNat, by omega⟩
          have hn : n < mo + 1 := by omega
          refine iteT' (decide_eq_true c1) ?_
          refine ⟨_, rfl, _, rfl, p2, _, _, _, rfl, rfl, SqL.of e3, row_val hn, _, rfl, _, _, rfl, rfl, _, rfl, _, rfl, p2, _, _, _, rfl, rfl, e3, row_at hn, _, _, rfl, ?_, s3.trans .put⟩
          rw [upd_same]
          congr 2
          refine row_set hn ?_ fun k hk hne => ?_
          · show smP ps (i + 1) n = smP ps i n + c
            rw [st, if_pos rfl]
          · rw [st, if_neg (by omega), Int.add_zero]
        · exact iteF' (decide_eq_false c1) ⟨_, _, rfl, skip (.inr (by omega)), s3⟩
      · exact iteF' (decide_eq_false c0) ⟨false, rfl, iteF ⟨_, _, rfl, skip (.inl (by omega)), s3⟩⟩
    · rintro σ H3 ⟨x3, x4, rfl, e3, s3⟩
      have el : (ts.map V.ref).length = ps.length := by
        have h2 := ht.1
        rw [List.length_map] at h2
        rw [List.length_map, h2]
      rw [el] at e3
      exact ⟨_, rfl, q p2 H3 hp2 (s3.back s2 hp2) e3⟩
def sp__law_product : Sp := fun vs H Q _ => ∃ (a : Addr) (mo : Nat) (ts : List Addr) (fs : List (Nat × Nat × Int)), vs = [.ref a, .int (mo : Int)] ∧ mo ≤ 3000 ∧ H a = some (.lst (ts.map V.ref)) ∧ Tups H ts (fs.map fun f => [.int (f.1 : Int), .int (f.2.1 : Int), .int f.2.2]) ∧ (∀ f ∈ fs, 1 ≤ f.2.1 ∧ (f.2.2 = 1 ∨ f.2.2 = -1)) ∧
  ∀ (p : Addr) (H' : Hp), H p = none → Same H H' → H' p = some (.lst (rowOf (mo + 1) (prF (fun e st => upN e (mo + 1) st) fs fs.length))) → Q (.ref p) H'
theorem ok__law_product (M : Mod P w K mg base) : FnOk P w K mg base CX0 1 M.f__law_product M.d__law_product ["factors", "most"] sp__law_product := by
  refine M.F__law_product.ok sc__law_product (fun vs H Q E h => ?_) (fun cdv A outer s H vs Q E hr h => ?_)
  · obtain ⟨a, mo, ts, fs, rfl, _⟩ := h
    rfl
  · obtain ⟨a, mo, ts, fs, rfl, hmo, ha, ht, hf, q⟩ := h
    refine ⟨_, PSs.nox (pss_cons (ps_set (i := 2) sc__law_product.nd rfl (Or.inr rfl) (pe_op op_cat (pe_lst (pa_cons pe_int pa_nil)) (pe_op op_rep (pe_lst (pa_cons pe_int pa_nil)) (pv 1))))
      (pss_cons (ps_for PassesOwn.never rfl (pi_list (pv 0)) (pg_tup rfl (pgs_cons (pg_name (i := 3) sc__law_product.nd rfl (Or.inr rfl)) (pgs_cons (pg_name (i := 4) sc__law_product.nd rfl (Or.inl rfl)) (pgs_cons (pg_name (i := 5) sc__law_product.nd rfl (Or.inr rfl)) pgs_nil)))) 
        (pss_one (ps_while PassesOwn.never (pt_cmpR op_le (pv 3) (pv 1) (nomark _)) 
          (pss_cons (ps_set (i := 2) sc__law_product.nd rfl (Or.inr rfl) (pe_lc (own := [("n", 6), ("item", 7)]) (g := (gTup K 2 (gCons (gName 6) (gCons (gName 7) gNil)))) (by rfl) sc__law_product.nd (pi_enum (by rfl) M.enumerate0 (pa_cons (pv 2) pa_nil)) (blkOk_by (own := [("n", 6), ("item", 7)]) (N := N__law_product) (sc := defScope s__law_product) (by decide +kernel))
        (fun _ _ _ _ _ => (pg_tup rfl (pgs_cons (pg_name (i := 6) sc__law_product.nd rfl (Or.inl rfl)) (pgs_cons (pg_name (i := 7) sc__law_product.nd rfl (Or.inl rfl)) pgs_nil)))) (fun _ _ _ _ _ => pts_nil) (fun _ _ _ _ _ => (pe_op op_add (pv 7) (pe_ifExp (pt_cmpR op_ge (pv 6) (pv 3) (nomark _)) (pe_op op_mul (pv 5) (pe_ix (r := rIxL K) ix_list (pv 2) (pe_op op_sub (pv 6) (pv 3)) (fun _ _ => rfl))) pe_int)))))
          (pss_one (ps_set (i := 3) sc__law_product.nd rfl (Or.inr rfl) (pe_op op_add (pv 3) (pv 4))))))))
      (pss_one (ps_ret (pv 2))))), ?_⟩
    refine ⟨(by show 1 ≤ sizeLine; decide), fun p1 g1 => ⟨(by show 1 ≤ sizeLine; decide), fun p2 g2 => ⟨_, rfl, p2, _, _, rfl, rfl, upd_same, by omega, by omega, ?_, fun p3 g3 => ?_⟩⟩⟩
    · show 1 * _ ≤ sizeLine
      rw [sizeLine_eq]
      omega
    have t1 := same_new (o := .lst [V.int 1]) g1
    have t2 := same_new (o := .lst [V.int 0]) g2
    have t3 := same_new (o := .lst (List.replicate (mo : Int).toNat [V.int 0]).flatten) g3
    refine ⟨p1, p3, [V.int 1], _, rfl, rfl, t3 _ _ (t2 _ _ upd_same), upd_same, ?_, fun p4 g4 => ?_⟩
    · rw [rep1, List.length_replicate, sizeLine_eq]
      show 1 + _ ≤ _
      omega
    have s2 := ((t1.trans t2).trans t3).trans (same_new (o := .lst ([V.int 1] ++ (List.replicate (mo : Int).toNat [V.int 0]).flatten)) g4)
    have e2 : (upd (upd (upd (upd H p1 (.lst [V.int 1])) p2 (.lst [V.int 0])) p3 (.lst (List.replicate (mo : Int).toNat [V.int 0]).flatten)) p4 (.lst ([V.int 1] ++ (List.replicate (mo : Int).toNat [V.int 0]).flatten))) p4 = some (.lst (rowOf (mo + 1) one)) := by
      rw [upd_same, rep1, Int.toNat_natCast]
      congr 2
      unfold rowOf
      rw [List.range_succ_eq_map, List.map_cons, List.map_cons, List.map_map, List.map_map]
      show V.int 1 :: List.replicate mo (V.int 0) = V.int (one 0) :: _
      congr 1
      refine List.ext_getElem (by rw [List.length_replicate, List.length_map, List.length_range]) fun i h1 h2 => ?_
      rw [List.getElem_replicate, List.getElem_map]
      rfl
    have hp4 : H p4 = none := ((t1.trans t2).trans t3).free g4
    generalize upd (upd (upd (upd H p1 (.lst [V.int 1])) p2 (.lst [V.int 0])) p3 (.lst (List.replicate (mo : Int).toNat [V.int 0]).flatten)) p4 (.lst ([V.int 1] ++ (List.replicate (mo : Int).toNat [V.int 0]).flatten)) = H2 at s2 e2 ⊢
    clear g1 g2 g3 g4 t1 t2 t3
    refine ⟨_, rfl, a, rfl, ⟨_, SqL.of (s2 _ _ ha)⟩, ?_⟩
    obtain ⟨cn, ecn⟩ : ∃ cn : Nat → Nat → Nat, cn = fun e st => upN e (mo + 1) st := ⟨_, rfl⟩
    rw [← ecn] at q
    refine for_list (K := K) (a := a) (xs := ts.map V.ref) (fun i σ H' => ∃ D x3 x4 x5 x6 x7, σ = [some (.ref a), some (.int (mo : Int)), some (.ref D), x3, x4, x5, x6, x7] ∧ H D = none ∧ Same H H' ∧ H' D = some (.lst (rowOf (mo + 1) (prF cn fs i)))) ⟨p4, _, _, _, _, _, rfl, hp4, s2, e2⟩ ?_ ?_ ?_
    · rintro i σ H3 hi ⟨D, x3, x4, x5, x6, x7, rfl, hD, s3, e3⟩
      exact SqL.of (s3 _ _ ha)
    · rintro i x σ H3 hi ⟨D, x3, x4, x5, x6, x7, rfl, hD, s3, e3⟩
      rw [List.getElem?_map] at hi
      obtain ⟨t, et, rfl⟩ := Option.map_eq_some_iff.mp hi
      obtain ⟨f, ef⟩ : ∃ f, fs[i]? = some f := by
        have h1 := (List.getElem?_eq_some_iff.mp et).1
        have h2 := ht.1
        rw [List.length_map] at h2
        exact ⟨fs[i]'(by omega), List.getElem?_eq_getElem _⟩
      obtain ⟨f1, f2⟩ := hf f (List.mem_of_getElem? ef)
      have htp : H t = some (.tup [.int (f.1 : Int), .int (f.2.1 : Int), .int f.2.2]) := ht.2 i t _ et (by rw [List.getElem?_map, ef]; rfl)
      have ed : fs.getD i (1, 1, 1) = f := by rw [List.getD_eq_getElem?_getD, ef]; rfl
      have est : prF cn fs (i + 1) = famF (prF cn fs i) f.1 f.2.1 f.2.2 (cn f.1 f.2.1) := by
        show famF (prF cn fs i) (fs.getD i (1, 1, 1)).1 (fs.getD i (1, 1, 1)).2.1 (fs.getD i (1, 1, 1)).2.2 _ = _
        rw [ed]
      obtain ⟨e, st, sg⟩ := f
      refine ⟨t, _, rfl, SqT.of (s3 _ _ htp), rfl, _, _, rfl, _, _, rfl, _, _, rfl, rfl, ?_⟩
      refine ⟨fun μ σ H' => ∃ j D' y6 y7, σ = [some (.ref a), some (.int (mo : Int)), some (.ref D'), some (.int ((e + j * st : Nat) : Int)), some (.int (st : Int)), some (.int sg), y6, y7] ∧ H D' = none ∧ Same H H' ∧ H' D' = some (.lst (rowOf (mo + 1) (famF (prF cn fs i) e st sg j))) ∧ j ≤ cn e st ∧ μ = cn e st - j,
        ⟨_, 0, D, _, _, by rw [Nat.zero_mul, Nat.add_zero]; rfl, hD, s3, e3, Nat.zero_le _, rfl⟩, ?_⟩
      rintro μ σ H4 ⟨j, D', y6, y7, rfl, hD', s4, e4, hj, rfl⟩
      have hlt : j < cn e st ↔ e + j * st < mo + 1 := by
        rw [ecn]
        exact lt_upN f1
      refine ⟨_, rfl, _, rfl, _, _, rfl, rfl, _, rfl, ?_⟩
      by_cases c : e + j * st ≤ mo
      · have hj1 : j < cn e st := hlt.mpr (by omega)
        refine iteT' (decide_eq_true (by omega)) ⟨_, fun σ' H' e => e, ?_⟩
        refine ⟨_, rfl, D', _, rfl, SqL.of e4, fun D2 hD2 => lc_it walk_enum (fun i' H' => H' D2 = some (.lst (rowOf i' (mulF (famF (prF cn fs i) e st sg j) (e + j * st) sg))) ∧ Same H4 H') ⟨upd_same, same_new hD2⟩ (fun i' H' _ ⟨_, sb⟩ => SqL.of (sb _ _ e4)) ?_ ?_⟩
        · rintro k v H5 H6 hk ⟨e5, s5⟩ ⟨T, y1, y2, rfl, hT, rfl, g1, g2⟩
          cases Option.some.inj g1
          rw [row_len] at hk
          have g3 : (rowOf (mo + 1) (famF (prF cn fs i) e st sg j))[k]? = some y2 := g2
          rw [row_get hk] at g3
          cases Option.some.inj g3
          have sT := same_new (o := .tup [.int (k : Nat), .int (famF (prF cn fs i) e st sg j k)]) hT
          refine ⟨T, _, rfl, SqT.of upd_same, rfl, _, _, rfl, _, _, rfl, rfl, ?_⟩
          have fin : (upd H5 T (.tup [.int (k : Nat), .int (famF (prF cn fs i) e st sg j k)])) D2 = some (.lst (rowOf k (mulF (famF (prF cn fs i) e st sg j) (e + j * st) sg))) ∧ (rowOf k (mulF (famF (prF cn fs i) e st sg j) (e + j * st) sg)).length < sizeLine ∧
              ∀ z, z = mulF (famF (prF cn fs i) e st sg j) (e + j * st) sg k → (upd (upd H5 T (.tup [.int (k : Nat), .int (famF (prF cn fs i) e st sg j k)])) D2 (.lst (rowOf k (mulF (famF (prF cn fs i) e st sg j) (e + j * st) sg) ++ [V.int z]))) D2 = some (.lst (rowOf (k + 1) (mulF (famF (prF cn fs i) e st sg j) (e + j * st) sg))) ∧ Same H4 (upd (upd H5 T (.tup [.int (k : Nat), .int (famF (prF cn fs i) e st sg j k)])) D2 (.lst (rowOf k (mulF (famF (prF cn fs i) e st sg j) (e + j * st) sg) ++ [V.int z]))) := by
            refine ⟨sT _ _ e5, by rw [row_len, sizeLine_eq]; omega, fun z ez => ⟨by rw [upd_same, row_succ, ez], fun b' o' e' => ?_⟩⟩
            rw [upd_ne (ne_of_none e' hD2)]
            exact sT _ _ (s5 _ _ e')
          obtain ⟨n1, n2, n3⟩ := fin
          refine ⟨rfl, yesT ⟨_, rfl, _, rfl, _, rfl, _, _, rfl, rfl, _, rfl, ?_⟩⟩
          by_cases ck : e + j * st ≤ k
          · have ix : atI (rowOf (mo + 1) (famF (prF cn fs i) e st sg j)) ((k : Int) - ((e + j * st : Nat) : Int)) = some (.int (famF (prF cn fs i) e st sg j (k - (e + j * st)))) := by
              have e1 : (k : Int) - ((e + j * st : Nat) : Int) = ((k - (e + j * st) : Nat) : Int) := by omega
              rw [e1]
              exact row_val (by omega)
            refine iteT' (decide_eq_true (by omega)) ⟨_, rfl, _, rfl, _, rfl, _, rfl, _, _, rfl, rfl, D', _, _, _, rfl, rfl, SqL.of (sT _ _ (s5 _ _ e4)), ix, _, _, rfl, rfl, .inl ?_, _, _, rfl, rfl, _, n1, n2, n3 _ ?_⟩
            · rcases f2 with z | z
              · have z' : sg = 1 := z
                subst z'
                exact ⟨by decide, by decide⟩
              · have z' : sg = -1 := z
                subst z'
                exact ⟨by decide, by decide⟩
            · show _ = famF (prF cn fs i) e st sg j k + (if e + j * st ≤ k then _ else 0)
              rw [if_pos ck]
          · refine iteF' (decide_eq_false (by omega)) ⟨_, _, rfl, rfl, _, n1, n2, n3 _ ?_⟩
            show _ = famF (prF cn fs i) e st sg j k + (if e + j * st ≤ k then _ else 0)
            rw [if_neg ck]
        · rintro H5 ⟨e5, s5⟩
          rw [row_len] at e5
          have ee : ((e + j * st : Nat) : Int) + (st : Int) = ((e + (j + 1) * st : Nat) : Int) := by
            push_cast
            rw [Int.add_mul, Int.one_mul]
            omega
          refine ⟨_, rfl, _, rfl, _, _, rfl, rfl, cn e st - (j + 1), by omega, j + 1, D2, _, _, congrArg (fun z => [some (V.ref a), some (V.int (mo : Int)), some (V.ref D2), some (V.int z), some (V.int (st : Int)), some (V.int sg), y6, y7]) ee, s4.free hD2, s4.trans s5, e5, by omega, rfl⟩
      · have hj1 : ¬ j < cn e st := fun z => c (by have := hlt.mp z; omega)
        have ej : j = cn e st := by omega
        refine iteF' (decide_eq_false (by omega)) ⟨D', _, _, _, _, _, rfl, hD', s4, ?_⟩
        rw [e4, est, ej]
    · rintro σ H3 ⟨D, x3, x4, x5, x6, x7, rfl, hD, s3, e3⟩
      have el : (ts.map V.ref).length = fs.length := by
        have h2 := ht.1
        rw [List.length_map] at h2
        rw [List.length_map, h2]
      rw [el] at e3
      exact ⟨_, rfl, q D H3 hD s3 e3⟩
end
end K03

set_option Elab.async false
set_option linter.all false
set_option maxRecDepth 100000
set_option maxHeartbeats 4000000
set_option pp.maxSteps 3000
set_option exponentiation.threshold 500000
namespace K03
open PySem PySem.Spec PyProof.Rows L2 Dr Xv LamX Ps Gn
theorem Ev_low' {n k : Nat} (h : k < n) : Ev n k = 0 := by
  unfold Ev
  rw [if_neg]
  rintro ⟨z, d⟩
  have := Nat.le_of_dvd (by omega) d
  omega
abbrev s1' : S := fun _ => 1
section
variable {P : Program} {w : World} {K : PySem.W.Frag} {mg : Str → Option Value} {base : Heap}
def sp__law_sigmas : Sp := fun vs H Q _ => ∃ mo : Nat, vs = [.int (mo : Int)] ∧ mo ≤ 100 ∧
  ∀ (p : Addr) (H' : Hp), H p = none → Same H H' → H' p = some (.lst (rowOf (mo + 1) (sS s1' mo))) → Q (.ref p) H'
theorem ok__law_sigmas (M : Mod P w K mg base) : FnOk P w K mg base CX0 1 M.f__law_sigmas M.d__law_sigmas ["most"] sp__law_sigmas := by
  refine M.F__law_sigmas.ok sc__law_sigmas (fun vs H Q E h => ?_) (fun cdv A outer s H vs Q E hr h => ?_)
  · obtain ⟨mo, rfl, _⟩ := h
    rfl
  · obtain ⟨mo, rfl, hmo, q⟩ := h
    refine ⟨_, PSs.nox (pss_cons (ps_setLc (i := 1) (own := [("n", 3)]) (g := (gName 3)) (by rfl) sc__law_sigmas.nd rfl rfl (sw_true rfl rfl rfl (by decide +kernel)) (pi_range1 (by rfl) M.range0 (pa_cons (pe_op op_add (pv 0) pe_int) pa_nil)) (blkOk_by (own := [("n", 3)]) (N := N__law_sigmas) (sc := defScope s__law_sigmas) (by decide +kernel))
        (fun _ _ _ _ _ => (pg_name (i := 3) sc__law_sigmas.nd rfl (Or.inl rfl))) (fun _ _ _ _ _ => pts_nil) (fun _ _ _ _ _ => pe_int))
      (pss_cons (ps_for PassesOwn.never rfl (pi_range2 (by rfl) M.range0 (pa_cons pe_int (pa_cons (pe_op op_add (pv 0) pe_int) pa_nil))) (pg_name (i := 2) sc__law_sigmas.nd rfl (Or.inl rfl)) 
        (pss_one (ps_for PassesOwn.never rfl (pi_range3 (by rfl) M.range0 (pa_cons (pv 2) (pa_cons (pe_op op_add (pv 0) pe_int) (pa_cons (pv 2) pa_nil)))) (pg_name (i := 3) sc__law_sigmas.nd rfl (Or.inl rfl)) 
          (pss_one (ps_asg (pe_op op_add (pe_ix ix_list (pv 1) (pv 3) (fun _ _ => rfl)) (pv 2)) (pg_sub (pv 1) (pv 3) set_list))))))
      (pss_one (ps_ret (pv 1))))), ?_⟩
    obtain ⟨N, eN⟩ : ∃ N, N = mo + 1 := ⟨_, rfl⟩
    have eI : (mo : Int) + 1 = (N : Int) := by omega
    refine ⟨_, rfl, _, _, rfl, rfl, _, rfl, by omega, by omega, fun D hD => lc_range (lo := 0) (n := ((mo : Int) + 1).toNat) (fun i H' => H' D = some (.lst (rowOf i fun _ => 0)) ∧ Same H H') ⟨by rw [upd_same]; rfl, same_new hD⟩ ?_ ?_⟩
    · rintro i H4 hi ⟨h4, s5⟩
      refine ⟨rfl, yesT ⟨_, h4, ?_, ?_, ?_⟩⟩
      · rw [row_len, sizeLine_eq]
        omega
      · rw [upd_same, row_succ]
      · intro b' o' e'
        rw [upd_ne (ne_of_none e' hD)]
        exact s5 _ _ e'
    rintro H4 ⟨e4, s4⟩
    have e0 : ((mo : Int) + 1).toNat = N := by omega
    rw [e0] at e4
    refine ⟨_, rfl, _, _, rfl, rfl, 1, _, rfl, ⟨by decide, by decide, by omega, by omega⟩, ?_⟩
    refine for_range (lo := 1) (n := ((mo : Int) + 1 - 1).toNat) (fun i σ H' => ∃ x2 x3, σ = [some (.int (mo : Int)), some (.ref D), x2, x3] ∧ H' D = some (.lst (rowOf N (sS s1' i))) ∧ SameO D H4 H') ⟨_, _, rfl, e4, SameO.refl⟩ ?_ ?_
    · rintro i σ H5 hi ⟨x2, x3, rfl, h5, so⟩
      have ec : (1 + (i : Int)) = ((i + 1 : Nat) : Int) := by omega
      rw [ec]
      have rg : RgC ((i + 1 : Nat) : Int) ((mo : Int) + 1) ((i + 1 : Nat) : Int) (upN (i + 1) N (i + 1)) := by
        rw [eI]
        exact rg_up (a := i + 1) (b := N) (d := i + 1) (by omega) (by omega) (by omega) (by omega)
      refine ⟨_, rfl, _, rfl, _, _, rfl, rfl, _, rfl, _, _, _, _, rfl, rg, ?_⟩
      obtain ⟨v, ev⟩ : ∃ v, v = ((i + 1 : Nat) : Int) := ⟨_, rfl⟩
      have estep : ∀ k, sS s1' (i + 1) k = sS s1' i k + v * Ev (i + 1) k := fun k => by
        show sS s1' i k + ((i + 1 : Nat) : Int) * 1 * Ev (i + 1) k = _
        rw [ev, Int.mul_one]
      refine for_rangeC (fun j σ H' => ∃ x3, σ = [some (.int (mo : Int)), some (.ref D), some (.int v), x3] ∧
          H' D = some (.lst (rowOf N fun k => sS s1' i k + (if k < (i + 1) + j * (i + 1) then v * Ev (i + 1) k else 0))) ∧ SameO D H4 H') ⟨_, by rw [ev]; rfl, ?_, so⟩ ?_ ?_
      · rw [h5]
        congr 2
        refine row_ext fun k _ => ?_
        split
        · rw [Ev_low' (by omega), Int.mul_zero, Int.add_zero]
        · rw [Int.add_zero]
      · rintro j σ H6 hj ⟨x3, rfl, h6, so6⟩
        have hj2 := (lt_upN (by omega)).mp hj
        obtain ⟨n, en⟩ : ∃ n, n = (i + 1) + j * (i + 1) := ⟨_, rfl⟩
        have ei : ((i + 1 : Nat) : Int) + (j : Int) * ((i + 1 : Nat) : Int) = (n : Int) := by
          rw [en]
          push_cast
          rfl
        rw [ei]
        rw [← en] at hj2
        refine ⟨_, rfl, _, rfl, D, _, _, _, rfl, rfl, SqL.of h6, row_val hj2, _, rfl, _, _, rfl, rfl, _, rfl, _, rfl, D, _, _, _, rfl, rfl, h6, row_at hj2, _, rfl, ?_, so6.trans .put⟩
        rw [upd_same]
        congr 2
        have dn : (i + 1) ∣ n := ⟨1 + j, by rw [en, Nat.add_comm 1 j, Nat.mul_comm (i + 1) (j + 1), Nat.add_mul j 1, Nat.one_mul]; exact Nat.add_comm _ _⟩
        refine row_set hj2 ?_ fun k hk hne => ?_
        · show _ + (if n < (i + 1) + (j + 1) * (i + 1) then _ else 0) = _
          rw [if_pos (by rw [Nat.add_mul]; omega), ← en, if_neg (Nat.lt_irrefl _)]
          have z : Ev (i + 1) n = 1 := by
            unfold Ev
            rw [if_pos ⟨by omega, dn⟩]
          rw [z, Int.mul_one, Int.add_zero]
        · show _ + (if k < (i + 1) + (j + 1) * (i + 1) then _ else 0) = _ + (if k < (i + 1) + j * (i + 1) then _ else 0)
          by_cases q1 : k < (i + 1) + j * (i + 1)
          · rw [if_pos q1, if_pos (by rw [Nat.add_mul]; omega)]
          · rw [if_neg q1]
            by_cases q2 : k < (i + 1) + (j + 1) * (i + 1)
            · rw [if_pos q2]
              have z : Ev (i + 1) k = 0 := by
                unfold Ev
                rw [if_neg]
                rintro ⟨_, dk⟩
                have d2 := Nat.dvd_sub dk dn
                have := Nat.le_of_dvd (by omega) d2
                rw [Nat.add_mul] at q2
                omega
              rw [z, Int.mul_zero]
            · rw [if_neg q2]
      · rintro σ H6 ⟨x3, rfl, h6, so6⟩
        refine ⟨_, _, rfl, ?_, so6⟩
        rw [h6]
        congr 2
        refine row_ext fun k hk => ?_
        rw [estep, if_pos]
        have z : ¬ (i + 1 + upN (i + 1) N (i + 1) * (i + 1) < N) := fun z => Nat.lt_irrefl _ ((lt_upN (by omega)).mpr z)
        omega
    · rintro σ H5 ⟨x2, x3, rfl, h5, so⟩
      have em : ((mo : Int) + 1 - 1).toNat = mo := by omega
      rw [em, eN] at h5
      exact ⟨_, rfl, q D H5 hD (so.back s4 hD) h5⟩
abbrev E30 : S := tsm 3 1 (-1) (-5) 11
def wt : S := fun k => if k = 0 then 0 else sS s1' 30 k
theorem E30_ok : ∀ n, n < 31 → 1 ≤ n → (-(sm (fun k => wt (1 + k) * E30 (n - (1 + k))) n)).fdiv (n : Int) = E30 n := by decide +kernel
theorem wt_b : ∀ n, n < 31 → -(2 ^ 64) < wt n ∧ wt n < 2 ^ 64 := by decide +kernel
def sp__law_row : Sp := fun vs H Q _ => ∃ q : Addr, vs = [.ref q, .int 30] ∧ H q = some (.dK [(.inl 1, .int 1)]) ∧ ∀ (p : Addr) (H' : Hp), H p = none → Same H H' → H' p = some (.lst (rowOf 31 E30)) → Q (.ref p) H'
theorem ok__law_row (M : Mod P w K mg base) : FnOk P w K mg base CX0 2 M.f__law_row M.d__law_row ["quotient", "most"] sp__law_row := by
  refine M.F__law_row.ok sc__law_row (fun vs H Q E h => ?_) (fun cdv A outer s H vs Q E hr h => ?_)
  · obtain ⟨a, rfl, _⟩ := h
    rfl
  · obtain ⟨a, rfl, ha, q⟩ := h
    have hu := hu_of hr
    refine ⟨_, PSs.nox (pss_cons (ps_asg (pe_tup (pa_cons (pe_call (ok__law_sigmas M) (hr.mono (by decide)) rfl M.g__law_sigmas M.k__law_sigmas M.b__law_sigmas .nil pass0 (pa_cons (pv 1) pa_nil)) (pa_cons (pe_lc (own := [("n", 5)]) (g := (gName 5)) (by rfl) sc__law_row.nd (pi_range1 (by rfl) M.range0 (pa_cons (pe_op op_add (pv 1) pe_int) pa_nil)) (blkOk_by (own := [("n", 5)]) (N := N__law_row) (sc := defScope s__law_row) (by decide +kernel))
        (fun _ _ _ _ _ => (pg_name (i := 5) sc__law_row.nd rfl (Or.inl rfl))) (fun _ _ _ _ _ => pts_nil) (fun _ _ _ _ _ => pe_int)) pa_nil))) (pg_tup rfl (pgs_cons (pg_name (i := 2) sc__law_row.nd rfl (Or.inl rfl)) (pgs_cons (pg_name (i := 3) sc__law_row.nd rfl (Or.inr rfl)) pgs_nil))))
      (pss_cons (ps_lock (ps_for PassesOwn.never rfl (pi_keys (pv 0)) (pg_name (i := 4) sc__law_row.nd rfl (Or.inl rfl)) 
        (pss_one (ps_for PassesOwn.never rfl (pi_range3 (by rfl) M.range0 (pa_cons (pv 4) (pa_cons (pe_op op_add (pv 1) pe_int) (pa_cons (pv 4) pa_nil)))) (pg_name (i := 5) sc__law_row.nd rfl (Or.inr rfl)) 
          (pss_one (ps_asg (pe_op op_add (pe_ix ix_list (pv 3) (pv 5) (fun _ _ => rfl)) (pe_op op_mul (pe_op op_mul (pe_dget hu (pv 0) (pv 4) (fun _ _ => rfl)) (pv 4)) (pe_ix ix_list (pv 2) (pe_op op_fdivB (pv 5) (pv 4)) (fun _ _ => rfl)))) (pg_sub (pv 3) (pv 5) set_list)))))))
      (pss_cons (ps_set (i := 6) sc__law_row.nd rfl (Or.inr rfl) (pe_lst (pa_cons pe_int pa_nil)))
      (pss_cons (ps_for PassesOwn.never rfl (pi_range2 (by rfl) M.range0 (pa_cons pe_int (pa_cons (pe_op op_add (pv 1) pe_int) pa_nil))) (pg_name (i := 5) sc__law_row.nd rfl (Or.inr rfl)) 
        (pss_one (ps_expr (pe_bm PySem.F.plainAttrs_list PySem.F.slot_list_append PySem.F.type_list_append mt_append (pv 6) (pa_cons (pe_op op_fdivB (pe_un un_neg (pe_callB (cr_sum rfl) (by rfl) M.sum0 (by decide +kernel) (pa_cons (pe_lc (own := [("k", 7)]) (g := (gName 7)) (by rfl) sc__law_row.nd (pi_range2 (by rfl) M.range0 (pa_cons pe_int (pa_cons (pe_op op_add (pv 5) pe_int) pa_nil))) (blkOk_by (own := [("k", 7)]) (N := N__law_row) (sc := defScope s__law_row) (by decide +kernel))
        (fun _ _ _ _ _ => (pg_name (i := 7) sc__law_row.nd rfl (Or.inl rfl))) (fun _ _ _ _ _ => pts_nil) (fun _ _ _ _ _ => (pe_op op_mul (pe_ix (r := rIxL K) ix_list (pv 3) (pv 7) (fun _ _ => rfl)) (pe_ix (r := rIxL K) ix_list (pv 6) (pe_op op_sub (pv 5) (pv 7)) (fun _ _ => rfl))))) pa_nil))) (pv 5)) pa_nil)))))
      (pss_one (ps_ret (pv 6))))))), ?_⟩
    refine ⟨_, rfl, 30, rfl, by decide, fun p1 H1 h1 s1 e1 => ?_⟩
    refine ⟨_, rfl, _, _, rfl, rfl, _, rfl, by decide, by decide, fun D hD => lc_range (lo := 0) (n := ((30 : Int) + 1).toNat) (fun i H' => H' D = some (.lst (rowOf i fun _ => 0)) ∧ Same H1 H') ⟨by rw [upd_same]; rfl, same_new hD⟩ ?_ ?_⟩
    · rintro i H4 hi ⟨h4, s5⟩
      refine ⟨rfl, yesT ⟨_, h4, ?_, ?_, ?_⟩⟩
      · rw [row_len, sizeLine_eq]
        have : i < 31 := hi
        omega
      · rw [upd_same, row_succ]
      · intro b' o' e'
        rw [upd_ne (ne_of_none e' hD)]
        exact s5 _ _ e'
    rintro H4 ⟨e4, s4⟩
    have e5 : H4 p1 = some (.lst (rowOf 31 (sS s1' 30))) := s4 _ _ e1
    refine ⟨(by show 2 ≤ sizeLine; decide), fun t ht => ⟨t, _, rfl, SqT.of upd_same, rfl, _, _, rfl, _, _, rfl, rfl, ?_⟩⟩
    have u1 := same_new (o := .tup [.ref p1, .ref D]) ht
    have a4 : H4 a = some (.dK [(.inl 1, .int 1)]) := s4 _ _ (s1 _ _ ha)
    have hD1 : H D = none := s1.free hD
    have np : p1 ≠ D := ne_of_none e1 hD
    have nad : a ≠ D := ne_of_none (s1 _ _ ha) hD
    have nap : a ≠ p1 := ne_of_none ha h1
    obtain ⟨H5, eH5⟩ : ∃ H5, H5 = upd H4 t (.tup [.ref p1, .ref D]) := ⟨_, rfl⟩
    rw [← eH5] at u1 ⊢
    have a5 := u1 _ _ a4
    have s5 : Same H H5 := (s1.trans s4).trans u1
    have f5 : H5 D = some (.lst (rowOf 31 fun _ => 0)) := u1 _ _ e4
    have g5 : H5 p1 = some (.lst (rowOf 31 (sS s1' 30))) := u1 _ _ e5
    clear eH5 u1 ht a4 e4 e5 s4 hD e1 s1 h1
    refine ⟨a, _, a5, trivial, fun od => ?_⟩
    refine ⟨_, rfl, a, od, rfl, .inl ⟨_, upd_same, for_it walk_keys (fun i σ H' => ∃ x4 x5 x6 x7, σ = [some (.ref a), some (.int 30), some (.ref p1), some (.ref D), x4, x5, x6, x7] ∧ H' a = some (.frz od (.dK [(.inl 1, .int 1)])) ∧ H' p1 = some (.lst (rowOf 31 (sS s1' 30))) ∧ H' D = some (.lst (rowOf 31 (if i = 0 then (fun _ => 0) else wt))) ∧ ∀ b o, H b = some o → b ≠ a → H' b = some o)
      ⟨_, _, _, _, rfl, upd_same, by rw [upd_ne nap.symm]; exact g5, by rw [upd_ne nad.symm, if_pos rfl]; exact f5, fun b o e ne => by rw [upd_ne ne]; exact s5 _ _ e⟩ (fun i σ H' _ ⟨_, _, _, _, _, h, _⟩ => h) ?_ ?_⟩⟩
    · rintro i x σ H6 H7 hi ⟨x4, x5, x6, x7, rfl, fa, fp, fd, fs⟩ ⟨rfl, k, v, ek, rfl⟩
      have i0 : i = 0 := by
        have : i < 1 := hi
        omega
      subst i0
      cases ek
      rw [if_pos rfl] at fd
      have rg : RgC (1 : Int) (31 : Int) (1 : Int) (upN 1 31 1) := rg_up (a := 1) (b := 31) (d := 1) (by decide) (by decide) (by decide) (by decide)
      refine ⟨_, rfl, _, rfl, _, _, rfl, rfl, _, rfl, 1, 31, 1, _, rfl, rg, ?_⟩
      refine for_rangeC (fun j σ H' => ∃ x5, σ = [some (.ref a), some (.int 30), some (.ref p1), some (.ref D), some (.int 1), x5, x6, x7] ∧ H' a = some (.frz od (.dK [(.inl 1, .int 1)])) ∧ H' p1 = some (.lst (rowOf 31 (sS s1' 30))) ∧ H' D = some (.lst (rowOf 31 fun k => if k < 1 + j then wt k else 0)) ∧ ∀ b o, H b = some o → b ≠ a → H' b = some o) ⟨_, rfl, fa, fp, ?_, fs⟩ ?_ ?_
      · rw [fd]
        refine congrArg some (congrArg HO.lst (row_ext fun k _ => ?_))
        by_cases c : k < 1 + 0
        · have : k = 0 := by omega
          subst this
          rw [if_pos c]
          rfl
        · rw [if_neg c]
      · rintro j σ H7 hj ⟨y5, rfl, ga, gp, gd, gs⟩
        have hj2 : 1 + j * 1 < 31 := (lt_upN (a := 1) (b := 31) (d := 1) (by decide)).mp hj
        have ei : (1 : Int) + (j : Int) * 1 = ((1 + j : Nat) : Int) := by omega
        rw [ei]
        have hn : 1 + j < 31 := by omega
        have fv : ((1 + j : Nat) : Int).fdiv 1 = ((1 + j : Nat) : Int) := by
          rw [Int.fdiv_one]
        refine ⟨_, rfl, _, rfl, D, _, _, _, rfl, rfl, SqL.of gd, row_val hn, _, rfl, _, rfl, a, _, rfl, .inl ⟨_, .inl 1, .inr ⟨od, ga⟩, rfl, rfl⟩, _, rfl, _, _, rfl, rfl, .inl ⟨by decide, by decide⟩, _, rfl, _, rfl, _, rfl, _, _, rfl, rfl, ⟨by decide, by decide⟩, p1, _, _, _, rfl, rfl, SqL.of gp, by rw [fv]; exact row_val hn, _, _, rfl, rfl, .inl ⟨by decide, by decide⟩, _, _, rfl, rfl, _, rfl, _, rfl, D, _, _, _, rfl, rfl, gd, row_at hn, _, rfl, ?_, ?_, ?_, ?_⟩
        · rw [upd_ne nad]
          exact ga
        · rw [upd_ne np]
          exact gp
        · rw [upd_same]
          congr 2
          refine row_set hn ?_ fun k hk hne => ?_
          · show (if 1 + j < 1 + (j + 1) then wt (1 + j) else 0) = (if 1 + j < 1 + j then wt (1 + j) else 0) + 1 * 1 * sS s1' 30 (1 + j)
            rw [if_pos (by omega), if_neg (Nat.lt_irrefl _)]
            show (if 1 + j = 0 then 0 else sS s1' 30 (1 + j)) = _
            rw [if_neg (by omega)]
            omega
          · show (if k < 1 + (j + 1) then wt k else 0) = (if k < 1 + j then wt k else 0)
            by_cases c : k < 1 + j
            · rw [if_pos c, if_pos (by omega)]
            · rw [if_neg c, if_neg (by omega)]
        · intro b o e ne
          rw [upd_ne (ne_of_none e hD1)]
          exact gs _ _ e ne
      · rintro σ H7 ⟨y5, rfl, ga, gp, gd, gs⟩
        refine ⟨_, _, _, _, rfl, ga, gp, ?_, gs⟩
        rw [gd, if_neg (show ¬ 0 + 1 = 0 by decide)]
        refine congrArg some (congrArg HO.lst (row_ext fun k hk => if_pos ?_))
        have : upN 1 31 1 = 30 := by decide
        omega
    rintro σ H6 ⟨x4, x5, x6, x7, rfl, fa, fp, fd, fs⟩
    rw [if_neg (by decide)] at fd
    refine ⟨fa, ?_⟩
    have s6 : Same H (upd H6 a (.dK [(.inl 1, .int 1)])) := fun b o e => by
      by_cases c : b = a
      · rw [c] at e ⊢
        rw [ha] at e
        rw [upd_same]
        exact e
      · rw [upd_ne c]
        exact fs _ _ e c
    have d6 : (upd H6 a (.dK [(.inl 1, .int 1)])) D = some (.lst (rowOf 31 wt)) := by
      rw [upd_ne nad.symm]
      exact fd
    generalize upd H6 a (.dK [(.inl 1, .int 1)]) = H7 at s6 d6 ⊢
    clear fa fp fd fs
    refine ⟨(by show 1 ≤ sizeLine; decide), fun p6 h6 => ?_⟩
    have s8 := s6.trans (same_new (o := .lst [V.int 1]) h6)
    have hp6 : H p6 = none := s6.free h6
    have d8 := (same_new (o := .lst [V.int 1]) h6) _ _ d6
    have e8 : (upd H7 p6 (.lst [V.int 1])) p6 = some (.lst (rowOf 1 E30)) := by
      rw [upd_same]
      have : E30 0 = 1 := by decide
      show _ = some (HO.lst [V.int (E30 0)])
      rw [this]
    generalize upd H7 p6 (.lst [V.int 1]) = H8 at s8 d8 e8 ⊢
    clear h6 d6 s6
    have n6 : D ≠ p6 := fun z => by
      rw [z, e8] at d8
      cases d8
    refine ⟨_, rfl, _, _, rfl, rfl, 1, 31, rfl, ⟨by decide, by decide, by decide, by decide⟩, ?_⟩
    refine for_range (lo := 1) (n := ((31 : Int) - 1).toNat) (fun i σ H' => ∃ x5 x7, σ = [some (.ref a), some (.int 30), some (.ref p1), some (.ref D), x4, x5, some (.ref p6), x7] ∧ H' p6 = some (.lst (rowOf (i + 1) E30)) ∧ SameO p6 H8 H') ⟨_, _, rfl, e8, SameO.refl⟩ ?_ ?_
    · rintro i σ H9 hi ⟨x5, x7, rfl, e9, s9⟩
      have hi2 : i < 30 := hi
      have ec : (1 + (i : Int)) = ((i + 1 : Nat) : Int) := by omega
      rw [ec]
      have d9 := s9 _ _ d8 n6
      refine ⟨_, rfl, .inl ⟨rfl, _, SqL.of e9⟩, _, rfl, _, _, rfl, rfl, 1, _, rfl, ⟨by decide, by decide, by omega, by omega⟩, fun D2 hD2 => ?_⟩
      refine lc_range (lo := 1) (n := (((i + 1 : Nat) : Int) + 1 - 1).toNat) (fun j H' => H' D2 = some (.lst (rowOf j fun k => wt (1 + k) * E30 (i + 1 - (1 + k)))) ∧ Same H9 H') ⟨upd_same, same_new hD2⟩ ?_ ?_
      · rintro j H10 hj ⟨e10, s10⟩
        have hj2 : j < i + 1 := by omega
        have ej : (1 + (j : Int)) = ((1 + j : Nat) : Int) := by omega
        rw [ej]
        have ix : atI (rowOf (i + 1) E30) (((i + 1 : Nat) : Int) - ((1 + j : Nat) : Int)) = some (.int (E30 (i + 1 - (1 + j)))) := by
          have e1 : ((i + 1 : Nat) : Int) - ((1 + j : Nat) : Int) = ((i + 1 - (1 + j) : Nat) : Int) := by omega
          rw [e1]
          exact row_val (by omega)
        refine ⟨rfl, yesT ⟨_, rfl, _, rfl, D, _, _, _, rfl, rfl, SqL.of (s10 _ _ d9), row_val (by omega), _, rfl, _, rfl, _, rfl, _, _, rfl, rfl, p6, _, _, _, rfl, rfl, SqL.of (s10 _ _ e9), ix, _, _, rfl, rfl, .inl (wt_b _ (by omega)), _, e10, ?_, ?_, ?_⟩⟩
        · rw [row_len, sizeLine_eq]
          omega
        · rw [upd_same, row_succ]
        · intro b' o' e'
          rw [upd_ne (ne_of_none e' hD2)]
          exact s10 _ _ e'
      · rintro H10 ⟨e10, s10⟩
        have en : (((i + 1 : Nat) : Int) + 1 - 1).toNat = i + 1 := by omega
        rw [en] at e10
        refine ⟨D2, (List.range (i + 1)).map fun k => wt (1 + k) * E30 (i + 1 - (1 + k)), rfl, SqL.of e10, ?_⟩
        rw [sum_sm]
        refine ⟨_, rfl, _, rfl, _, _, rfl, rfl, ⟨by omega, log_small2 (by omega)⟩, ?_⟩
        refine ⟨p6, _, _, rfl, rfl, s10 _ _ e9, ?_, _, _, rfl, ?_, ?_⟩
        · rw [row_len, sizeLine_eq]
          omega
        · rw [upd_same, row_succ (n := i + 1)]
          have ef := E30_ok (i + 1) (by omega) (by omega)
          show some (HO.lst (_ ++ [V.int ((-(sm (fun k => wt (1 + k) * E30 (i + 1 - (1 + k))) (i + 1))).fdiv ((i + 1 : Nat) : Int))])) = _
          rw [ef]
        · exact s9.trans ((SameO.of s10).trans .put)
    · rintro σ H9 ⟨x5, x7, rfl, e9, s9⟩
      exact ⟨_, rfl, q p6 H9 hp6 (s9.back s8 hp6) e9⟩
end
end K03

set_option Elab.async false
set_option linter.all false
set_option maxRecDepth 1000000
set_option maxHeartbeats 0
set_option exponentiation.threshold 500000
namespace K03
open PySem PySem.Spec Ps Gn
theorem nat_pow (e : Nat) : ((2 ^ e : Nat) : Int) = 2 ^ e := by
  rw [Int.natCast_pow]
  rfl
theorem Mq_nat : ((2 ^ 22000 : Nat) : Int) = Mq := nat_pow 22000
theorem g1 (X M p : Int) : X + (M - p) * X = X * (1 + -1 * p) + M * X := by
  rw [Int.sub_mul, Int.mul_add, Int.mul_one, Int.neg_mul, Int.one_mul, Int.mul_neg, Int.mul_comm p X]
  omega
theorem g2 (X p : Int) : X + p * X = X * (1 + 1 * p) := by rw [Int.mul_add, Int.mul_one, Int.one_mul, Int.mul_comm p X]
theorem g3 (P r1 r2 x : Int) : r1 - r2 = P + x - r2 - (P - r1) - x := by omega
theorem g4 (a b c : Int) : a - c - (b - c) = a - b := by omega
theorem g5 (M p : Int) : -1 * p - (M - p) = M * -1 := by omega
theorem g6 (M p : Int) : 1 * p - p = M * 0 := by omega
theorem g7 (M p : Int) : p - p = M * 0 := by omega
def sB : Bool → Int
  | true => -1
  | false => 1
/-- the check's step, in natural numbers; true: 1 - q^e, false: 1 + q^e -/
def kN (X e : Nat) (b : Bool) : Nat := match Nat.blt e 110 with
  | false => X
  | true => match b with
    | true => (X + (2 ^ 22000 - 2 ^ (200 * e)) * X) % 2 ^ 22000
    | false => (X + 2 ^ (200 * e) * X) % 2 ^ 22000
theorem kN_ok {X e : Nat} {f : S} {b : Bool} (h : Mq ∣ (X : Int) - en f 110) : Mq ∣ (kN X e b : Int) - en (mulF f e (sB b)) 110 := by
  have d0 := kF_ok (e := e) (c := sB b) h
  refine (Int.dvd_iff_dvd_of_dvd_sub ?_).mp d0
  have fin : Mq ∣ kF (X : Int) e (sB b) - (kN X e b : Int) := by
    unfold kN kF
    cases q : Nat.blt e 110 with
    | false =>
      have : ¬ e < 110 := fun z => by
        have : Nat.blt e 110 = true := Nat.ble_eq_true_of_le z
        rw [q] at this
        cases this
      rw [if_neg this]
      exact ⟨0, g7 _ _⟩
    | true =>
      have he : e < 110 := Nat.le_of_ble_eq_true q
      rw [if_pos he]
      have hp : (2 : Nat) ^ (200 * e) ≤ 2 ^ 22000 := Nat.pow_le_pow_right (by decide) (by omega)
      have ep : Bq ^ e = ((2 ^ (200 * e) : Nat) : Int) := by rw [Bq_pow, nat_pow]
      cases b with
      | true =>
        dsimp only
        rw [Int.natCast_emod, Mq_nat]
        have a1 := Int.dvd_self_sub_emod (x := (X : Int) * (1 + sB true * Bq ^ e)) (m := Mq)
        have a2 := Int.dvd_self_sub_emod (x := ((X + (2 ^ 22000 - 2 ^ (200 * e)) * X : Nat) : Int)) (m := Mq)
        have a3 : ((X + (2 ^ 22000 - 2 ^ (200 * e)) * X : Nat) : Int) = (X : Int) * (1 + sB true * Bq ^ e) + Mq * X := by
          rw [Int.natCast_add, Int.natCast_mul, Int.natCast_sub hp, Mq_nat, ← ep]
          show (X : Int) + (Mq - Bq ^ e) * X = X * (1 + -1 * Bq ^ e) + Mq * X
          exact g1 _ _ _
        rw [a3] at a2 ⊢
        have a4 : Mq ∣ Mq * (X : Int) := Int.dvd_mul_right _ _
        have a5 := Int.dvd_sub (Int.dvd_sub a2 a1) a4
        rw [g3 ((X : Int) * (1 + sB true * Bq ^ e)) _ _ (Mq * (X : Int))]
        exact a5
      | false =>
        dsimp only
        rw [Int.natCast_emod, Mq_nat]
        have a3 : ((X + 2 ^ (200 * e) * X : Nat) : Int) = (X : Int) * (1 + sB false * Bq ^ e) := by
          rw [Int.natCast_add, Int.natCast_mul, ← ep]
          show (X : Int) + Bq ^ e * X = X * (1 + 1 * Bq ^ e)
          exact g2 _ _
        rw [a3]
        exact ⟨0, g7 _ _⟩
  rw [g4]
  exact fin
def k3 (m s : Nat) (b : Bool) : Nat → Nat
  | 0 => 1
  | j + 1 => kN (kN (kN (k3 m s b j) (m * (j + 1)) true) (m * (j + 1) - s) b) (m * j + s) b
def k5 (m s : Nat) : Nat → Nat
  | 0 => 1
  | j + 1 => kN (kN (kN (kN (kN (k5 m s j) (m * (j + 1)) true) (m * (j + 1) - s) true) (m * j + s) true) (2 * (m * j) + m - 2 * s) true) (2 * (m * j) + m + 2 * s) true
def at1 (x : Int) (b : Bool) : Nat := match Nat.blt x.toNat 110 with
  | true => (match b with
    | true => 2 ^ 22000 - 2 ^ (200 * x.toNat)
    | false => 2 ^ (200 * x.toNat))
  | false => 0
theorem at1_ok {x : Int} (h : 0 ≤ x) (b : Bool) : Mq ∣ (if x < 110 then sB b * Bq ^ x.toNat else 0) - (at1 x b : Int) := by
  unfold at1
  cases q : Nat.blt x.toNat 110 with
  | true =>
    have : x.toNat < 110 := Nat.le_of_ble_eq_true q
    have hp : (2 : Nat) ^ (200 * x.toNat) ≤ 2 ^ 22000 := Nat.pow_le_pow_right (by decide) (by omega)
    have ep : Bq ^ x.toNat = ((2 ^ (200 * x.toNat) : Nat) : Int) := by rw [Bq_pow, nat_pow]
    rw [if_pos (by omega), ep]
    cases b with
    | true =>
      dsimp only
      rw [Int.natCast_sub hp, Mq_nat]
      exact ⟨-1, g5 _ _⟩
    | false =>
      exact ⟨0, g6 _ _⟩
  | false =>
    have : ¬ x.toNat < 110 := fun z => by
      have : Nat.blt x.toNat 110 = true := Nat.ble_eq_true_of_le z
      rw [q] at this
      cases this
    rw [if_neg (by omega)]
    exact ⟨0, rfl⟩
def t3 (m s : Nat) (b : Bool) : Nat → Nat
  | 0 => 0
  | i + 1 => t3 m s b i + at1 (ex3 m s (-10 + i)) (b && decide ((-10 + (i : Int)) % 2 = 1))
def t5 (m s : Nat) : Nat → Nat
  | 0 => 0
  | i + 1 => t5 m s i + (at1 (ea5 m s (-10 + i)) false + at1 (eb5 m s (-10 + i)) true)
theorem k3_ok (m s : Nat) (b : Bool) : ∀ j, Mq ∣ (k3 m s b j : Int) - en (c3 m s (sB b) j) 110
  | 0 => by
    show Mq ∣ 1 - en one 110
    rw [en_one]
    exact ⟨0, by decide⟩
  | j + 1 => kN_ok (kN_ok (kN_ok (b := true) (k3_ok m s b j)))
theorem k5_ok (m s : Nat) : ∀ j, Mq ∣ (k5 m s j : Int) - en (c5 m s j) 110
  | 0 => by
    show Mq ∣ 1 - en one 110
    rw [en_one]
    exact ⟨0, by decide⟩
  | j + 1 => kN_ok (b := true) (kN_ok (b := true) (kN_ok (b := true) (kN_ok (b := true) (kN_ok (b := true) (k5_ok m s j)))))
theorem sg_b (b : Bool) (k : Int) : sg3 (sB b) k = sB (b && decide (k % 2 = 1)) := by
  unfold sg3
  by_cases c : k % 2 = 1
  · rw [if_pos c, decide_eq_true c, Bool.and_true]
  · rw [if_neg c, decide_eq_false c, Bool.and_false]
    rfl
theorem t3_ok {m s : Nat} (h1 : 1 ≤ s) (h2 : s < m) (b : Bool) : ∀ c, Mq ∣ en (tsm m s (sB b) (-10) c) 110 - (t3 m s b c : Int)
  | 0 => by
    have e : en (tsm m s (sB b) (-10) 0) 110 = 0 := by
      show en (fun _ => 0) 110 = 0
      decide +kernel
    rw [e]
    exact ⟨0, rfl⟩
  | c + 1 => by
    have e : en (tsm m s (sB b) (-10) (c + 1)) 110 = en (tsm m s (sB b) (-10) c) 110 + en (fun n => if ex3 m s (-10 + c) = (n : Int) then sg3 (sB b) (-10 + c) else 0) 110 := en_add _ _ _
    have p := Int.le_trans (sq_nn _) (ex3_sq h1 h2 (-10 + (c : Int)))
    rw [e, en_at _ _ p, sg_b]
    have d1 := t3_ok h1 h2 b c
    have d2 := at1_ok p (b && decide ((-10 + (c : Int)) % 2 = 1))
    have d3 := Int.dvd_add d1 d2
    have e2 : ((t3 m s b (c + 1) : Nat) : Int) = (t3 m s b c : Int) + (at1 (ex3 m s (-10 + c)) (b && decide ((-10 + (c : Int)) % 2 = 1)) : Int) := Int.natCast_add _ _
    rw [e2]
    have e3 : ∀ a b c d : Int, a + b - (c + d) = a - c + (b - d) := fun a b c d => by omega
    rw [e3]
    exact d3
theorem t5_ok {m s : Nat} (h1 : 1 ≤ s) (h2 : 2 * s < m) : ∀ c, Mq ∣ en (qsm m s (-10) c) 110 - (t5 m s c : Int)
  | 0 => by
    have e : en (qsm m s (-10) 0) 110 = 0 := by
      show en (fun _ => 0) 110 = 0
      decide +kernel
    rw [e]
    exact ⟨0, rfl⟩
  | c + 1 => by
    have e : en (qsm m s (-10) (c + 1)) 110 = en (qsm m s (-10) c) 110 + (en (fun n => if ea5 m s (-10 + c) = (n : Int) then 1 else 0) 110 + en (fun n => if eb5 m s (-10 + c) = (n : Int) then -1 else 0) 110) := by
      rw [← en_add, ← en_add]
      rfl
    have pa := Int.le_trans (sq_nn _) (ea5_sq h1 h2 (-10 + (c : Int)))
    have pb := Int.le_trans (sq_nn _) (eb5_sq h1 h2 (-10 + (c : Int)))
    rw [e, en_at _ _ pa, en_at _ _ pb]
    have d3 := Int.dvd_add (t5_ok h1 h2 c) (Int.dvd_add (at1_ok pa false) (at1_ok pb true))
    have e2 : ((t5 m s (c + 1) : Nat) : Int) = (t5 m s c : Int) + ((at1 (ea5 m s (-10 + c)) false : Int) + (at1 (eb5 m s (-10 + c)) true : Int)) := by
      show ((t5 m s c + (at1 (ea5 m s (-10 + c)) false + at1 (eb5 m s (-10 + c)) true) : Nat) : Int) = _
      rw [Int.natCast_add, Int.natCast_add]
    rw [e2]
    have e3 : ∀ a b c d e f : Int, a + (b + c) - (d + (e + f)) = a - d + (b - e + (c - f)) := fun a b c d e f => by omega
    rw [e3]
    exact d3
theorem c3_le {m s : Nat} {sg : Int} (hs : sg = 1 ∨ sg = -1) : ∀ j n, (c3 m s sg j n).natAbs ≤ 2 ^ (3 * j)
  | 0, n => by
    show (if n = 0 then (1 : Int) else 0).natAbs ≤ 1
    split <;> decide
  | j + 1, n => mulF_le hs (mulF_le hs (mulF_le (.inr rfl) (c3_le hs j))) n
theorem c5_le {m s : Nat} : ∀ j n, (c5 m s j n).natAbs ≤ 2 ^ (5 * j)
  | 0, n => by
    show (if n = 0 then (1 : Int) else 0).natAbs ≤ 1
    split <;> decide
  | j + 1, n => mulF_le (.inr rfl) (mulF_le (.inr rfl) (mulF_le (.inr rfl) (mulF_le (.inr rfl) (mulF_le (.inr rfl) (c5_le j))))) n
end K03

set_option Elab.async false
set_option linter.all false
set_option maxRecDepth 1000000
set_option maxHeartbeats 0
set_option exponentiation.threshold 500000
namespace K03
open PySem PySem.Spec Ps Gn
theorem chk3p_0 : ∀ d, d < 20 → ∀ s, s < 0 + d → 1 ≤ s → k3 (0 + d) s false (109 / (0 + d) + 1) % 2 ^ 22000 = t3 (0 + d) s false 21 % 2 ^ 22000 := by decide +kernel
theorem chk3p_1 : ∀ d, d < 20 → ∀ s, s < 20 + d → 1 ≤ s → k3 (20 + d) s false (109 / (20 + d) + 1) % 2 ^ 22000 = t3 (20 + d) s false 21 % 2 ^ 22000 := by decide +kernel
theorem chk3p_2 : ∀ d, d < 20 → ∀ s, s < 40 + d → 1 ≤ s → k3 (40 + d) s false (109 / (40 + d) + 1) % 2 ^ 22000 = t3 (40 + d) s false 21 % 2 ^ 22000 := by decide +kernel
theorem chk3p_3 : ∀ d, d < 20 → ∀ s, s < 60 + d → 1 ≤ s → k3 (60 + d) s false (109 / (60 + d) + 1) % 2 ^ 22000 = t3 (60 + d) s false 21 % 2 ^ 22000 := by decide +kernel
theorem chk3p_4 : ∀ d, d < 20 → ∀ s, s < 80 + d → 1 ≤ s → k3 (80 + d) s false (109 / (80 + d) + 1) % 2 ^ 22000 = t3 (80 + d) s false 21 % 2 ^ 22000 := by decide +kernel
theorem chk3p_5 : ∀ d, d < 20 → ∀ s, s < 100 + d → 1 ≤ s → k3 (100 + d) s false (109 / (100 + d) + 1) % 2 ^ 22000 = t3 (100 + d) s false 21 % 2 ^ 22000 := by decide +kernel
theorem chk3p_6 : ∀ d, d < 20 → ∀ s, s < 120 + d → 1 ≤ s → k3 (120 + d) s false (109 / (120 + d) + 1) % 2 ^ 22000 = t3 (120 + d) s false 21 % 2 ^ 22000 := by decide +kernel
theorem chk3p_7 : ∀ d, d < 20 → ∀ s, s < 140 + d → 1 ≤ s → k3 (140 + d) s false (109 / (140 + d) + 1) % 2 ^ 22000 = t3 (140 + d) s false 21 % 2 ^ 22000 := by decide +kernel
theorem chk3p_8 : ∀ d, d < 20 → ∀ s, s < 160 + d → 1 ≤ s → k3 (160 + d) s false (109 / (160 + d) + 1) % 2 ^ 22000 = t3 (160 + d) s false 21 % 2 ^ 22000 := by decide +kernel
theorem chk3p_9 : ∀ d, d < 20 → ∀ s, s < 180 + d → 1 ≤ s → k3 (180 + d) s false (109 / (180 + d) + 1) % 2 ^ 22000 = t3 (180 + d) s false 21 % 2 ^ 22000 := by decide +kernel
theorem chk3p_10 : ∀ d, d < 1 → ∀ s, s < 200 + d → 1 ≤ s → k3 (200 + d) s false (109 / (200 + d) + 1) % 2 ^ 22000 = t3 (200 + d) s false 21 % 2 ^ 22000 := by decide +kernel
theorem chk3p : ∀ m, m < 201 → ∀ s, s < m → 1 ≤ s → k3 m s false (109 / m + 1) % 2 ^ 22000 = t3 m s false 21 % 2 ^ 22000 := fun m hm => by
  by_cases c0 : m < 20
  · have z := chk3p_0 (m - 0) (by omega)
    rwa [show 0 + (m - 0) = m by omega] at z
  by_cases c1 : m < 40
  · have z := chk3p_1 (m - 20) (by omega)
    rwa [show 20 + (m - 20) = m by omega] at z
  by_cases c2 : m < 60
  · have z := chk3p_2 (m - 40) (by omega)
    rwa [show 40 + (m - 40) = m by omega] at z
  by_cases c3 : m < 80
  · have z := chk3p_3 (m - 60) (by omega)
    rwa [show 60 + (m - 60) = m by omega] at z
  by_cases c4 : m < 100
  · have z := chk3p_4 (m - 80) (by omega)
    rwa [show 80 + (m - 80) = m by omega] at z
  by_cases c5 : m < 120
  · have z := chk3p_5 (m - 100) (by omega)
    rwa [show 100 + (m - 100) = m by omega] at z
  by_cases c6 : m < 140
  · have z := chk3p_6 (m - 120) (by omega)
    rwa [show 120 + (m - 120) = m by omega] at z
  by_cases c7 : m < 160
  · have z := chk3p_7 (m - 140) (by omega)
    rwa [show 140 + (m - 140) = m by omega] at z
  by_cases c8 : m < 180
  · have z := chk3p_8 (m - 160) (by omega)
    rwa [show 160 + (m - 160) = m by omega] at z
  by_cases c9 : m < 200
  · have z := chk3p_9 (m - 180) (by omega)
    rwa [show 180 + (m - 180) = m by omega] at z
  have z := chk3p_10 (m - 200) (by omega)
  rwa [show 200 + (m - 200) = m by omega] at z
end K03

set_option Elab.async false
set_option linter.all false
set_option maxRecDepth 1000000
set_option maxHeartbeats 0
set_option exponentiation.threshold 500000
namespace K03
open PySem PySem.Spec Ps Gn
theorem chk3n_0 : ∀ d, d < 20 → ∀ s, s < 0 + d → 1 ≤ s → k3 (0 + d) s true (109 / (0 + d) + 1) % 2 ^ 22000 = t3 (0 + d) s true 21 % 2 ^ 22000 := by decide +kernel
theorem chk3n_1 : ∀ d, d < 20 → ∀ s, s < 20 + d → 1 ≤ s → k3 (20 + d) s true (109 / (20 + d) + 1) % 2 ^ 22000 = t3 (20 + d) s true 21 % 2 ^ 22000 := by decide +kernel
theorem chk3n_2 : ∀ d, d < 20 → ∀ s, s < 40 + d → 1 ≤ s → k3 (40 + d) s true (109 / (40 + d) + 1) % 2 ^ 22000 = t3 (40 + d) s true 21 % 2 ^ 22000 := by decide +kernel
theorem chk3n_3 : ∀ d, d < 20 → ∀ s, s < 60 + d → 1 ≤ s → k3 (60 + d) s true (109 / (60 + d) + 1) % 2 ^ 22000 = t3 (60 + d) s true 21 % 2 ^ 22000 := by decide +kernel
theorem chk3n_4 : ∀ d, d < 20 → ∀ s, s < 80 + d → 1 ≤ s → k3 (80 + d) s true (109 / (80 + d) + 1) % 2 ^ 22000 = t3 (80 + d) s true 21 % 2 ^ 22000 := by decide +kernel
theorem chk3n_5 : ∀ d, d < 20 → ∀ s, s < 100 + d → 1 ≤ s → k3 (100 + d) s true (109 / (100 + d) + 1) % 2 ^ 22000 = t3 (100 + d) s true 21 % 2 ^ 22000 := by decide +kernel
theorem chk3n_6 : ∀ d, d < 20 → ∀ s, s < 120 + d → 1 ≤ s → k3 (120 + d) s true (109 / (120 + d) + 1) % 2 ^ 22000 = t3 (120 + d) s true 21 % 2 ^ 22000 := by decide +kernel
theorem chk3n_7 : ∀ d, d < 20 → ∀ s, s < 140 + d → 1 ≤ s → k3 (140 + d) s true (109 / (140 + d) + 1) % 2 ^ 22000 = t3 (140 + d) s true 21 % 2 ^ 22000 := by decide +kernel
theorem chk3n_8 : ∀ d, d < 20 → ∀ s, s < 160 + d → 1 ≤ s → k3 (160 + d) s true (109 / (160 + d) + 1) % 2 ^ 22000 = t3 (160 + d) s true 21 % 2 ^ 22000 := by decide +kernel
theorem chk3n_9 : ∀ d, d < 20 → ∀ s, s < 180 + d → 1 ≤ s → k3 (180 + d) s true (109 / (180 + d) + 1) % 2 ^ 22000 = t3 (180 + d) s true 21 % 2 ^ 22000 := by decide +kernel
theorem chk3n_10 : ∀ d, d < 1 → ∀ s, s < 200 + d → 1 ≤ s → k3 (200 + d) s true (109 / (200 + d) + 1) % 2 ^ 22000 = t3 (200 + d) s true 21 % 2 ^ 22000 := by decide +kernel
theorem chk3n : ∀ m, m < 201 → ∀ s, s < m → 1 ≤ s → k3 m s true (109 / m + 1) % 2 ^ 22000 = t3 m s true 21 % 2 ^ 22000 := fun m hm => by
  by_cases c0 : m < 20
  · have z := chk3n_0 (m - 0) (by omega)
    rwa [show 0 + (m - 0) = m by omega] at z
  by_cases c1 : m < 40
  · have z := chk3n_1 (m - 20) (by omega)
    rwa [show 20 + (m - 20) = m by omega] at z
  by_cases c2 : m < 60
  · have z := chk3n_2 (m - 40) (by omega)
    rwa [show 40 + (m - 40) = m by omega] at z
  by_cases c3 : m < 80
  · have z := chk3n_3 (m - 60) (by omega)
    rwa [show 60 + (m - 60) = m by omega] at z
  by_cases c4 : m < 100
  · have z := chk3n_4 (m - 80) (by omega)
    rwa [show 80 + (m - 80) = m by omega] at z
  by_cases c5 : m < 120
  · have z := chk3n_5 (m - 100) (by omega)
    rwa [show 100 + (m - 100) = m by omega] at z
  by_cases c6 : m < 140
  · have z := chk3n_6 (m - 120) (by omega)
    rwa [show 120 + (m - 120) = m by omega] at z
  by_cases c7 : m < 160
  · have z := chk3n_7 (m - 140) (by omega)
    rwa [show 140 + (m - 140) = m by omega] at z
  by_cases c8 : m < 180
  · have z := chk3n_8 (m - 160) (by omega)
    rwa [show 160 + (m - 160) = m by omega] at z
  by_cases c9 : m < 200
  · have z := chk3n_9 (m - 180) (by omega)
    rwa [show 180 + (m - 180) = m by omega] at z
  have z := chk3n_10 (m - 200) (by omega)
  rwa [show 200 + (m - 200) = m by omega] at z
end K03

set_option Elab.async false
set_option linter.all false
set_option maxRecDepth 1000000
set_option maxHeartbeats 0
set_option exponentiation.threshold 500000
namespace K03
open PySem PySem.Spec Ps Gn
theorem chk5_0 : ∀ d, d < 20 → ∀ s, s < 0 + d → 1 ≤ s → 2 * s < 0 + d → k5 (0 + d) s (109 / (0 + d) + 1) % 2 ^ 22000 = t5 (0 + d) s 21 % 2 ^ 22000 := by decide +kernel
theorem chk5_1 : ∀ d, d < 20 → ∀ s, s < 20 + d → 1 ≤ s → 2 * s < 20 + d → k5 (20 + d) s (109 / (20 + d) + 1) % 2 ^ 22000 = t5 (20 + d) s 21 % 2 ^ 22000 := by decide +kernel
theorem chk5_2 : ∀ d, d < 20 → ∀ s, s < 40 + d → 1 ≤ s → 2 * s < 40 + d → k5 (40 + d) s (109 / (40 + d) + 1) % 2 ^ 22000 = t5 (40 + d) s 21 % 2 ^ 22000 := by decide +kernel
theorem chk5_3 : ∀ d, d < 20 → ∀ s, s < 60 + d → 1 ≤ s → 2 * s < 60 + d → k5 (60 + d) s (109 / (60 + d) + 1) % 2 ^ 22000 = t5 (60 + d) s 21 % 2 ^ 22000 := by decide +kernel
theorem chk5_4 : ∀ d, d < 20 → ∀ s, s < 80 + d → 1 ≤ s → 2 * s < 80 + d → k5 (80 + d) s (109 / (80 + d) + 1) % 2 ^ 22000 = t5 (80 + d) s 21 % 2 ^ 22000 := by decide +kernel
theorem chk5_5 : ∀ d, d < 20 → ∀ s, s < 100 + d → 1 ≤ s → 2 * s < 100 + d → k5 (100 + d) s (109 / (100 + d) + 1) % 2 ^ 22000 = t5 (100 + d) s 21 % 2 ^ 22000 := by decide +kernel
theorem chk5_6 : ∀ d, d < 20 → ∀ s, s < 120 + d → 1 ≤ s → 2 * s < 120 + d → k5 (120 + d) s (109 / (120 + d) + 1) % 2 ^ 22000 = t5 (120 + d) s 21 % 2 ^ 22000 := by decide +kernel
theorem chk5_7 : ∀ d, d < 20 → ∀ s, s < 140 + d → 1 ≤ s → 2 * s < 140 + d → k5 (140 + d) s (109 / (140 + d) + 1) % 2 ^ 22000 = t5 (140 + d) s 21 % 2 ^ 22000 := by decide +kernel
theorem chk5_8 : ∀ d, d < 20 → ∀ s, s < 160 + d → 1 ≤ s → 2 * s < 160 + d → k5 (160 + d) s (109 / (160 + d) + 1) % 2 ^ 22000 = t5 (160 + d) s 21 % 2 ^ 22000 := by decide +kernel
theorem chk5_9 : ∀ d, d < 20 → ∀ s, s < 180 + d → 1 ≤ s → 2 * s < 180 + d → k5 (180 + d) s (109 / (180 + d) + 1) % 2 ^ 22000 = t5 (180 + d) s 21 % 2 ^ 22000 := by decide +kernel
theorem chk5_10 : ∀ d, d < 1 → ∀ s, s < 200 + d → 1 ≤ s → 2 * s < 200 + d → k5 (200 + d) s (109 / (200 + d) + 1) % 2 ^ 22000 = t5 (200 + d) s 21 % 2 ^ 22000 := by decide +kernel
theorem chk5 : ∀ m, m < 201 → ∀ s, s < m → 1 ≤ s → 2 * s < m → k5 m s (109 / m + 1) % 2 ^ 22000 = t5 m s 21 % 2 ^ 22000 := fun m hm => by
  by_cases c0 : m < 20
  · have z := chk5_0 (m - 0) (by omega)
    rwa [show 0 + (m - 0) = m by omega] at z
  by_cases c1 : m < 40
  · have z := chk5_1 (m - 20) (by omega)
    rwa [show 20 + (m - 20) = m by omega] at z
  by_cases c2 : m < 60
  · have z := chk5_2 (m - 40) (by omega)
    rwa [show 40 + (m - 40) = m by omega] at z
  by_cases c3 : m < 80
  · have z := chk5_3 (m - 60) (by omega)
    rwa [show 60 + (m - 60) = m by omega] at z
  by_cases c4 : m < 100
  · have z := chk5_4 (m - 80) (by omega)
    rwa [show 80 + (m - 80) = m by omega] at z
  by_cases c5 : m < 120
  · have z := chk5_5 (m - 100) (by omega)
    rwa [show 100 + (m - 100) = m by omega] at z
  by_cases c6 : m < 140
  · have z := chk5_6 (m - 120) (by omega)
    rwa [show 120 + (m - 120) = m by omega] at z
  by_cases c7 : m < 160
  · have z := chk5_7 (m - 140) (by omega)
    rwa [show 140 + (m - 140) = m by omega] at z
  by_cases c8 : m < 180
  · have z := chk5_8 (m - 160) (by omega)
    rwa [show 160 + (m - 160) = m by omega] at z
  by_cases c9 : m < 200
  · have z := chk5_9 (m - 180) (by omega)
    rwa [show 180 + (m - 180) = m by omega] at z
  have z := chk5_10 (m - 200) (by omega)
  rwa [show 200 + (m - 200) = m by omega] at z
end K03

set_option Elab.async false
set_option linter.all false
set_option maxRecDepth 100000
set_option maxHeartbeats 4000000
set_option exponentiation.threshold 500000
namespace K03
open PySem PySem.Spec Ps Gn
theorem mod_eq {a b : Nat} (h : a % 2 ^ 22000 = b % 2 ^ 22000) : Mq ∣ (a : Int) - (b : Int) := by
  rw [← Mq_nat]
  have e : (a : Int) % ((2 ^ 22000 : Nat) : Int) = (b : Int) % ((2 ^ 22000 : Nat) : Int) := by
    rw [← Int.natCast_emod, ← Int.natCast_emod, h]
  exact Int.dvd_of_emod_eq_zero (Int.emod_eq_emod_iff_emod_sub_eq_zero.mp e)
theorem sB_of {sg : Int} (h : sg = 1 ∨ sg = -1) : ∃ b, sg = sB b := by
  rcases h with rfl | rfl
  · exact ⟨false, rfl⟩
  · exact ⟨true, rfl⟩
theorem g8 (k e t u : Int) : e - u = k - t - (k - e) + (t - u) := by omega
theorem tsm_le {m s : Nat} {sg lo : Int} (hs : sg = 1 ∨ sg = -1) (c n : Nat) : (tsm m s sg lo c n).natAbs ≤ c := by
  have h := sm_bound (f := fun i => if ex3 m s (lo + i) = (n : Int) then sg3 sg (lo + i) else 0) (M := 1) c (fun i _ => by
    split
    · unfold sg3
      split
      · omega
      · decide
    · decide)
  show (sm _ c).natAbs ≤ c
  omega
theorem qsm_le {m s : Nat} {lo : Int} (c n : Nat) : (qsm m s lo c n).natAbs ≤ 2 * c := by
  have h := sm_bound (f := fun i => (if ea5 m s (lo + i) = (n : Int) then 1 else 0) + (if eb5 m s (lo + i) = (n : Int) then -1 else 0)) (M := 2) c (fun i _ => by
    split <;> split <;> decide)
  show (sm _ c).natAbs ≤ 2 * c
  omega
theorem small_pow {x : Nat} {k : Nat} (h : x ≤ 2 ^ k) (hk : k ≤ 189) : x < 2 ^ 190 := Nat.lt_of_le_of_lt h (Nat.pow_lt_pow_right (by decide) (by omega))
theorem div_le {m : Nat} (h : 2 ≤ m) : 109 / m ≤ 54 := by
  have := Nat.div_le_div_left h (show 0 < 2 by decide) (a := 109)
  omega
theorem jacobi {m s : Nat} {sg : Int} (h1 : 2 ≤ m) (h2 : m ≤ 200) (h3 : 1 ≤ s) (h4 : s < m) (hs : sg = 1 ∨ sg = -1) : ∀ i, i < 110 → c3 m s sg (109 / m + 1) i = tsm m s sg (-10) 21 i := by
  have hd := div_le h1
  refine en_uniq (N := 110) (fun i => small_pow (c3_le hs _ i) (by omega)) (fun i => ?_) ?_
  · have := tsm_le (m := m) (s := s) (lo := -10) hs 21 i
    have e : (21 : Nat) < 2 ^ 190 := by decide
    omega
  · rw [← Mq_eq]
    obtain ⟨b, rfl⟩ := sB_of hs
    have d1 := k3_ok m s b (109 / m + 1)
    have d2 : Mq ∣ (k3 m s b (109 / m + 1) : Int) - (t3 m s b 21 : Int) := by
      cases b with
      | true => exact mod_eq (chk3n m (by omega) s h4 h3)
      | false => exact mod_eq (chk3p m (by omega) s h4 h3)
    have d3 := t3_ok h3 h4 b 21
    rw [g8 (k3 m s b (109 / m + 1) : Int) _ (t3 m s b 21 : Int)]
    refine Int.dvd_add (Int.dvd_sub d2 d1) ?_
    have d4 := Int.dvd_neg.mpr d3
    rwa [Int.neg_sub] at d4
theorem quint {m s : Nat} (h2 : m ≤ 200) (h3 : 1 ≤ s) (h4 : 2 * s < m) : ∀ i, i < 110 → c5 m s (109 / m + 1) i = qsm m s (-10) 21 i := by
  have hd : 109 / m ≤ 36 := by
    have := Nat.div_le_div_left (show 3 ≤ m by omega) (show 0 < 3 by decide) (a := 109)
    omega
  refine en_uniq (N := 110) (fun i => small_pow (c5_le _ i) (by omega)) (fun i => ?_) ?_
  · have := qsm_le (m := m) (s := s) (lo := -10) 21 i
    have e : (42 : Nat) < 2 ^ 190 := by decide
    omega
  · rw [← Mq_eq]
    have d1 := k5_ok m s (109 / m + 1)
    have d2 : Mq ∣ (k5 m s (109 / m + 1) : Int) - (t5 m s 21 : Int) := mod_eq (chk5 m (by omega) s (by omega) h3 h4)
    have d3 := t5_ok h3 h4 21
    rw [g8 (k5 m s (109 / m + 1) : Int) _ (t5 m s 21 : Int)]
    refine Int.dvd_add (Int.dvd_sub d2 d1) ?_
    have d4 := Int.dvd_neg.mpr d3
    rwa [Int.neg_sub] at d4
theorem c3_far {m s : Nat} {sg : Int} {n r : Nat} (hs : s < m) (h : n < r * m) : ∀ d, c3 m s sg (r + d) n = c3 m s sg r n
  | 0 => rfl
  | d + 1 => by
    have a : r * m ≤ m * (r + d) := by
      rw [Nat.mul_comm]
      exact Nat.mul_le_mul_left m (by omega)
    have b : m * (r + d + 1) = m * (r + d) + m := by rw [Nat.mul_add m (r + d) 1, Nat.mul_one]
    show mulF (mulF (mulF (c3 m s sg (r + d)) (m * (r + d + 1)) (-1)) (m * (r + d + 1) - s) sg) (m * (r + d) + s) sg n = _
    rw [mulF_far (by omega), mulF_far (by omega), mulF_far (by omega), c3_far hs h d]
theorem c5_far {m s n r : Nat} (hs : 2 * s < m) (h : n < r * m) : ∀ d, c5 m s (r + d) n = c5 m s r n
  | 0 => rfl
  | d + 1 => by
    have a : r * m ≤ m * (r + d) := by
      rw [Nat.mul_comm]
      exact Nat.mul_le_mul_left m (by omega)
    have b : m * (r + d + 1) = m * (r + d) + m := by rw [Nat.mul_add m (r + d) 1, Nat.mul_one]
    show mulF (mulF (mulF (mulF (mulF (c5 m s (r + d)) (m * (r + d + 1)) (-1)) (m * (r + d + 1) - s) (-1)) (m * (r + d) + s) (-1)) (2 * (m * (r + d)) + m - 2 * s) (-1)) (2 * (m * (r + d)) + m + 2 * s) (-1) n = _
    rw [mulF_far (by omega), mulF_far (by omega), mulF_far (by omega), mulF_far (by omega), mulF_far (by omega), c5_far hs h d]
theorem far_div {m n : Nat} (h1 : 1 ≤ m) (hn : n < 110) : n < (109 / m + 1) * m := by
  have := Nat.lt_div_mul_add (a := 109) (b := m) (by omega)
  rw [Nat.add_mul, Nat.one_mul]
  omega
/-- the product, with enough rounds, is the sum -/
theorem triple_eq {m s : Nat} {sg : Int} (h1 : 2 ≤ m) (h2 : m ≤ 200) (h3 : 1 ≤ s) (h4 : s < m) (hs : sg = 1 ∨ sg = -1) {n r : Nat} (hn : n < 110) (hr : n < r * m) : c3 m s sg r n = tsm m s sg (-10) 21 n := by
  rw [← jacobi h1 h2 h3 h4 hs n hn, ← c3_far h4 hr (109 / m + 1), ← c3_far (r := 109 / m + 1) h4 (far_div (by omega) hn) r, Nat.add_comm]
theorem quint_eq {m s : Nat} (h2 : m ≤ 200) (h3 : 1 ≤ s) (h4 : 2 * s < m) {n r : Nat} (hn : n < 110) (hr : n < r * m) : c5 m s r n = qsm m s (-10) 21 n := by
  rw [← quint h2 h3 h4 n hn, ← c5_far h4 hr (109 / m + 1), ← c5_far (r := 109 / m + 1) h4 (far_div (by omega) hn) r, Nat.add_comm]
theorem sq_big {R n : Nat} {k : Int} (hn : n < (R + 1) * (R + 1)) (hk : (R : Int) < k ∨ k < -(R : Int)) : (n : Int) < k * k := by
  have a : ((R + 1 : Nat) : Int) * ((R + 1 : Nat) : Int) ≤ k * k := by
    rcases hk with h | h
    · exact Int.mul_le_mul (by omega) (by omega) (by omega) (by omega)
    · have e : k * k = -k * -k := (Int.neg_mul_neg k k).symm
      rw [e]
      exact Int.mul_le_mul (by omega) (by omega) (by omega) (by omega)
  have b : (n : Int) < ((R + 1 : Nat) : Int) * ((R + 1 : Nat) : Int) := by exact_mod_cast hn
  omega
theorem tsm_wide {m s : Nat} {sg : Int} (h3 : 1 ≤ s) (h4 : s < m) {n R R' : Nat} (hR : n < (R + 1) * (R + 1)) (h : R ≤ R') : tsm m s sg (-(R' : Int)) (2 * R' + 1) n = tsm m s sg (-(R : Int)) (2 * R + 1) n := by
  obtain ⟨d, rfl⟩ : ∃ d, R' = R + d := ⟨R' - R, by omega⟩
  refine sm_wide (fun k => if ex3 m s k = (n : Int) then sg3 sg k else 0) R d fun k hk => ?_
  rw [if_neg]
  have a := sq_big hR hk
  have b := ex3_sq h3 h4 k
  omega
theorem qsm_wide {m s : Nat} (h3 : 1 ≤ s) (h4 : 2 * s < m) {n R R' : Nat} (hR : n < (R + 1) * (R + 1)) (h : R ≤ R') : qsm m s (-(R' : Int)) (2 * R' + 1) n = qsm m s (-(R : Int)) (2 * R + 1) n := by
  obtain ⟨d, rfl⟩ : ∃ d, R' = R + d := ⟨R' - R, by omega⟩
  refine sm_wide (fun k => (if ea5 m s k = (n : Int) then 1 else 0) + (if eb5 m s k = (n : Int) then -1 else 0)) R d fun k hk => ?_
  have a := sq_big hR hk
  have b := ea5_sq h3 h4 k
  have c := eb5_sq h3 h4 k
  rw [if_neg (by omega), if_neg (by omega)]
  rfl
theorem tsm_base {m s : Nat} {sg : Int} (h3 : 1 ≤ s) (h4 : s < m) {n R : Nat} (hn : n < 110) (hR : n < (R + 1) * (R + 1)) : tsm m s sg (-(R : Int)) (2 * R + 1) n = tsm m s sg (-10) 21 n := by
  by_cases c : R ≤ 10
  · exact (tsm_wide h3 h4 hR c).symm
  · exact tsm_wide h3 h4 (R := 10) (by omega) (by omega)
theorem qsm_base {m s : Nat} (h3 : 1 ≤ s) (h4 : 2 * s < m) {n R : Nat} (hn : n < 110) (hR : n < (R + 1) * (R + 1)) : qsm m s (-(R : Int)) (2 * R + 1) n = qsm m s (-10) 21 n := by
  by_cases c : R ≤ 10
  · exact (qsm_wide h3 h4 hR c).symm
  · exact qsm_wide h3 h4 (R := 10) (by omega) (by omega)
end K03

set_option Elab.async false
set_option linter.all false
set_option maxRecDepth 100000
set_option maxHeartbeats 4000000
set_option exponentiation.threshold 500000
namespace K03
open PySem PySem.Spec Ps Gn
theorem mulF_cv (b : S) (e : Nat) (c : Int) : mulF b e c = cv (mulF one e c) b := by
  have e1 : ∀ f : S, mulF f e c = ad f (sc c (sh e f)) := fun f => by
    funext n
    show f n + (if e ≤ n then c * f (n - e) else 0) = f n + c * (if n < e then 0 else f (n - e))
    by_cases h : e ≤ n
    · rw [if_pos h, if_neg (by omega)]
    · rw [if_neg h, if_pos (by omega), Int.mul_zero]
  rw [e1 one, ad_cv, one_cv, sc_cv, sh_cv, one_cv, e1 b]
theorem fam_cv (b : S) (e st : Nat) (sg : Int) : ∀ j, famF b e st sg j = cv (famF one e st sg j) b
  | 0 => (one_cv b).symm
  | j + 1 => by
    show mulF (famF b e st sg j) (e + j * st) sg = cv (mulF (famF one e st sg j) (e + j * st) sg) b
    rw [mulF_cv, fam_cv b e st sg j, mulF_cv (famF one e st sg j), cv_assoc]
instance : Std.Associative cv := ⟨cv_assoc⟩
instance : Std.Commutative cv := ⟨cv_comm⟩
theorem c3_fam {m s : Nat} (sg : Int) (h : s < m) : ∀ j, c3 m s sg j = cv (famF one m m (-1) j) (cv (famF one (m - s) m sg j) (famF one s m sg j))
  | 0 => by
    show one = cv one (cv one one)
    rw [one_cv, one_cv]
  | j + 1 => by
    have a1 : m * (j + 1) = m + j * m := by rw [Nat.mul_add, Nat.mul_one, Nat.mul_comm, Nat.add_comm]
    have a2 : m * (j + 1) - s = m - s + j * m := by omega
    have a3 : m * j + s = s + j * m := by rw [Nat.mul_comm, Nat.add_comm]
    show mulF (mulF (mulF (c3 m s sg j) (m * (j + 1)) (-1)) (m * (j + 1) - s) sg) (m * j + s) sg = cv (mulF (famF one m m (-1) j) (m + j * m) (-1)) (cv (mulF (famF one (m - s) m sg j) (m - s + j * m) sg) (mulF (famF one s m sg j) (s + j * m) sg))
    rw [a2, a3, a1, c3_fam sg h j]
    generalize famF one m m (-1) j = A
    generalize famF one (m - s) m sg j = B
    generalize famF one s m sg j = C
    rw [mulF_cv (cv A (cv B C)), mulF_cv (cv (mulF one (m + j * m) (-1)) (cv A (cv B C))), mulF_cv (cv (mulF one (m - s + j * m) sg) (cv (mulF one (m + j * m) (-1)) (cv A (cv B C)))), mulF_cv A, mulF_cv B, mulF_cv C]
    generalize mulF one (m + j * m) (-1) = X
    generalize mulF one (m - s + j * m) sg = Y
    generalize mulF one (s + j * m) sg = Z
    ac_rfl
theorem c5_fam {m s : Nat} (h : 2 * s < m) : ∀ j, c5 m s j = cv (famF one m m (-1) j) (cv (famF one (m - s) m (-1) j) (cv (famF one s m (-1) j) (cv (famF one (m - 2 * s) (2 * m) (-1) j) (famF one (m + 2 * s) (2 * m) (-1) j))))
  | 0 => by
    show one = cv one (cv one (cv one (cv one one)))
    rw [one_cv, one_cv, one_cv, one_cv]
  | j + 1 => by
    have a1 : m * (j + 1) = m + j * m := by rw [Nat.mul_add, Nat.mul_one, Nat.mul_comm, Nat.add_comm]
    have a2 : m * (j + 1) - s = m - s + j * m := by omega
    have a3 : m * j + s = s + j * m := by rw [Nat.mul_comm, Nat.add_comm]
    have a6 : j * (2 * m) = 2 * (m * j) := by rw [Nat.mul_left_comm, Nat.mul_comm j m]
    have a4 : 2 * (m * j) + m - 2 * s = m - 2 * s + j * (2 * m) := by omega
    have a5 : 2 * (m * j) + m + 2 * s = m + 2 * s + j * (2 * m) := by omega
    show mulF (mulF (mulF (mulF (mulF (c5 m s j) (m * (j + 1)) (-1)) (m * (j + 1) - s) (-1)) (m * j + s) (-1)) (2 * (m * j) + m - 2 * s) (-1)) (2 * (m * j) + m + 2 * s) (-1) = cv (mulF (famF one m m (-1) j) (m + j * m) (-1)) (cv (mulF (famF one (m - s) m (-1) j) (m - s + j * m) (-1)) (cv (mulF (famF one s m (-1) j) (s + j * m) (-1)) (cv (mulF (famF one (m - 2 * s) (2 * m) (-1) j) (m - 2 * s + j * (2 * m)) (-1)) (mulF (famF one (m + 2 * s) (2 * m) (-1) j) (m + 2 * s + j * (2 * m)) (-1)))))
    rw [a2, a3, a4, a5, a1, c5_fam h j]
    generalize famF one m m (-1) j = A
    generalize famF one (m - s) m (-1) j = B
    generalize famF one s m (-1) j = C
    generalize famF one (m - 2 * s) (2 * m) (-1) j = D
    generalize famF one (m + 2 * s) (2 * m) (-1) j = E
    generalize m + j * m = x1
    generalize m - s + j * m = x2
    generalize s + j * m = x3
    generalize m - 2 * s + j * (2 * m) = x4
    generalize m + 2 * s + j * (2 * m) = x5
    rw [mulF_cv A, mulF_cv B, mulF_cv C, mulF_cv D, mulF_cv E, mulF_cv (mulF _ x4 _), mulF_cv (mulF _ x3 _), mulF_cv (mulF _ x2 _), mulF_cv (mulF _ x1 _), mulF_cv (cv A _)]
    generalize mulF one x1 (-1) = X1
    generalize mulF one x2 (-1) = X2
    generalize mulF one x3 (-1) = X3
    generalize mulF one x4 (-1) = X4
    generalize mulF one x5 (-1) = X5
    ac_rfl
theorem fam_far {b : S} {e st n : Nat} {sg : Int} {r : Nat} (h : n < e + r * st) : ∀ d, famF b e st sg (r + d) n = famF b e st sg r n
  | 0 => rfl
  | d + 1 => by
    have a : r * st ≤ (r + d) * st := Nat.mul_le_mul_right st (by omega)
    show mulF (famF b e st sg (r + d)) (e + (r + d) * st) sg n = _
    rw [mulF_far (by omega), fam_far h d]
theorem fam_same {b : S} {e st n : Nat} {sg : Int} {r r' : Nat} (h : n < e + r * st) (h' : n < e + r' * st) : famF b e st sg r n = famF b e st sg r' n := by
  rw [← fam_far h r', ← fam_far h' r, Nat.add_comm]
theorem up_far {e mo st n : Nat} (hs : 0 < st) (hn : n < mo + 1) : n < e + upN e (mo + 1) st * st := by
  have z : ¬ (e + upN e (mo + 1) st * st < mo + 1) := fun z => Nat.lt_irrefl _ ((lt_upN hs).mpr z)
  omega
theorem big_far {e mo st n : Nat} (hs : 0 < st) (hn : n < mo + 1) : n < e + (mo + 1) * st := by
  have := Nat.le_mul_of_pos_right (mo + 1) hs
  omega
theorem pr3 {m s mo : Nat} {sg : Int} (h2 : 1 ≤ s) (h : s < m) : ∀ n, n < mo + 1 → prF (fun e st => upN e (mo + 1) st) [(m, m, -1), (m - s, m, sg), (s, m, sg)] 3 n = c3 m s sg (mo + 1) n := fun n hn => by
  show famF (famF (famF one m m (-1) _) (m - s) m sg _) s m sg _ n = _
  rw [c3_fam sg h, fam_cv (famF _ _ _ _ _), fam_cv (famF one m m (-1) _), cv_comm (famF one s m sg _), cv_comm (famF one (m - s) m sg _), cv_assoc]
  have hm : 0 < m := by omega
  refine cv_congr (N := mo + 1) (fun i hi => fam_same (up_far hm hi) (big_far hm hi)) (fun i hi => ?_) n hn
  exact cv_congr (N := mo + 1) (fun i hi => fam_same (up_far hm hi) (big_far hm hi)) (fun i hi => fam_same (up_far hm hi) (big_far hm hi)) i hi
theorem pr5 {m s mo : Nat} (h2 : 1 ≤ s) (h : 2 * s < m) : ∀ n, n < mo + 1 → prF (fun e st => upN e (mo + 1) st) [(m, m, -1), (m - s, m, -1), (s, m, -1), (m - 2 * s, 2 * m, -1), (m + 2 * s, 2 * m, -1)] 5 n = c5 m s (mo + 1) n := fun n hn => by
  show famF (famF (famF (famF (famF one m m (-1) _) (m - s) m (-1) _) s m (-1) _) (m - 2 * s) (2 * m) (-1) _) (m + 2 * s) (2 * m) (-1) _ n = _
  have hm : 0 < m := by omega
  have hm2 : 0 < 2 * m := by omega
  have e1 : famF (famF (famF (famF (famF one m m (-1) (upN m (mo + 1) m)) (m - s) m (-1) (upN (m - s) (mo + 1) m)) s m (-1) (upN s (mo + 1) m)) (m - 2 * s) (2 * m) (-1) (upN (m - 2 * s) (mo + 1) (2 * m))) (m + 2 * s) (2 * m) (-1) (upN (m + 2 * s) (mo + 1) (2 * m)) =
      cv (famF one m m (-1) (upN m (mo + 1) m)) (cv (famF one (m - s) m (-1) (upN (m - s) (mo + 1) m)) (cv (famF one s m (-1) (upN s (mo + 1) m)) (cv (famF one (m - 2 * s) (2 * m) (-1) (upN (m - 2 * s) (mo + 1) (2 * m))) (famF one (m + 2 * s) (2 * m) (-1) (upN (m + 2 * s) (mo + 1) (2 * m)))))) := by
    rw [fam_cv (famF (famF (famF (famF one m m (-1) _) (m - s) m (-1) _) s m (-1) _) (m - 2 * s) (2 * m) (-1) _), fam_cv (famF (famF (famF one m m (-1) _) (m - s) m (-1) _) s m (-1) _), fam_cv (famF (famF one m m (-1) _) (m - s) m (-1) _), fam_cv (famF one m m (-1) _)]
    ac_rfl
  refine (congrFun e1 n).trans ?_
  rw [c5_fam h]
  refine cv_congr (N := mo + 1) (fun i hi => fam_same (up_far hm hi) (big_far hm hi)) (fun i hi => ?_) n hn
  refine cv_congr (N := mo + 1) (fun i hi => fam_same (up_far hm hi) (big_far hm hi)) (fun i hi => ?_) i hi
  refine cv_congr (N := mo + 1) (fun i hi => fam_same (up_far hm hi) (big_far hm hi)) (fun i hi => ?_) i hi
  exact cv_congr (N := mo + 1) (fun i hi => fam_same (up_far hm2 hi) (big_far hm2 hi)) (fun i hi => fam_same (up_far hm2 hi) (big_far hm2 hi)) i hi
end K03

set_option Elab.async false
set_option linter.all false
set_option maxRecDepth 100000
set_option maxHeartbeats 4000000
set_option pp.maxSteps 3000
set_option exponentiation.threshold 500000
namespace K03
open PySem PySem.Spec PyProof.Rows L2 Dr Xv LamX Ps Gn
def g120 {α : Type} (us ws : List α) : List α := match us, ws with
  | [], [a, b, c] => [b, c, a]
  | _, _ => []
theorem kb120 {K : PySem.W.Frag} {x qual : Str} {params : Arguments} {body : List Stmt} {scope : Scope} {kws : List (Str × V)} {f : Addr} {fd : FuncData} {p q r : Str} (F : FunD K x qual params body scope [] kws f fd)
    (h : ∀ (kV doc pm : Value) (an : Option Addr) (cdv ct : Value) (a b c : Value), bindArgs (PySem.W.fnOf x qual params body scope .none kV doc pm an cdv ct) ⟨[], [r, p, q].zip [a, b, c]⟩ = pure ([p, q, r].zip [b, c, a])) : KBinds K fd [p, q, r] [r, p, q] g120 g120 := by
  obtain ⟨oc, od, dV, kV, doc, pm, an, cdv, ct, osl, rfl, lk, hcd, hD, hK⟩ := F.ex
  refine ⟨fun s us ws hK' hl => ?_, fun {vs us zs ws} r1 r2 => ?_⟩
  · match us, ws with
    | [], [a, b, c] =>
      rcases hD with ⟨_, rfl⟩ | ⟨e, _⟩
      · exact BindsTo.of_eq (h kV doc pm an cdv ct a b c)
      · exact absurd rfl e
    | [], [] => cases hl
    | [], [_] => cases hl
    | [], [_, _] => cases hl
    | [], _ :: _ :: _ :: _ :: _ => cases hl
    | _ :: _, _ => cases hl
  · cases r1 with
    | cons _ _ => exact .nil
    | nil =>
      cases r2 with
      | nil => exact .nil
      | cons a r2 =>
        cases r2 with
        | nil => exact .nil
        | cons b r2 =>
          cases r2 with
          | nil => exact .nil
          | cons c r2 =>
            cases r2 with
            | nil => exact .cons b (.cons c (.cons a .nil))
            | cons _ _ => exact .nil
theorem Mod.h_quintuple_product_most_m_s {P : Program} {w : World} {K : PySem.W.Frag} {mg : Str → Option Value} {base : Heap} (M : Mod P w K mg base) : KBinds K M.d_quintuple_product ["m", "s", "most"] ["most", "m", "s"] g120 g120 :=
  kb120 M.F_quintuple_product fun _ _ _ _ _ _ _ _ _ => rfl
section
variable {P : Program} {w : World} {K : PySem.W.Frag} {mg : Str → Option Value} {base : Heap}
abbrev XL (P : Program) (w : World) (K : PySem.W.Frag) (mg : Str → Option Value) (base : Heap) (f c : Addr) (A : Around) (outer : List Env) (s : Shared) (H : Hp) (E : XK) : Cx := (cxOf CX0 P w K mg base N_law "law" (defScope s_law) f (.ref c) A outer s H E).nox
/-- _law_caught(lambda: body) -/
theorem pe_law {f c Pt : Addr} {A : Around} {outer : List Env} {s : Shared} {H : Hp} {E : XK} {body : Expr} {scope : Scope} {t : XK → TE} {k : Nat} {p lpos pos : Pos} (M : Mod P w K mg base) (TB : TabB base mg c Pt) (hr : Room (k + 2) (XL P w K mg base f c A outer s H E).A) (L : lamSB (defScope s_law) scope = true)
    (hg : Gl (XL P w K mg base f c A outer s H E) "_law_caught")
    (hbody : ∀ (A' : Around) (outer' : List Env) (s' : Shared) (H' : Hp) (E' : XK) (f' c' : Addr), Room k (A'.deeper (lamEnv (XL P w K mg base f c A outer s H E) scope s'.heap.objs.size f' c')) → PE (lamCx (XL P w K mg base f c A outer s H E) A' outer' s' H' E' scope f' c') body (t E')) :
    PE (XL P w K mg base f c A outer s H E) (.Call (.Name "_law_caught" p) [.Lambda noArgs body scope lpos] [] pos) (tLam [(Pt, qL)] (TCaught K M.a_SeriesError) t) := by
  obtain ⟨oc, od, dV, kV, doc, pm, an, cdv, ct, osl, e, lk, hcd, hD, hK⟩ := M.F__law_caught.ex
  have bC : L2.Binds K M.d__law_caught ["work"] [] := M.b__law_caught
  rw [e] at lk bC
  exact pe_lamcall (X := XL P w K mg base f c A outer s H E) (T := [(Pt, qL)]) (a := "work") hg M.g__law_caught M.k__law_caught lk hcd bC sc__law_caught rfl (Or.inl rfl)
    (caught_gives sc__law_caught rfl rfl rfl rfl M.g_SeriesError) TB rfl (List.mem_singleton.mpr rfl) (fun p hp _ => by rw [List.mem_singleton.mp hp]; rfl) hr (lamS_by L) rfl (fun _ _ _ _ _ => rfl) hbody

end
/-! ### pairs in a list -/
def zipT (ts : List Addr) (ps : List (Int × Int)) : List (Addr × HO) := List.zipWith (fun t p => (t, HO.tup [V.int p.1, V.int p.2])) ts ps
theorem Sta.perm {Pt d l c : Addr} {H : Hp} {os os' : List (Addr × HO)} (S : Sta Pt H d l c os) (h : os'.Perm os) : Sta Pt H d l c os' :=
  ⟨S.W, fun z hz => S.O z (h.mem_iff.mp hz), (h.pairwise_iff (fun h => Ne.symm h)).mpr S.P⟩
theorem it_step {Pt d l c p q t : Addr} {H : Hp} {ts : List Addr} {ps : List (Int × Int)} {o : HO} (S : Sta Pt H d l c ((p, .lst (ts.map V.ref)) :: (q, o) :: zipT ts ps)) (hl : ts.length = ps.length) (ht : H t = none) (x v : Int) :
    Sta Pt (upd (upd H t (.tup [.int x, .int v])) p (.lst ((ts ++ [t]).map V.ref))) d l c ((p, .lst ((ts ++ [t]).map V.ref)) :: (q, o) :: zipT (ts ++ [t]) (ps ++ [(x, v)])) := by
  have S1 := S.newT (xs := [V.int x, V.int v]) ht
  have e : zipT (ts ++ [t]) (ps ++ [(x, v)]) = zipT ts ps ++ [(t, .tup [.int x, .int v])] := List.zipWith_append hl
  have S2 := Sta.perm S1 (os' := (p, .lst (ts.map V.ref)) :: (q, o) :: zipT (ts ++ [t]) (ps ++ [(x, v)])) (by
    rw [e]
    exact List.perm_append_singleton _ (_ :: _ :: zipT ts ps))
  exact S2.put
theorem zip_tups {Pt d l c : Addr} {H : Hp} {os : List (Addr × HO)} {ts : List Addr} {ps : List (Int × Int)} (S : Sta Pt H d l c os) (h : ∀ x ∈ zipT ts ps, x ∈ os) (hl : ts.length = ps.length) : Tups H ts (ps.map fun p => [.int p.1, .int p.2]) := by
  refine ⟨by rw [List.length_map, hl], fun i t x h1 h2 => ?_⟩
  rw [List.getElem?_map] at h2
  obtain ⟨p, h3, rfl⟩ := Option.map_eq_some_iff.mp h2
  have m : (t, HO.tup [V.int p.1, V.int p.2]) ∈ zipT ts ps := by
    refine List.mem_of_getElem? (i := i) ?_
    unfold zipT
    rw [List.getElem?_zipWith, h1, h3]
  exact (S.O _ (h _ m)).1
theorem smP_range (f : Nat → Int × Int) (c n : Nat) : smP ((List.range c).map f) ((List.range c).map f).length n = sm (fun i => if (f i).1 = (n : Int) then (f i).2 else 0) c := by
  unfold smP
  rw [List.length_map, List.length_range]
  refine sm_congr c fun i hi => ?_
  have e : ((List.range c).map f).getD i (0, 0) = f i := by
    rw [List.getD_eq_getElem?_getD, List.getElem?_map, List.getElem?_range hi]
    rfl
  rw [e]
theorem use_ts {cS cN cM : Addr} {H : Hp} {Q : VK} {E : XK} {m s mo : Nat} {sg : Int} (h1 : 2 ≤ m) (h2 : m ≤ 200) (h3 : 1 ≤ s) (h4 : s < m) (hs : sg = 1 ∨ sg = -1) (hm : mo ≤ 109)
    (k : ∀ (p : Addr) (H' : Hp), H p = none → Same H H' → H' p = some (.lst (rowOf (mo + 1) (tsm m s sg (-10) 21))) → Q (.ref p) H') : sp_triple_sum cS cN cM [.int (m : Int), .int (s : Int), .int sg, .int (mo : Int)] H Q E := by
  refine ⟨_, _, _, _, rfl, .int _, .int _, .int _, .int _, fun z => ?_, fun _ z => ?_, fun _ _ z => ?_, fun m' s' mo' sg' e1 e2 e3 e4 _ _ _ _ _ _ => ?_⟩
  · rw [okSt_yes h1 h2 h3 h4] at z
    cases z
  · have : okSg (.int sg) = true := decide_eq_true hs
    rw [this] at z
    cases z
  · rw [within_yes (by omega) (by omega)] at z
    cases z
  · have a1 : m = m' := by
      injection e1 with e1
      omega
    have a2 : s = s' := by
      injection e2 with e2
      omega
    have a3 : sg = sg' := by
      injection e3
    have a4 : mo = mo' := by
      injection e4 with e4
      omega
    subst a1
    subst a2
    subst a3
    subst a4
    refine fun p H' hp s' h' => k p H' hp s' ?_
    rw [h']
    have q := PySem.Float64.isqrt_spec mo
    have q2 : mo < (rt mo + 1) * (rt mo + 1) := q.2
    exact congrArg some (congrArg HO.lst (row_ext fun n hn => tsm_base h3 h4 (by omega) (by omega)))
theorem enough {m mo n : Nat} (hm : 0 < m) (hn : n < mo + 1) : n < upN m (mo + m + 1) m * m := by
  have z : ¬ (m + upN m (mo + m + 1) m * m < mo + m + 1) := fun z => Nat.lt_irrefl _ ((lt_upN hm).mpr z)
  omega
theorem use_tp {cS cN cM : Addr} {H : Hp} {Q : VK} {E : XK} {m s mo : Nat} {sg : Int} (h1 : 2 ≤ m) (h2 : m ≤ 200) (h3 : 1 ≤ s) (h4 : s < m) (hs : sg = 1 ∨ sg = -1) (hm : mo ≤ 109)
    (k : ∀ (p : Addr) (H' : Hp), H p = none → Same H H' → H' p = some (.lst (rowOf (mo + 1) (tsm m s sg (-10) 21))) → Q (.ref p) H') : sp_triple_product cS cN cM [.int (m : Int), .int (s : Int), .int sg, .int (mo : Int)] H Q E := by
  refine ⟨_, _, _, _, rfl, .int _, .int _, .int _, .int _, fun z => ?_, fun _ z => ?_, fun _ _ z => ?_, fun m' s' mo' sg' e1 e2 e3 e4 _ _ _ => ?_⟩
  · rw [okSt_yes h1 h2 h3 h4] at z
    cases z
  · have : okSg (.int sg) = true := decide_eq_true hs
    rw [this] at z
    cases z
  · rw [within_yes (by omega) (by omega)] at z
    cases z
  · have a1 : m = m' := by
      injection e1 with e1
      omega
    have a2 : s = s' := by
      injection e2 with e2
      omega
    have a3 : sg = sg' := by
      injection e3
    have a4 : mo = mo' := by
      injection e4 with e4
      omega
    subst a1
    subst a2
    subst a3
    subst a4
    refine ⟨by omega, fun p H' hp s' h' => k p H' hp s' ?_⟩
    rw [h']
    exact congrArg some (congrArg HO.lst (row_ext fun n hn => triple_eq h1 h2 h3 h4 hs (by omega) (enough (by omega) hn)))
theorem okHs_no {m s : Nat} (h : m ≤ 2 * s) : okHs (.int (m : Int)) (.int (s : Int)) = false := by
  unfold okHs
  have : decide (2 * (s : Int) < (m : Int)) = false := decide_eq_false (by omega)
  show (_ && decide (2 * (s : Int) < (m : Int))) = false
  rw [this, Bool.and_false]
theorem qs_bad {cS cM : Addr} {H : Hp} {Q : VK} {E : XK} {m s : Nat} (h : m ≤ 2 * s) (q : E (.ref cS) none H) : sp_quintuple_sum cS cM [.int (m : Int), .int (s : Int), .non] H Q E :=
  ⟨_, _, _, rfl, .int _, .int _, .non, fun _ => q, fun z => (by rw [okHs_no h] at z; cases z), fun _ _ _ _ _ e => nomatch e⟩
theorem use_qs {cS cM : Addr} {H : Hp} {Q : VK} {E : XK} {m s mo : Nat} (h2 : m ≤ 200) (h3 : 1 ≤ s) (h4 : 2 * s < m) (hm : mo ≤ 109)
    (k : ∀ (p : Addr) (H' : Hp), H p = none → Same H H' → H' p = some (.lst (rowOf (mo + 1) (qsm m s (-10) 21))) → Q (.ref p) H') : sp_quintuple_sum cS cM [.int (m : Int), .int (s : Int), .int (mo : Int)] H Q E := by
  refine ⟨_, _, _, rfl, .int _, .int _, .int _, fun z => ?_, fun _ z => ?_, fun m' s' mo' e1 e2 e4 _ _ _ _ => ?_⟩
  · rw [okHs_yes h2 h3 h4] at z
    cases z
  · rw [within_yes (by omega) (by omega)] at z
    cases z
  · have a1 : m = m' := by
      injection e1 with e1
      omega
    have a2 : s = s' := by
      injection e2 with e2
      omega
    have a4 : mo = mo' := by
      injection e4 with e4
      omega
    subst a1
    subst a2
    subst a4
    refine fun p H' hp s' h' => k p H' hp s' ?_
    rw [h']
    have q := PySem.Float64.isqrt_spec mo
    have q2 : mo < (rt mo + 1) * (rt mo + 1) := q.2
    exact congrArg some (congrArg HO.lst (row_ext fun n hn => qsm_base h3 h4 (by omega) (by omega)))
theorem use_qp {cS cM : Addr} {H : Hp} {Q : VK} {E : XK} {m s mo : Nat} (h2 : m ≤ 200) (h3 : 1 ≤ s) (h4 : 2 * s < m) (hm : mo ≤ 109)
    (k : ∀ (p : Addr) (H' : Hp), H p = none → Same H H' → H' p = some (.lst (rowOf (mo + 1) (qsm m s (-10) 21))) → Q (.ref p) H') : sp_quintuple_product cS cM [.int (m : Int), .int (s : Int), .int (mo : Int)] H Q E := by
  refine ⟨_, _, _, rfl, .int _, .int _, .int _, fun z => ?_, fun _ z => ?_, fun m' s' mo' e1 e2 e4 _ _ => ?_⟩
  · rw [okHs_yes h2 h3 h4] at z
    cases z
  · rw [within_yes (by omega) (by omega)] at z
    cases z
  · have a1 : m = m' := by
      injection e1 with e1
      omega
    have a2 : s = s' := by
      injection e2 with e2
      omega
    have a4 : mo = mo' := by
      injection e4 with e4
      omega
    subst a1
    subst a2
    subst a4
    refine ⟨by omega, fun p H' hp s' h' => k p H' hp s' ?_⟩
    rw [h']
    exact congrArg some (congrArg HO.lst (row_ext fun n hn => quint_eq h2 h3 h4 (by omega) (enough (by omega) hn)))
/-- the items of the quintuple sum -/
def f5at (m s : Nat) (lo : Int) (j : Nat) : Int × Int := if j % 2 = 0 then (ea5 m s (lo + (j / 2 : Nat)), 1) else (eb5 m s (lo + (j / 2 : Nat)), -1)
theorem f5_even (m s : Nat) (lo : Int) (i : Nat) : f5at m s lo (2 * i) = (ea5 m s (lo + (i : Int)), 1) := by
  unfold f5at
  have e : 2 * i / 2 = i := by omega
  rw [if_pos (by omega), e]
theorem f5_odd (m s : Nat) (lo : Int) (i : Nat) : f5at m s lo (2 * i + 1) = (eb5 m s (lo + (i : Int)), -1) := by
  unfold f5at
  have e : (2 * i + 1) / 2 = i := by omega
  rw [if_neg (by omega), e]
theorem sm_pairs (g : Nat → Int) : ∀ c, sm g (2 * c) = sm (fun i => g (2 * i) + g (2 * i + 1)) c
  | 0 => rfl
  | c + 1 => by
    have e : 2 * (c + 1) = 2 * c + 1 + 1 := by omega
    rw [e]
    show sm g (2 * c) + g (2 * c) + g (2 * c + 1) = sm _ c + (g (2 * c) + g (2 * c + 1))
    rw [sm_pairs g c]
    omega
theorem smP_five (m s : Nat) (lo : Int) (c n : Nat) : smP ((List.range (2 * c)).map (f5at m s lo)) ((List.range (2 * c)).map (f5at m s lo)).length n = qsm m s lo c n := by
  rw [smP_range, sm_pairs]
  refine sm_congr c fun i _ => ?_
  rw [f5_even, f5_odd]
def forBody : Stmt → List Stmt
  | .For _ _ b _ _ => b
  | _ => []
abbrev lapB : List Stmt := forBody ((defBody s_law).getD 1 (.Pass ⟨0, 0, 0, 0⟩))
/-- the law's slots: the draw is known -/
def Slots (d : Addr) (σ : L2.St) : Prop := ∃ x0 x2 x3 x4 x5 x6 x7 x8 x9 x10 x11 x12 x13 x14 x15 x16, σ = [x0, some (.ref d), x2, x3, x4, x5, x6, x7, x8, x9, x10, x11, x12, x13, x14, x15, x16]
section
variable {P : Program} {w : World} {K : PySem.W.Frag} {mg : Str → Option Value} {base : Heap} {f c Pt : Addr} {A : Around} {outer : List Env} {s : Shared} {H : Hp} {E : XK}
theorem lap_ok (M : Mod P w K mg base) (TB : TabB base mg c Pt) (hr : Room 9 (XL P w K mg base f c A outer s H E).A) :
    ∃ t, PSs (XL P w K mg base f c A outer s H E) lapB t ∧ ∀ (D : Ends) (σ : L2.St) (H0 : Hp) (d l cc : Addr), Slots d σ → Sta Pt H0 d l cc [] → (∀ σ' H', Slots d σ' → Sta Pt H' d l cc [] → D.nx σ' H' ∧ D.ct σ' H') → t D σ H0 := by
  have hrL : Room 8 (XL P w K mg base f c A outer s H E).A := hr.mono (by decide)
  have hx : ∀ {X : Cx}, Passes (L2.CX X.prog X.w) X (fun _ _ _ => False) := fun {X} => passes_call L2.takes0 (fun _ _ _ _ z => z)
  refine ⟨_, (pss_cons (ps_asg (pe_tup (pa_cons (pe_op op_add pe_int (pe_call (ok__law_take M) (hr.mono (by decide)) rfl M.g__law_take M.k__law_take M.b__law_take .nil pass0 (pa_cons (pv 1) (pa_cons (pe_call (ok__law_pick M) (hr.mono (by decide)) rfl M.g__law_pick M.k__law_pick M.b__law_pick .nil pass0 (pa_cons (pv 1) (pa_cons (pe_lst (pa_cons pe_int (pa_cons pe_int (pa_cons pe_int pa_nil)))) pa_nil))) pa_nil)))) (pa_cons (pe_call (ok__law_pick M) (hr.mono (by decide)) rfl M.g__law_pick M.k__law_pick M.b__law_pick .nil pass0 (pa_cons (pv 1) (pa_cons (pe_lst (pa_cons pe_int (pa_cons (pe_un un_neg pe_int) pa_nil))) pa_nil))) (pa_cons (pe_call (ok__law_take M) (hr.mono (by decide)) rfl M.g__law_take M.k__law_take M.b__law_take .nil pass0 (pa_cons (pv 1) (pa_cons pe_int pa_nil))) pa_nil)))) (pg_tup rfl (pgs_cons (pg_name (i := 3) sc_law.nd rfl (Or.inr rfl)) (pgs_cons (pg_name (i := 4) sc_law.nd rfl (Or.inl rfl)) (pgs_cons (pg_name (i := 5) sc_law.nd rfl (Or.inl rfl)) pgs_nil)))))
      (pss_cons (ps_asg (pe_tup (pa_cons (pe_op op_add pe_int (pe_call (ok__law_take M) (hr.mono (by decide)) rfl M.g__law_take M.k__law_take M.b__law_take .nil pass0 (pa_cons (pv 1) (pa_cons (pe_op op_sub (pv 3) pe_int) pa_nil)))) (pa_cons (pe_lst pa_nil) (pa_cons (pe_lst pa_nil) pa_nil)))) (pg_tup rfl (pgs_cons (pg_name (i := 6) sc_law.nd rfl (Or.inr rfl)) (pgs_cons (pg_name (i := 7) sc_law.nd rfl (Or.inl rfl)) (pgs_cons (pg_name (i := 8) sc_law.nd rfl (Or.inl rfl)) pgs_nil)))))
      (pss_cons (ps_for PassesOwn.never rfl (pi_range2 (by rfl) M.range0 (pa_cons (pe_op op_sub (pe_un un_neg (pv 5)) pe_int) (pa_cons (pe_op op_add (pv 5) pe_int) pa_nil))) (pg_name (i := 9) sc_law.nd rfl (Or.inl rfl)) 
        (pss_one (ps_expr (pe_bm PySem.F.plainAttrs_list PySem.F.slot_list_append PySem.F.type_list_append mt_append (pv 7) (pa_cons (pe_tup (pa_cons (pe_op op_add (pe_op op_fdiv (pe_op op_mul (pe_op op_mul (pv 3) (pv 9)) (pe_op op_sub (pv 9) pe_int)) pe_int) (pe_op op_mul (pv 6) (pv 9))) (pa_cons (pe_ifExp (pt_cmpR op_eq (pe_op op_mod (pv 9) pe_int) pe_int (nomark _)) pe_int (pv 4)) pa_nil))) pa_nil)))))
      (pss_cons (ps_set (i := 10) sc_law.nd rfl (Or.inl rfl) (pe_call (ok__law_summed M) (hr.mono (by decide)) rfl M.g__law_summed M.k__law_summed M.b__law_summed .nil pass0 (pa_cons (pv 7) (pa_cons (pv 5) pa_nil))))
      (C8.pss_cut (ps_if (PW.pt (pw_or (pt_cmpR (op_neD hr.units) (pe_call (ok_triple_sum M) (hr.mono (by decide)) rfl M.g_triple_sum M.k_triple_sum M.b_triple_sum .nil hx (pa_cons (pv 3) (pa_cons (pv 6) (pa_cons (pv 4) (pa_cons (pv 5) pa_nil))))) (pv 10) (nomark _)) (pw_or1 (pt_cmpR (op_neD hr.units) (pe_callK0 (ok_triple_sum M) (hr.mono (by decide)) rfl M.g_triple_sum M.k_triple_sum M.h_triple_sum hx (pk_cons (pv 5) (pk_cons (pv 4) (pk_cons (pv 6) (pk_cons (pv 3) pk_nil))))) (pv 10) (nomark _))))) 
        (pss_one (ps_ret pe_bl)) pss_nil)
      (C8.pss_cut (ps_if (pt_cmpR (op_neD hr.units) (pe_call (ok__law_product M) (hr.mono (by decide)) rfl M.g__law_product M.k__law_product M.b__law_product .nil pass0 (pa_cons (pe_lst (pa_cons (pe_tup (pa_cons (pv 3) (pa_cons (pv 3) (pa_cons (pe_un un_neg pe_int) pa_nil)))) (pa_cons (pe_tup (pa_cons (pe_op op_sub (pv 3) (pv 6)) (pa_cons (pv 3) (pa_cons (pv 4) pa_nil)))) (pa_cons (pe_tup (pa_cons (pv 6) (pa_cons (pv 3) (pa_cons (pv 4) pa_nil)))) pa_nil)))) (pa_cons (pv 5) pa_nil))) (pv 10) (nomark _)) 
        (pss_one (ps_ret pe_bl)) pss_nil)
      (C8.pss_cut (ps_if (PW.pt (pw_or (pt_cmpR (op_neD hr.units) (pe_call (ok_triple_product M) (hr.mono (by decide)) rfl M.g_triple_product M.k_triple_product M.b_triple_product .nil hx (pa_cons (pv 3) (pa_cons (pv 6) (pa_cons (pv 4) (pa_cons (pv 5) pa_nil))))) (pv 10) (nomark _)) (pw_or1 (pt_cmpR (op_neD hr.units) (pe_callK0 (ok_triple_product M) (hr.mono (by decide)) rfl M.g_triple_product M.k_triple_product M.h_triple_product hx (pk_cons (pv 5) (pk_cons (pv 4) (pk_cons (pv 6) (pk_cons (pv 3) pk_nil))))) (pv 10) (nomark _))))) 
        (pss_one (ps_ret pe_bl)) pss_nil)
      (C8.pss_cut (ps_if (pt_cmpR op_ge (pe_op op_mul pe_int (pv 6)) (pv 3) (nomark _)) 
        (C8.pss_cut (ps_if (pt_not (pt_val (pe_callB call_isC (by rfl) M.isinstance0 boot_isinstance (pa_cons (pe_law (t := fun E' => (tCall (sp_quintuple_sum M.a_BadStep M.a_BadMost) [] E' (tCons (tVar 3) (tCons (tVar 6) (tCons (tC .non) tNil))))) M TB hrL (by decide +kernel) rfl
          (fun A' outer' s' H' E' f' c' hr' => (pe_call (ok_quintuple_sum M) (hr'.mono (by decide)) rfl M.g_quintuple_sum M.k_quintuple_sum M.b_quintuple_sum .nil (passes_call (takes_of rfl rfl rfl rfl) (fun _ _ _ _ h => h)) (pa_cons (pv 3) (pa_cons (pv 6) (pa_cons pe_non pa_nil)))))) (pa_cons (pe_glob (v := .ref M.a_BadStep) rfl M.g_BadStep rfl) pa_nil))))) 
          (pss_one (ps_ret pe_bl)) pss_nil)
        (pss_one ps_continue)) pss_nil)
      (pss_cons (ps_for PassesOwn.never rfl (pi_range2 (by rfl) M.range0 (pa_cons (pe_op op_sub (pe_un un_neg (pv 5)) pe_int) (pa_cons (pe_op op_add (pv 5) pe_int) pa_nil))) (pg_name (i := 9) sc_law.nd rfl (Or.inl rfl)) 
        (pss_cons (ps_set (i := 11) sc_law.nd rfl (Or.inl rfl) (pe_op op_fdiv (pe_op op_mul (pe_op op_mul (pv 3) (pv 9)) (pe_op op_add (pe_op op_mul pe_int (pv 9)) pe_int)) pe_int))
        (pss_cons (ps_expr (pe_bm PySem.F.plainAttrs_list PySem.F.slot_list_append PySem.F.type_list_append mt_append (pv 8) (pa_cons (pe_tup (pa_cons (pe_op op_sub (pv 11) (pe_op op_mul (pe_op op_mul pe_int (pv 9)) (pv 6))) (pa_cons pe_int pa_nil))) pa_nil)))
        (pss_one (ps_expr (pe_bm PySem.F.plainAttrs_list PySem.F.slot_list_append PySem.F.type_list_append mt_append (pv 8) (pa_cons (pe_tup (pa_cons (pe_op op_add (pv 11) (pe_op op_mul (pe_op op_add (pe_op op_mul pe_int (pv 9)) pe_int) (pv 6))) (pa_cons (pe_un un_neg pe_int) pa_nil))) pa_nil)))))))
      (pss_cons (ps_set (i := 10) sc_law.nd rfl (Or.inl rfl) (pe_call (ok__law_summed M) (hr.mono (by decide)) rfl M.g__law_summed M.k__law_summed M.b__law_summed .nil pass0 (pa_cons (pv 8) (pa_cons (pv 5) pa_nil))))
      (pss_cons (ps_set (i := 12) sc_law.nd rfl (Or.inl rfl) (pe_lst (pa_cons (pe_tup (pa_cons (pv 3) (pa_cons (pv 3) (pa_cons (pe_un un_neg pe_int) pa_nil)))) (pa_cons (pe_tup (pa_cons (pe_op op_sub (pv 3) (pv 6)) (pa_cons (pv 3) (pa_cons (pe_un un_neg pe_int) pa_nil)))) (pa_cons (pe_tup (pa_cons (pv 6) (pa_cons (pv 3) (pa_cons (pe_un un_neg pe_int) pa_nil)))) (pa_cons (pe_tup (pa_cons (pe_op op_sub (pv 3) (pe_op op_mul pe_int (pv 6))) (pa_cons (pe_op op_mul pe_int (pv 3)) (pa_cons (pe_un un_neg pe_int) pa_nil)))) (pa_cons (pe_tup (pa_cons (pe_op op_add (pv 3) (pe_op op_mul pe_int (pv 6))) (pa_cons (pe_op op_mul pe_int (pv 3)) (pa_cons (pe_un un_neg pe_int) pa_nil)))) pa_nil)))))))
      (pss_one (ps_if (PW.pt (pw_or (pt_cmpR (op_neD hr.units) (pe_call (ok__law_product M) (hr.mono (by decide)) rfl M.g__law_product M.k__law_product M.b__law_product .nil pass0 (pa_cons (pv 12) (pa_cons (pv 5) pa_nil))) (pv 10) (nomark _)) (pw_or (pt_cmpR (op_neD hr.units) (pe_call (ok_quintuple_sum M) (hr.mono (by decide)) rfl M.g_quintuple_sum M.k_quintuple_sum M.b_quintuple_sum .nil hx (pa_cons (pv 3) (pa_cons (pv 6) (pa_cons (pv 5) pa_nil)))) (pv 10) (nomark _)) (pw_or1 (pt_cmpR (op_neD hr.units) (pe_callK0 (ok_quintuple_product M) (hr.mono (by decide)) rfl M.g_quintuple_product M.k_quintuple_product M.h_quintuple_product_most_m_s hx (pk_cons (pv 5) (pk_cons (pv 3) (pk_cons (pv 6) pk_nil)))) (pv 10) (nomark _)))))) 
        (pss_one (ps_ret pe_bl)) pss_nil))))))))))))), ?_⟩
  rintro D σ H0 d l cc ⟨x0, x2, x3, x4, x5, x6, x7, x8, x9, x10, x11, x12, x13, x14, x15, x16, rfl⟩ S0 fin
  have hu1 : ∀ {v : V}, v ∈ [V.int 6, V.int 20, V.int 199] → ∃ b : Int, v = .int b ∧ 0 < b ∧ b ≤ 199 ∧ b.natAbs.log2 < 9000 := fun hv => by
    simp only [List.mem_cons, List.not_mem_nil, or_false] at hv
    rcases hv with rfl | rfl | rfl
    · exact ⟨_, rfl, by decide, by decide, by decide⟩
    · exact ⟨_, rfl, by decide, by decide, by decide⟩
    · exact ⟨_, rfl, by decide, by decide, by decide⟩
  -- m
  refine ⟨_, rfl, _, rfl, (by show 3 ≤ sizeLine; decide), fun z hz => ?_⟩
  have S1 := S0.newL (xs := [.int 6, .int 20, .int 199]) hz
  refine ⟨d, l, cc, z, [.int 6, .int 20, .int 199], rfl, S1.dr, fun H' s' => SqL.of (S1.gx 0 rfl s'), by simp, (by show 3 ≤ 1000; decide), fun v H1 hv D1 s1 => ?_⟩
  have S2 := (S1.sx s1 D1).tl
  obtain ⟨b, rfl, b0, b1, b2⟩ := hu1 hv
  refine ⟨d, l, cc, b, rfl, S2.dr, b0, b2, fun v H2 v0 v1 D2 s2 => ?_⟩
  have S3 := S2.sx s2 D2
  clear S0 S1 S2 hz hv s1 D1 s2 D2
  obtain ⟨m, em⟩ : ∃ m : Nat, 2 + v = (m : Int) := ⟨(2 + v).toNat, by omega⟩
  have m1 : 2 ≤ m := by omega
  have m2 : m ≤ 200 := by omega
  -- sign
  refine ⟨_, _, rfl, rfl, _, rfl, 1, rfl, (by show 2 ≤ sizeLine; decide), fun z hz => ?_⟩
  have S4 := S3.newL (xs := [.int 1, .int (-1)]) hz
  refine ⟨d, l, cc, z, [.int 1, .int (-1)], rfl, S4.dr, fun H' s' => SqL.of (S4.gx 0 rfl s'), by simp, (by show 2 ≤ 1000; decide), fun sv H3 hsv D3 s3 => ?_⟩
  have S5 := (S4.sx s3 D3).tl
  obtain ⟨sg, rfl, hsg⟩ : ∃ sg : Int, sv = .int sg ∧ (sg = 1 ∨ sg = -1) := by
    simp only [List.mem_cons, List.not_mem_nil, or_false] at hsv
    rcases hsv with rfl | rfl
    · exact ⟨_, rfl, .inl rfl⟩
    · exact ⟨_, rfl, .inr rfl⟩
  clear S3 S4 hz hsv s3 D3
  -- most
  refine ⟨_, rfl, d, l, cc, 110, rfl, S5.dr, by decide, by decide, fun mv H4 w0 w1 D4 s4 => ?_⟩
  have S6 := S5.sx s4 D4
  obtain ⟨mo, rfl⟩ : ∃ mo : Nat, mv = (mo : Int) := ⟨mv.toNat, by omega⟩
  have hmo : mo ≤ 109 := by omega
  refine ⟨(by show 3 ≤ sizeLine; decide), fun t ht => ⟨t, _, rfl, SqT.of upd_same, rfl, _, _, rfl, _, _, rfl, _, _, rfl, rfl, ?_⟩⟩
  have S7 : Sta Pt (upd H4 t (.tup [V.int (2 + v), V.int sg, V.int (mo : Int)])) d l cc [] := (S6.newT (xs := [V.int (2 + v), V.int sg, V.int (mo : Int)]) ht).tl
  clear S5 S6 D4 s4
  dsimp only
  rw [em] at S7 ⊢
  generalize upd H4 t (.tup [V.int (m : Int), V.int sg, V.int (mo : Int)]) = H5 at S7 ⊢
  clear ht em v0 v1 w0 w1
  -- s, items, fives
  refine ⟨_, rfl, _, rfl, _, _, rfl, rfl, d, l, cc, (m : Int) - 1, rfl, S7.dr, by omega, ?_, fun v H6 v0 v1 D6 s6 => ?_⟩
  · have e : (m : Int) - 1 = ((m - 1 : Nat) : Int) := by omega
    rw [e]
    exact log_small (by omega)
  have S8 := S7.sx s6 D6
  obtain ⟨st, es⟩ : ∃ st : Nat, 1 + v = (st : Int) := ⟨(1 + v).toNat, by omega⟩
  have st1 : 1 ≤ st := by omega
  have st2 : st < m := by omega
  refine ⟨_, _, rfl, rfl, (by show 0 ≤ sizeLine; decide), fun pi hpi => ⟨(by show 0 ≤ sizeLine; decide), fun pf hpf => ⟨(by show 3 ≤ sizeLine; decide), fun t ht => ⟨t, _, rfl, SqT.of upd_same, rfl, _, _, rfl, _, _, rfl, _, _, rfl, rfl, ?_⟩⟩⟩⟩
  have S9 : Sta Pt (upd (upd (upd H6 pi (.lst [])) pf (.lst [])) t (.tup [V.int (1 + v), .ref pi, .ref pf])) d l cc [(pf, .lst []), (pi, .lst [])] := (((S8.newL (xs := []) hpi).newL (xs := []) hpf).newT (xs := [V.int (1 + v), .ref pi, .ref pf]) ht).tl
  clear S7 S8 s6 D6
  dsimp only
  rw [es] at S9 ⊢
  generalize upd (upd (upd H6 pi (.lst [])) pf (.lst [])) t (.tup [V.int (st : Int), .ref pi, .ref pf]) = H7 at S9 ⊢
  clear hpi hpf ht es v0 v1
  have S10 := Sta.perm S9 (os' := [(pi, .lst []), (pf, .lst [])]) (.swap _ _ _)
  clear S9
  -- items
  refine ⟨_, rfl, _, rfl, _, _, rfl, rfl, _, rfl, _, _, rfl, rfl, _, _, rfl, ⟨by omega, by omega, by omega, by omega⟩, ?_⟩
  refine for_range (lo := -(mo : Int) - 2) (n := ((mo : Int) + 3 - (-(mo : Int) - 2)).toNat) (fun i σ H' => ∃ x9 ts, σ = [x0, some (.ref d), x2, some (.int (m : Int)), some (.int sg), some (.int (mo : Int)), some (.int (st : Int)), some (.ref pi), some (.ref pf), x9, x10, x11, x12, x13, x14, x15, x16] ∧
      ts.length = i ∧ Sta Pt H' d l cc ((pi, .lst (ts.map V.ref)) :: (pf, .lst []) :: zipT ts ((List.range i).map fun j : Nat => (ex3 m st (-((mo + 2 : Nat) : Int) + j), sg3 sg (-((mo + 2 : Nat) : Int) + j))))) ⟨_, [], rfl, rfl, S10⟩ ?_ ?_
  · clear S10
    rintro i σ H8 hi ⟨x9, ts, rfl, hl, S⟩
    obtain ⟨k, ek⟩ : ∃ k : Int, k = -(mo : Int) - 2 + (i : Int) := ⟨_, rfl⟩
    have ek2 : -((mo + 2 : Nat) : Int) + (i : Int) = k := by omega
    rw [← ek]
    have k1 : -200 ≤ k := by omega
    have k2 : k ≤ 200 := by omega
    have er : ((List.range (i + 1)).map fun j : Nat => (ex3 m st (-((mo + 2 : Nat) : Int) + j), sg3 sg (-((mo + 2 : Nat) : Int) + j))) = ((List.range i).map fun j : Nat => (ex3 m st (-((mo + 2 : Nat) : Int) + j), sg3 sg (-((mo + 2 : Nat) : Int) + j))) ++ [(ex3 m st k, sg3 sg k)] := by
      rw [List.range_succ, List.map_append]
      show _ ++ [(ex3 m st (-((mo + 2 : Nat) : Int) + i), sg3 sg (-((mo + 2 : Nat) : Int) + i))] = _
      rw [ek2]
    have hz : ts.length < sizeLine := by
      rw [sizeLine_eq]
      omega
    have hlp : ts.length = ((List.range i).map fun j : Nat => (ex3 m st (-((mo + 2 : Nat) : Int) + j), sg3 sg (-((mo + 2 : Nat) : Int) + j))).length := by rw [List.length_map, List.length_range, hl]
    refine ⟨_, rfl, .inl ⟨rfl, _, SqL.of (S.g 0 rfl)⟩, ?_⟩
    refine ⟨_, rfl, _, rfl, _, _, rfl, rfl, .inl ⟨by omega, by omega⟩, _, rfl, _, _, rfl, rfl, _, _, rfl, rfl, .inr ⟨by omega, by omega⟩, _, _, rfl, rfl, ⟨by decide, by decide⟩, _, rfl, _, rfl, _, _, rfl, rfl, .inl ⟨by omega, by omega⟩, _, _, rfl, rfl, _, rfl, _, _, rfl, rfl, (show (0 : Int) < 2 by decide), rfl, _, rfl, ?_⟩
    by_cases c : k % 2 = 0
    · refine iteT' (decide_eq_true (congrArg V.int c)) (tnC ⟨(by show 2 ≤ sizeLine; decide), fun t ht => ?_⟩)
      have nt : pi ≠ t := ne_of_none (S.g 0 rfl) ht
      refine ⟨pi, _, _, rfl, rfl, (by rw [upd_ne nt]; exact S.g 0 rfl), (by rw [List.length_map]; exact hz), _, ts ++ [t], rfl, by rw [List.length_append, hl]; rfl, ?_⟩
      have z := it_step S hlp ht (ex3 m st k) (sg3 sg k)
      have ev : sg3 sg k = 1 := by
        unfold sg3
        rw [if_neg (by omega)]
      rw [er]
      rw [ev] at z ⊢
      rw [List.map_append] at z ⊢
      exact z
    · refine iteF' (decide_eq_false fun z => c (by injection z)) ⟨_, rfl, (by show 2 ≤ sizeLine; decide), fun t ht => ?_⟩
      have nt : pi ≠ t := ne_of_none (S.g 0 rfl) ht
      refine ⟨pi, _, _, rfl, rfl, (by rw [upd_ne nt]; exact S.g 0 rfl), (by rw [List.length_map]; exact hz), _, ts ++ [t], rfl, by rw [List.length_append, hl]; rfl, ?_⟩
      have z := it_step S hlp ht (ex3 m st k) (sg3 sg k)
      have ev : sg3 sg k = sg := by
        unfold sg3
        rw [if_pos (by omega)]
      rw [er]
      rw [ev] at z ⊢
      rw [List.map_append] at z ⊢
      exact z
  clear S10
  rintro σ H8 ⟨x9', ts, rfl, hl, S⟩
  -- due
  have hlp : ts.length = ((List.range ((mo : Int) + 3 - (-(mo : Int) - 2)).toNat).map fun j : Nat => (ex3 m st (-((mo + 2 : Nat) : Int) + j), sg3 sg (-((mo + 2 : Nat) : Int) + j))).length := by rw [List.length_map, List.length_range, hl]
  refine ⟨_, rfl, _, rfl, pi, mo, ts, _, rfl, by omega, S.g 0 rfl, zip_tups S (fun x hx => List.mem_cons_of_mem _ (List.mem_cons_of_mem _ hx)) hlp, fun du H9 hdu s9 e9 => ?_⟩
  have ed : rowOf (mo + 1) (smP ((List.range ((mo : Int) + 3 - (-(mo : Int) - 2)).toNat).map fun j : Nat => (ex3 m st (-((mo + 2 : Nat) : Int) + j), sg3 sg (-((mo + 2 : Nat) : Int) + j))) ((List.range ((mo : Int) + 3 - (-(mo : Int) - 2)).toNat).map fun j : Nat => (ex3 m st (-((mo + 2 : Nat) : Int) + j), sg3 sg (-((mo + 2 : Nat) : Int) + j))).length) = rowOf (mo + 1) (tsm m st sg (-10) 21) := row_ext fun n hn => by
    rw [smP_range]
    have ec : ((mo : Int) + 3 - (-(mo : Int) - 2)).toNat = 2 * (mo + 2) + 1 := by omega
    rw [ec]
    refine tsm_base (R := mo + 2) st1 st2 (by omega) ?_
    have := Nat.le_mul_of_pos_right (mo + 2 + 1) (show 0 < mo + 2 + 1 by omega)
    omega
  rw [ed] at e9
  have S11 := (S.resL hdu s9 e9).sub (os' := [(du, .lst (rowOf (mo + 1) (tsm m st sg (-10) 21))), (pf, .lst [])]) (.cons₂ _ (.cons _ (.cons₂ _ (List.nil_sublist _))))
  clear S hdu s9 e9 ed hlp hl
  obtain ⟨dS, eS⟩ : ∃ dS : S, dS = tsm m st sg (-10) 21 := ⟨_, rfl⟩
  -- the sum
  refine ⟨fun σ' H' => σ' = [x0, some (.ref d), x2, some (.int (m : Int)), some (.int sg), some (.int (mo : Int)), some (.int (st : Int)), some (.ref pi), some (.ref pf), x9', some (.ref du), x11, x12, x13, x14, x15, x16] ∧ Sta Pt H' d l cc [(du, .lst (rowOf (mo + 1) (tsm m st sg (-10) 21))), (pf, .lst [])], ?_, ?_⟩
  · refine ⟨_, rfl, _, rfl, _, rfl, _, rfl, tn <| use_ts m1 m2 st1 st2 hsg hmo fun r H10 hr s10 h10 => ?_⟩
    have S12 := S11.resL hr s10 h10
    refine ⟨_, rfl, .list (intsD (intsOf (mo + 1) (tsm m st sg (-10) 21))), .list (intsD (intsOf (mo + 1) (tsm m st sg (-10) 21))), .lst (SqL.of (S12.g 0 rfl)) (ints_dp _), .lst (SqL.of (S12.g 1 rfl)) (ints_dp _), ints_shaped _, ints_shaped _, _, rfl, iteF' (eq_no _) ?_⟩
    refine ⟨_, rfl, _, rfl, _, rfl, _, rfl, tn <| use_ts m1 m2 st1 st2 hsg hmo fun r2 H11 hr2 s11 h11 => ?_⟩
    have S13 := S12.resL hr2 s11 h11
    refine ⟨_, rfl, .list (intsD (intsOf (mo + 1) (tsm m st sg (-10) 21))), .list (intsD (intsOf (mo + 1) (tsm m st sg (-10) 21))), .lst (SqL.of (S13.g 0 rfl)) (ints_dp _), .lst (SqL.of (S13.g 2 rfl)) (ints_dp _), ints_shaped _, ints_shaped _, _, rfl, iteF' (eq_no _) ?_⟩
    exact ⟨rfl, S13.tl.tl⟩
  clear S11
  rintro σ1 H10 ⟨rfl, S11⟩
  -- the product, by families
  refine ⟨fun σ' H' => σ' = [x0, some (.ref d), x2, some (.int (m : Int)), some (.int sg), some (.int (mo : Int)), some (.int (st : Int)), some (.ref pi), some (.ref pf), x9', some (.ref du), x11, x12, x13, x14, x15, x16] ∧ Sta Pt H' d l cc [(du, .lst (rowOf (mo + 1) (tsm m st sg (-10) 21))), (pf, .lst [])], ?_, ?_⟩
  · refine ⟨_, rfl, _, rfl, 1, rfl, (by show 3 ≤ sizeLine; decide), fun t1 h1 => ⟨_, rfl, _, rfl, _, _, rfl, rfl, _, rfl, _, rfl, (by show 3 ≤ sizeLine; decide), fun t2 h2 => ⟨_, rfl, _, rfl, _, rfl, (by show 3 ≤ sizeLine; decide), fun t3 h3 => ⟨(by show 3 ≤ sizeLine; decide), fun lf hlf => ⟨_, rfl, ?_⟩⟩⟩⟩⟩
    have S12 := (((S11.newT (xs := [V.int (m : Int), V.int (m : Int), V.int (-1)]) h1).newT (xs := [V.int ((m : Int) - (st : Int)), V.int (m : Int), V.int sg]) h2).newT (xs := [V.int (st : Int), V.int (m : Int), V.int sg]) h3).newL (xs := [.ref t1, .ref t2, .ref t3]) hlf
    have em : (m : Int) - (st : Int) = ((m - st : Nat) : Int) := by omega
    have T : Tups _ [t1, t2, t3] ([(m, m, -1), (m - st, m, sg), (st, m, sg)].map fun f : Nat × Nat × Int => [V.int (f.1 : Int), V.int (f.2.1 : Int), V.int f.2.2]) := ⟨rfl, fun i t x a1 a2 => by
      match i with
      | 0 =>
        cases a1
        cases a2
        exact S12.g 3 rfl
      | 1 =>
        cases a1
        cases a2
        have z := S12.g 2 rfl
        refine z.trans ?_
        show some (HO.tup [V.int ((m : Int) - (st : Int)), V.int (m : Int), V.int sg]) = some (HO.tup [V.int ((m - st : Nat) : Int), V.int (m : Int), V.int sg])
        rw [em]
      | 2 =>
        cases a1
        cases a2
        exact S12.g 1 rfl
      | i + 3 => cases a1⟩
    refine tn <| ⟨lf, mo, [t1, t2, t3], [(m, m, -1), (m - st, m, sg), (st, m, sg)], rfl, by omega, S12.g 0 rfl, T, fun f hf => ?_, fun r H11 hr s11 h11 => ?_⟩
    · simp only [List.mem_cons, List.not_mem_nil, or_false] at hf
      rcases hf with rfl | rfl | rfl
      · exact ⟨by show 1 ≤ m; omega, .inr rfl⟩
      · exact ⟨by show 1 ≤ m; omega, hsg⟩
      · exact ⟨by show 1 ≤ m; omega, hsg⟩
    have S13 := S12.resL hr s11 h11
    have er : rowOf (mo + 1) (prF (fun e st => upN e (mo + 1) st) [(m, m, -1), (m - st, m, sg), (st, m, sg)] [(m, m, -1), (m - st, m, sg), (st, m, sg)].length) = rowOf (mo + 1) (tsm m st sg (-10) 21) := row_ext fun n hn => by
      refine (pr3 st1 st2 n hn).trans (triple_eq m1 m2 st1 st2 hsg (by omega) ?_)
      have := Nat.le_mul_of_pos_right (mo + 1) (show 0 < m by omega)
      omega
    rw [er] at S13
    refine ⟨_, rfl, .list (intsD (intsOf (mo + 1) (tsm m st sg (-10) 21))), .list (intsD (intsOf (mo + 1) (tsm m st sg (-10) 21))), .lst (SqL.of (S13.g 0 rfl)) (ints_dp _), .lst (SqL.of (S13.g 5 rfl)) (ints_dp _), ints_shaped _, ints_shaped _, _, rfl, iteF' (eq_no _) ?_⟩
    exact ⟨rfl, S13.tl.tl.tl.tl.tl⟩
  clear S11
  rintro σ1 H11 ⟨rfl, S11⟩
  -- the product, by powers
  refine ⟨fun σ' H' => σ' = [x0, some (.ref d), x2, some (.int (m : Int)), some (.int sg), some (.int (mo : Int)), some (.int (st : Int)), some (.ref pi), some (.ref pf), x9', some (.ref du), x11, x12, x13, x14, x15, x16] ∧ Sta Pt H' d l cc [(du, .lst (rowOf (mo + 1) (tsm m st sg (-10) 21))), (pf, .lst [])], ?_, ?_⟩
  · refine ⟨_, rfl, _, rfl, _, rfl, _, rfl, tn <| use_tp m1 m2 st1 st2 hsg hmo fun r H10 hr s10 h10 => ?_⟩
    have S12 := S11.resL hr s10 h10
    refine ⟨_, rfl, .list (intsD (intsOf (mo + 1) (tsm m st sg (-10) 21))), .list (intsD (intsOf (mo + 1) (tsm m st sg (-10) 21))), .lst (SqL.of (S12.g 0 rfl)) (ints_dp _), .lst (SqL.of (S12.g 1 rfl)) (ints_dp _), ints_shaped _, ints_shaped _, _, rfl, iteF' (eq_no _) ?_⟩
    refine ⟨_, rfl, _, rfl, _, rfl, _, rfl, tn <| use_tp m1 m2 st1 st2 hsg hmo fun r2 H11 hr2 s11 h11 => ?_⟩
    have S13 := S12.resL hr2 s11 h11
    refine ⟨_, rfl, .list (intsD (intsOf (mo + 1) (tsm m st sg (-10) 21))), .list (intsD (intsOf (mo + 1) (tsm m st sg (-10) 21))), .lst (SqL.of (S13.g 0 rfl)) (ints_dp _), .lst (SqL.of (S13.g 2 rfl)) (ints_dp _), ints_shaped _, ints_shaped _, _, rfl, iteF' (eq_no _) ?_⟩
    exact ⟨rfl, S13.tl.tl⟩
  clear S11
  rintro σ1 H12 ⟨rfl, S11⟩
  -- 2 s >= m
  refine ⟨fun σ' H' => 2 * st < m ∧ σ' = [x0, some (.ref d), x2, some (.int (m : Int)), some (.int sg), some (.int (mo : Int)), some (.int (st : Int)), some (.ref pi), some (.ref pf), x9', some (.ref du), x11, x12, x13, x14, x15, x16] ∧ Sta Pt H' d l cc [(pf, .lst []), (du, .lst (rowOf (mo + 1) (tsm m st sg (-10) 21)))], ?_, ?_⟩
  · refine ⟨_, rfl, _, _, rfl, rfl, .inl ⟨by decide, by decide⟩, _, rfl, _, _, rfl, rfl, _, rfl, ?_⟩
    by_cases c : m ≤ 2 * st
    · refine iteT' (decide_eq_true (by omega)) ?_
      refine ⟨fun σ' H' => σ' = [x0, some (.ref d), x2, some (.int (m : Int)), some (.int sg), some (.int (mo : Int)), some (.int (st : Int)), some (.ref pi), some (.ref pf), x9', some (.ref du), x11, x12, x13, x14, x15, x16] ∧ Sta Pt H' d l cc [], ?_, ?_⟩
      · refine ⟨S11.tb, fun H14 eN T14 => ?_⟩
        have S12 := S11.ext eN T14
        refine ⟨_, rfl, _, rfl, tn0 <| qs_bad c ⟨M.E_BadStep.m, fun a ha => ?_⟩⟩
        refine ⟨a, M.a_BadStep, none, _, _, _, rfl, .inl ⟨rfl, upd_same⟩, M.E_BadStep.e, fun u r => r, M.E_BadStep.i, ?_⟩
        have S13 := (S12.same (same_new (o := ErX (.ref M.a_BadStep) none a) ha)).sub (os' := []) (List.nil_sublist _)
        exact ⟨_, rfl, iteF ⟨rfl, S13⟩⟩
      · rintro σ2 H13 ⟨rfl, S12⟩
        exact (fin _ _ ⟨_, _, _, _, _, _, _, _, _, _, _, _, _, _, _, _, rfl⟩ S12).2
    · exact iteF' (decide_eq_false (by omega)) ⟨by omega, rfl, Sta.perm S11 (.swap _ _ _)⟩
  clear S11
  rintro σ1 H13 ⟨st3, rfl, S11⟩
  -- fives
  refine ⟨_, rfl, _, rfl, _, _, rfl, rfl, _, rfl, _, _, rfl, rfl, _, _, rfl, ⟨by omega, by omega, by omega, by omega⟩, ?_⟩
  obtain ⟨dv, edv⟩ : ∃ dv, dv = HO.lst (rowOf (mo + 1) (tsm m st sg (-10) 21)) := ⟨_, rfl⟩
  rw [← edv] at S11
  refine for_range (lo := -(mo : Int) - 2) (n := ((mo : Int) + 3 - (-(mo : Int) - 2)).toNat) (fun i σ H' => ∃ x9 x11 ts, σ = [x0, some (.ref d), x2, some (.int (m : Int)), some (.int sg), some (.int (mo : Int)), some (.int (st : Int)), some (.ref pi), some (.ref pf), x9, some (.ref du), x11, x12, x13, x14, x15, x16] ∧
      ts.length = 2 * i ∧ Sta Pt H' d l cc ((pf, .lst (ts.map V.ref)) :: (du, dv) :: zipT ts ((List.range (2 * i)).map (f5at m st (-((mo + 2 : Nat) : Int)))))) ⟨_, _, [], rfl, rfl, S11⟩ ?_ ?_
  · clear S11
    rintro i σ H8 hi ⟨x9, x11', ts, rfl, hl, S⟩
    obtain ⟨k, ek⟩ : ∃ k : Int, k = -(mo : Int) - 2 + (i : Int) := ⟨_, rfl⟩
    have ek2 : -((mo + 2 : Nat) : Int) + (i : Int) = k := by omega
    rw [← ek]
    have k1 : -200 ≤ k := by omega
    have k2 : k ≤ 200 := by omega
    have er : (List.range (2 * (i + 1))).map (f5at m st (-((mo + 2 : Nat) : Int))) = ((List.range (2 * i)).map (f5at m st (-((mo + 2 : Nat) : Int))) ++ [(ea5 m st k, 1)]) ++ [(eb5 m st k, -1)] := by
      have e : 2 * (i + 1) = 2 * i + 1 + 1 := by omega
      rw [e, List.range_succ, List.range_succ, List.map_append, List.map_append]
      show _ ++ [f5at m st _ (2 * i)] ++ [f5at m st _ (2 * i + 1)] = _
      rw [f5_even, f5_odd, ek2]
    have hlp : ts.length = ((List.range (2 * i)).map (f5at m st (-((mo + 2 : Nat) : Int)))).length := by rw [List.length_map, List.length_range, hl]
    refine ⟨_, rfl, _, rfl, _, _, rfl, rfl, .inl ⟨by omega, by omega⟩, _, rfl, _, _, rfl, rfl, .inl ⟨by decide, by decide⟩, _, _, rfl, rfl, _, _, rfl, rfl, .inr ⟨by omega, by omega⟩, _, _, rfl, rfl, ⟨by decide, by decide⟩, ?_⟩
    refine ⟨_, rfl, .inl ⟨rfl, _, SqL.of (S.g 0 rfl)⟩, ?_⟩
    refine ⟨_, rfl, _, rfl, _, _, rfl, rfl, .inl ⟨by decide, by decide⟩, _, rfl, _, _, rfl, rfl, .inr ⟨by omega, by omega⟩, _, _, rfl, rfl, (by show 2 ≤ sizeLine; decide), fun t ht => ?_⟩
    have nt : pf ≠ t := ne_of_none (S.g 0 rfl) ht
    refine ⟨pf, _, _, rfl, rfl, (by rw [upd_ne nt]; exact S.g 0 rfl), (by rw [List.length_map, sizeLine_eq]; omega), ?_⟩
    have z := it_step S hlp ht (ea5 m st k) 1
    have zl : (ts ++ [t]).length = ((List.range (2 * i)).map (f5at m st (-((mo + 2 : Nat) : Int))) ++ [(ea5 m st k, 1)]).length := by rw [List.length_append, List.length_append, hlp]; rfl
    rw [List.map_append] at z
    refine ⟨_, rfl, .inl ⟨rfl, _, SqL.of (z.g 0 rfl)⟩, ?_⟩
    refine ⟨_, rfl, _, rfl, _, _, rfl, rfl, .inl ⟨by decide, by decide⟩, _, _, rfl, rfl, _, rfl, _, _, rfl, rfl, .inr ⟨by omega, by omega⟩, _, _, rfl, rfl, 1, rfl, (by show 2 ≤ sizeLine; decide), fun t2 ht2 => ?_⟩
    have nt2 : pf ≠ t2 := ne_of_none (z.g 0 rfl) ht2
    refine ⟨pf, _, _, rfl, rfl, (by rw [upd_ne nt2]; exact z.g 0 rfl), (by rw [List.length_append, List.length_map, sizeLine_eq]; show ts.length + 1 < _; omega), ?_⟩
    rw [← List.map_append] at z
    have ht3 : (upd (upd H8 t (.tup [V.int (ea5 m st k), V.int 1])) pf (.lst ((ts ++ [t]).map V.ref))) t2 = none := by
      rw [List.map_append]
      exact ht2
    have z2 := it_step z zl ht3 (eb5 m st k) (-1)
    refine ⟨_, _, ts ++ [t] ++ [t2], rfl, by rw [List.length_append, List.length_append, hl]; show 2 * i + 1 + 1 = _; omega, ?_⟩
    rw [er]
    rw [List.map_append (l₁ := ts ++ [t]), List.map_append (l₁ := ts)] at z2 ⊢
    exact z2
  clear S11
  rintro σ H14 ⟨x9', x11', ts, rfl, hl, S⟩
  have hlp : ts.length = ((List.range (2 * ((mo : Int) + 3 - (-(mo : Int) - 2)).toNat)).map (f5at m st (-((mo + 2 : Nat) : Int)))).length := by rw [List.length_map, List.length_range, hl]
  refine ⟨_, rfl, _, rfl, pf, mo, ts, _, rfl, by omega, S.g 0 rfl, zip_tups S (fun x hx => List.mem_cons_of_mem _ (List.mem_cons_of_mem _ hx)) hlp, fun d5 H15 hd5 s15 e15 => ?_⟩
  have ed : rowOf (mo + 1) (smP ((List.range (2 * ((mo : Int) + 3 - (-(mo : Int) - 2)).toNat)).map (f5at m st (-((mo + 2 : Nat) : Int)))) ((List.range (2 * ((mo : Int) + 3 - (-(mo : Int) - 2)).toNat)).map (f5at m st (-((mo + 2 : Nat) : Int)))).length) = rowOf (mo + 1) (qsm m st (-10) 21) := row_ext fun n hn => by
    rw [smP_five]
    have ec : ((mo : Int) + 3 - (-(mo : Int) - 2)).toNat = 2 * (mo + 2) + 1 := by omega
    rw [ec]
    refine qsm_base (R := mo + 2) st1 st3 (by omega) ?_
    have := Nat.le_mul_of_pos_right (mo + 2 + 1) (show 0 < mo + 2 + 1 by omega)
    omega
  rw [ed] at e15
  have S12 := (S.resL hd5 s15 e15).sub (os' := [(d5, .lst (rowOf (mo + 1) (qsm m st (-10) 21)))]) (.cons₂ _ (List.nil_sublist _))
  clear S hd5 s15 e15 ed hlp hl
  -- factors
  refine ⟨_, rfl, _, rfl, 1, rfl, (by show 3 ≤ sizeLine; decide), fun t1 h1 => ⟨_, rfl, _, rfl, _, _, rfl, rfl, _, rfl, 1, rfl, (by show 3 ≤ sizeLine; decide), fun t2 h2 => ⟨_, rfl, _, rfl, 1, rfl, (by show 3 ≤ sizeLine; decide), fun t3 h3 =>
    ⟨_, rfl, _, rfl, _, _, rfl, rfl, .inl ⟨by decide, by decide⟩, _, _, rfl, rfl, _, rfl, _, _, rfl, rfl, .inl ⟨by decide, by decide⟩, 1, rfl, (by show 3 ≤ sizeLine; decide), fun t4 h4 => ⟨_, rfl, _, rfl, _, _, rfl, rfl, .inl ⟨by decide, by decide⟩, _, _, rfl, rfl, _, rfl, _, _, rfl, rfl, .inl ⟨by decide, by decide⟩, 1, rfl, (by show 3 ≤ sizeLine; decide), fun t5 h5 => ⟨(by show 5 ≤ sizeLine; decide), fun lf hlf => ?_⟩⟩⟩⟩⟩⟩
  have S13 := (((((S12.newT (xs := [V.int (m : Int), V.int (m : Int), V.int (-1)]) h1).newT (xs := [V.int ((m : Int) - (st : Int)), V.int (m : Int), V.int (-1)]) h2).newT (xs := [V.int (st : Int), V.int (m : Int), V.int (-1)]) h3).newT (xs := [V.int ((m : Int) - 2 * (st : Int)), V.int (2 * (m : Int)), V.int (-1)]) h4).newT (xs := [V.int ((m : Int) + 2 * (st : Int)), V.int (2 * (m : Int)), V.int (-1)]) h5).newL (xs := [.ref t1, .ref t2, .ref t3, .ref t4, .ref t5]) hlf
  have T : Tups _ [t1, t2, t3, t4, t5] ([(m, m, -1), (m - st, m, -1), (st, m, -1), (m - 2 * st, 2 * m, -1), (m + 2 * st, 2 * m, -1)].map fun f : Nat × Nat × Int => [V.int (f.1 : Int), V.int (f.2.1 : Int), V.int f.2.2]) := ⟨rfl, fun i t x a1 a2 => by
    match i with
    | 0 =>
      cases a1
      cases a2
      exact S13.g 5 rfl
    | 1 =>
      cases a1
      cases a2
      refine (S13.g 4 rfl).trans ?_
      show some (HO.tup [V.int ((m : Int) - (st : Int)), V.int (m : Int), V.int (-1)]) = some (HO.tup [V.int ((m - st : Nat) : Int), V.int (m : Int), V.int (-1)])
      rw [show (m : Int) - (st : Int) = ((m - st : Nat) : Int) by omega]
    | 2 =>
      cases a1
      cases a2
      exact S13.g 3 rfl
    | 3 =>
      cases a1
      cases a2
      refine (S13.g 2 rfl).trans ?_
      show some (HO.tup [V.int ((m : Int) - 2 * (st : Int)), V.int (2 * (m : Int)), V.int (-1)]) = some (HO.tup [V.int ((m - 2 * st : Nat) : Int), V.int ((2 * m : Nat) : Int), V.int (-1)])
      rw [show (m : Int) - 2 * (st : Int) = ((m - 2 * st : Nat) : Int) by omega, show 2 * (m : Int) = ((2 * m : Nat) : Int) by omega]
    | 4 =>
      cases a1
      cases a2
      refine (S13.g 1 rfl).trans ?_
      show some (HO.tup [V.int ((m : Int) + 2 * (st : Int)), V.int (2 * (m : Int)), V.int (-1)]) = some (HO.tup [V.int ((m + 2 * st : Nat) : Int), V.int ((2 * m : Nat) : Int), V.int (-1)])
      rw [show (m : Int) + 2 * (st : Int) = ((m + 2 * st : Nat) : Int) by omega, show 2 * (m : Int) = ((2 * m : Nat) : Int) by omega]
    | i + 5 => cases a1⟩
  refine ⟨_, rfl, _, rfl, tn <| ⟨lf, mo, [t1, t2, t3, t4, t5], [(m, m, -1), (m - st, m, -1), (st, m, -1), (m - 2 * st, 2 * m, -1), (m + 2 * st, 2 * m, -1)], rfl, by omega, S13.g 0 rfl, T, fun f hf => ?_, fun r H16 hr s16 h16 => ?_⟩⟩
  · simp only [List.mem_cons, List.not_mem_nil, or_false] at hf
    rcases hf with rfl | rfl | rfl | rfl | rfl
    · exact ⟨by show 1 ≤ m; omega, .inr rfl⟩
    · exact ⟨by show 1 ≤ m; omega, .inr rfl⟩
    · exact ⟨by show 1 ≤ m; omega, .inr rfl⟩
    · exact ⟨by show 1 ≤ 2 * m; omega, .inr rfl⟩
    · exact ⟨by show 1 ≤ 2 * m; omega, .inr rfl⟩
  have S14 := S13.resL hr s16 h16
  have er : rowOf (mo + 1) (prF (fun e st => upN e (mo + 1) st) [(m, m, -1), (m - st, m, -1), (st, m, -1), (m - 2 * st, 2 * m, -1), (m + 2 * st, 2 * m, -1)] [(m, m, -1), (m - st, m, -1), (st, m, -1), (m - 2 * st, 2 * m, -1), (m + 2 * st, 2 * m, (-1 : Int))].length) = rowOf (mo + 1) (qsm m st (-10) 21) := row_ext fun n hn => by
    refine (pr5 st1 st3 n hn).trans (quint_eq m2 st1 st3 (by omega) ?_)
    have := Nat.le_mul_of_pos_right (mo + 1) (show 0 < m by omega)
    omega
  rw [er] at S14
  refine ⟨_, rfl, .list (intsD (intsOf (mo + 1) (qsm m st (-10) 21))), .list (intsD (intsOf (mo + 1) (qsm m st (-10) 21))), .lst (SqL.of (S14.g 0 rfl)) (ints_dp _), .lst (SqL.of (S14.g 7 rfl)) (ints_dp _), ints_shaped _, ints_shaped _, _, rfl, iteF' (eq_no _) ?_⟩
  refine ⟨_, rfl, _, rfl, _, rfl, tn <| use_qs m2 st1 st3 hmo fun r2 H17 hr2 s17 h17 => ?_⟩
  have S15 := S14.resL hr2 s17 h17
  refine ⟨_, rfl, .list (intsD (intsOf (mo + 1) (qsm m st (-10) 21))), .list (intsD (intsOf (mo + 1) (qsm m st (-10) 21))), .lst (SqL.of (S15.g 0 rfl)) (ints_dp _), .lst (SqL.of (S15.g 8 rfl)) (ints_dp _), ints_shaped _, ints_shaped _, _, rfl, iteF' (eq_no _) ?_⟩
  refine ⟨_, rfl, _, rfl, _, rfl, tn <| use_qp m2 st1 st3 hmo fun r3 H18 hr3 s18 h18 => ?_⟩
  have S16 := S15.resL hr3 s18 h18
  refine ⟨_, rfl, .list (intsD (intsOf (mo + 1) (qsm m st (-10) 21))), .list (intsD (intsOf (mo + 1) (qsm m st (-10) 21))), .lst (SqL.of (S16.g 0 rfl)) (ints_dp _), .lst (SqL.of (S16.g 9 rfl)) (ints_dp _), ints_shaped _, ints_shaped _, _, rfl, iteF' (eq_no _) ?_⟩
  exact (fin _ _ ⟨_, _, _, _, _, _, _, _, _, _, _, _, _, _, _, _, rfl⟩ (S16.sub (List.nil_sublist _))).1
end
end K03

set_option Elab.async false
set_option linter.all false
set_option maxRecDepth 100000
set_option maxHeartbeats 4000000
set_option pp.maxSteps 3000
set_option exponentiation.threshold 500000
namespace K03
open PySem PySem.Spec PyProof.Rows L2 Dr Xv LamX Ps Gn
abbrev tailB : List Stmt := (defBody s_law).drop 2
section
variable {H : Hp} {cS cN cM : Addr} {Q : VK} {E : XK} {x y z v : V}
theorem use_lr {a : Addr} (h : H a = some (.dK [(.inl 1, .int 1)])) (k : ∀ (p : Addr) (H' : Hp), H p = none → Same H H' → H' p = some (.lst (rowOf 31 E30)) → Q (.ref p) H') : sp__law_row [.ref a, .int 30] H Q E := ⟨a, rfl, h, k⟩
theorem ts_step (px : PV H x) (py : PV H y) (pz : PV H z) (pv : PV H v) (h : okSt x y = false) (q : E (.ref cS) none H) : sp_triple_sum cS cN cM [x, y, z, v] H Q E :=
  ⟨_, _, _, _, rfl, px, py, pz, pv, fun _ => q, fun a => (by rw [h] at a; cases a), fun a => (by rw [h] at a; cases a), fun m s mo sg e1 e2 _ _ h1 h2 h3 h4 => (by
    rw [e1, e2, okSt_yes h1 h2 h3 h4] at h
    cases h)⟩
theorem ts_sign (px : PV H x) (py : PV H y) (pz : PV H z) (pv : PV H v) (h0 : okSt x y = true) (h : okSg z = false) (q : ∀ H', Same H H' → E (.ref cN) none H') : sp_triple_sum cS cN cM [x, y, z, v] H Q E :=
  ⟨_, _, _, _, rfl, px, py, pz, pv, fun a => (by rw [h0] at a; cases a), fun _ _ => q, fun _ a => (by rw [h] at a; cases a), fun m s mo sg _ _ e3 _ _ _ _ _ h5 => (by
    have : okSg (.int sg) = true := decide_eq_true h5
    rw [e3, this] at h
    cases h)⟩
theorem tp_step (px : PV H x) (py : PV H y) (pz : PV H z) (pv : PV H v) (h : okSt x y = false) (q : E (.ref cS) none H) : sp_triple_product cS cN cM [x, y, z, v] H Q E :=
  ⟨_, _, _, _, rfl, px, py, pz, pv, fun _ => q, fun a => (by rw [h] at a; cases a), fun a => (by rw [h] at a; cases a), fun m s mo sg _ _ _ _ a => (by rw [h] at a; cases a)⟩
theorem tp_most (px : PV H x) (py : PV H y) (pz : PV H z) (pv : PV H v) (h0 : okSt x y = true) (h1 : okSg z = true) (h : within v 0 3000 = false) (q : ∀ H', Same H H' → E (.ref cM) none H') : sp_triple_product cS cN cM [x, y, z, v] H Q E :=
  ⟨_, _, _, _, rfl, px, py, pz, pv, fun a => (by rw [h0] at a; cases a), fun _ a => (by rw [h1] at a; cases a), fun _ _ _ => q, fun m s mo sg _ _ _ _ _ _ a => (by rw [h] at a; cases a)⟩
theorem qp_step (px : PV H x) (py : PV H y) (pv : PV H v) (h : okHs x y = false) (q : E (.ref cS) none H) : sp_quintuple_product cS cM [x, y, v] H Q E :=
  ⟨_, _, _, rfl, px, py, pv, fun _ => q, fun a => (by rw [h] at a; cases a), fun m s mo _ _ _ a => (by rw [h] at a; cases a)⟩
theorem qs_most (px : PV H x) (py : PV H y) (pv : PV H v) (h0 : okHs x y = true) (h : within v 0 3000 = false) (q : E (.ref cM) none H) : sp_quintuple_sum cS cM [x, y, v] H Q E :=
  ⟨_, _, _, rfl, px, py, pv, fun a => (by rw [h0] at a; cases a), fun _ _ => q, fun m s mo _ _ e4 _ _ _ h5 => (by
    rw [e4, within_yes (by omega) (by omega)] at h
    cases h)⟩
end
section
variable {P : Program} {w : World} {K : PySem.W.Frag} {mg : Str → Option Value} {base : Heap} {f c Pt : Addr} {A : Around} {outer : List Env} {s : Shared} {H : Hp} {E : XK}
theorem tail_ok (M : Mod P w K mg base) (TB : TabB base mg c Pt) (hr : Room 9 (XL P w K mg base f c A outer s H E).A) :
    ∃ t, PSs (XL P w K mg base f c A outer s H E) tailB t ∧ ∀ (D : Ends) (σ : L2.St) (H0 : Hp) (d l cc : Addr), Slots d σ → Sta Pt H0 d l cc [] → (∀ H', D.rt (.bl true) H') → t D σ H0 := by
  have hrL : Room 9 (XL P w K mg base f c A outer s H E).A := hr
  have hx : ∀ {X : Cx}, Passes (L2.CX X.prog X.w) X (fun _ _ _ => False) := fun {X} => passes_call L2.takes0 (fun _ _ _ _ z => z)
  have hu := hu_of hr
  refine ⟨_, (C8.pss_cut (ps_if (pt_cmpR (op_neD hr.units) (pe_call (ok_triple_sum M) (hr.mono (by decide)) rfl M.g_triple_sum M.k_triple_sum M.b_triple_sum .nil hx (pa_cons pe_int (pa_cons pe_int (pa_cons (pe_un un_neg pe_int) (pa_cons pe_int pa_nil))))) (pe_call (ok__law_row M) (hr.mono (by decide)) rfl M.g__law_row M.k__law_row M.b__law_row .nil pass0 (pa_cons (pe_disp (pps_cons pe_int pe_int pps_nil) (by rfl) (by rfl) (fun z => by cases z) (by decide)) (pa_cons pe_int pa_nil))) (nomark _)) 
        (pss_one (ps_ret pe_bl)) pss_nil)
      (pss_cons (ps_asg (pe_tup (pa_cons (pe_call (ok__law_pick M) (hr.mono (by decide)) rfl M.g__law_pick M.k__law_pick M.b__law_pick .nil pass0 (pa_cons (pv 1) (pa_cons (pe_lst (pa_cons pe_non (pa_cons pe_int (pa_cons pe_int (pa_cons pe_bl pa_nil))))) pa_nil))) (pa_cons (pe_call (ok__law_pick M) (hr.mono (by decide)) rfl M.g__law_pick M.k__law_pick M.b__law_pick .nil pass0 (pa_cons (pv 1) (pa_cons (pe_lst (pa_cons pe_non (pa_cons pe_int (pa_cons pe_int (pa_cons (pe_un un_neg pe_int) (pa_cons pe_bl pa_nil)))))) pa_nil))) pa_nil))) (pg_tup rfl (pgs_cons (pg_name (i := 13) sc_law.nd rfl (Or.inr rfl)) (pgs_cons (pg_name (i := 14) sc_law.nd rfl (Or.inr rfl)) pgs_nil))))
      (pss_cons (ps_set (i := 15) sc_law.nd rfl (Or.inr rfl) (pe_call (ok__law_pick M) (hr.mono (by decide)) rfl M.g__law_pick M.k__law_pick M.b__law_pick .nil pass0 (pa_cons (pv 1) (pa_cons (pe_lst (pa_cons pe_non (pa_cons (pe_un un_neg pe_int) (pa_cons pe_int (pa_cons pe_bl pa_nil))))) pa_nil))))
      (pss_cons (ps_set (i := 16) sc_law.nd rfl (Or.inl rfl) (pe_lst (pa_cons (pe_callB call_isC (by rfl) M.isinstance0 boot_isinstance (pa_cons (pe_law (t := fun E' => (tCall (sp_triple_sum M.a_BadStep M.a_BadNumber M.a_BadMost) [] E' (tCons (tVar 13) (tCons (tC (.int 1)) (tCons (tVar 14) (tCons (tVar 15) tNil)))))) M TB hrL (by decide +kernel) rfl
          (fun A' outer' s' H' E' f' c' hr' => (pe_call (ok_triple_sum M) (hr'.mono (by decide)) rfl M.g_triple_sum M.k_triple_sum M.b_triple_sum .nil (passes_call (takes_of rfl rfl rfl rfl) (fun _ _ _ _ h => h)) (pa_cons (pv 13) (pa_cons pe_int (pa_cons (pv 14) (pa_cons (pv 15) pa_nil))))))) (pa_cons (pe_glob (v := .ref M.a_BadStep) rfl M.g_BadStep rfl) pa_nil))) pa_nil)))
      (pss_cons (ps_expr (pe_bm PySem.F.plainAttrs_list PySem.F.slot_list_append PySem.F.type_list_append mt_append (pv 16) (pa_cons (pe_callB call_isC (by rfl) M.isinstance0 boot_isinstance (pa_cons (pe_law (t := fun E' => (tCall (sp_triple_product M.a_BadStep M.a_BadNumber M.a_BadMost) [] E' (tCons (tC (.int 5)) (tCons (tCall (spPick K) [] E' (tCons (tVar 1) (tCons (tLst (tCons (tC (.int 0)) (tCons (tC (.int 5)) (tCons (tC .non) tNil)))) tNil))) (tCons (tVar 14) (tCons (tVar 15) tNil)))))) M TB hrL (by decide +kernel) rfl
          (fun A' outer' s' H' E' f' c' hr' => (pe_call (ok_triple_product M) (hr'.mono (by decide)) rfl M.g_triple_product M.k_triple_product M.b_triple_product .nil (passes_call (takes_of rfl rfl rfl rfl) (fun _ _ _ _ h => h)) (pa_cons pe_int (pa_cons (pe_call (ok__law_pick M) (hr'.mono (by decide)) rfl M.g__law_pick M.k__law_pick M.b__law_pick .nil pass0 (pa_cons (pv 1) (pa_cons (pe_lst (pa_cons pe_int (pa_cons pe_int (pa_cons pe_non pa_nil)))) pa_nil))) (pa_cons (pv 14) (pa_cons (pv 15) pa_nil))))))) (pa_cons (pe_glob (v := .ref M.a_BadStep) rfl M.g_BadStep rfl) pa_nil))) pa_nil)))
      (pss_cons (ps_expr (pe_bm PySem.F.plainAttrs_list PySem.F.slot_list_append PySem.F.type_list_append mt_append (pv 16) (pa_cons (pe_callB call_isC (by rfl) M.isinstance0 boot_isinstance (pa_cons (pe_law (t := fun E' => (tCall (sp_triple_sum M.a_BadStep M.a_BadNumber M.a_BadMost) [] E' (tCons (tC (.int 5)) (tCons (tC (.int 1)) (tCons (tVar 14) (tCons (tVar 15) tNil)))))) M TB hrL (by decide +kernel) rfl
          (fun A' outer' s' H' E' f' c' hr' => (pe_call (ok_triple_sum M) (hr'.mono (by decide)) rfl M.g_triple_sum M.k_triple_sum M.b_triple_sum .nil (passes_call (takes_of rfl rfl rfl rfl) (fun _ _ _ _ h => h)) (pa_cons pe_int (pa_cons pe_int (pa_cons (pv 14) (pa_cons (pv 15) pa_nil))))))) (pa_cons (pe_glob (v := .ref M.a_BadNumber) rfl M.g_BadNumber rfl) pa_nil))) pa_nil)))
      (pss_cons (ps_expr (pe_bm PySem.F.plainAttrs_list PySem.F.slot_list_append PySem.F.type_list_append mt_append (pv 16) (pa_cons (pe_callB call_isC (by rfl) M.isinstance0 boot_isinstance (pa_cons (pe_law (t := fun E' => (tCall (sp_triple_product M.a_BadStep M.a_BadNumber M.a_BadMost) [] E' (tCons (tC (.int 5)) (tCons (tC (.int 1)) (tCons (tC (.int 1)) (tCons (tVar 15) tNil)))))) M TB hrL (by decide +kernel) rfl
          (fun A' outer' s' H' E' f' c' hr' => (pe_call (ok_triple_product M) (hr'.mono (by decide)) rfl M.g_triple_product M.k_triple_product M.b_triple_product .nil (passes_call (takes_of rfl rfl rfl rfl) (fun _ _ _ _ h => h)) (pa_cons pe_int (pa_cons pe_int (pa_cons pe_int (pa_cons (pv 15) pa_nil))))))) (pa_cons (pe_glob (v := .ref M.a_BadMost) rfl M.g_BadMost rfl) pa_nil))) pa_nil)))
      (pss_cons (ps_expr (pe_bm PySem.F.plainAttrs_list PySem.F.slot_list_append PySem.F.type_list_append mt_append (pv 16) (pa_cons (pe_callB call_isC (by rfl) M.isinstance0 boot_isinstance (pa_cons (pe_law (t := fun E' => (tCall (sp_quintuple_product M.a_BadStep M.a_BadMost) [] E' (tCons (tVar 13) (tCons (tC (.int 1)) (tCons (tVar 15) tNil))))) M TB hrL (by decide +kernel) rfl
          (fun A' outer' s' H' E' f' c' hr' => (pe_call (ok_quintuple_product M) (hr'.mono (by decide)) rfl M.g_quintuple_product M.k_quintuple_product M.b_quintuple_product .nil (passes_call (takes_of rfl rfl rfl rfl) (fun _ _ _ _ h => h)) (pa_cons (pv 13) (pa_cons pe_int (pa_cons (pv 15) pa_nil)))))) (pa_cons (pe_glob (v := .ref M.a_BadStep) rfl M.g_BadStep rfl) pa_nil))) pa_nil)))
      (pss_cons (ps_expr (pe_bm PySem.F.plainAttrs_list PySem.F.slot_list_append PySem.F.type_list_append mt_append (pv 16) (pa_cons (pe_callB call_isC (by rfl) M.isinstance0 boot_isinstance (pa_cons (pe_law (t := fun E' => (tCall (sp_quintuple_sum M.a_BadStep M.a_BadMost) [] E' (tCons (tC (.int 5)) (tCons (tC (.int 2)) (tCons (tVar 15) tNil))))) M TB hrL (by decide +kernel) rfl
          (fun A' outer' s' H' E' f' c' hr' => (pe_call (ok_quintuple_sum M) (hr'.mono (by decide)) rfl M.g_quintuple_sum M.k_quintuple_sum M.b_quintuple_sum .nil (passes_call (takes_of rfl rfl rfl rfl) (fun _ _ _ _ h => h)) (pa_cons pe_int (pa_cons pe_int (pa_cons (pv 15) pa_nil)))))) (pa_cons (pe_glob (v := .ref M.a_BadMost) rfl M.g_BadMost rfl) pa_nil))) pa_nil)))
      (pss_one (ps_ret (pe_cmpR op_notIn_seq pe_bl (pv 16) (by rfl))))))))))))), ?_⟩
  rintro D σ H0 d l cc ⟨x0, x2, x3, x4, x5, x6, x7, x8, x9, x10, x11, x12, x13, x14, x15, x16, rfl⟩ S0 q
  -- a row
  refine ⟨fun σ' H' => σ' = [x0, some (.ref d), x2, x3, x4, x5, x6, x7, x8, x9, x10, x11, x12, x13, x14, x15, x16] ∧ Sta Pt H' d l cc [], ?_, ?_⟩
  · refine ⟨1, rfl, tnC (tn <| use_ts (m := 3) (s := 1) (mo := 30) (by decide) (by decide) (by decide) (by decide) (.inr rfl) (by decide) fun r H1 hr s1 h1 => ?_)⟩
    have S1 := S0.resL hr s1 h1
    refine fun a5 h5 => ⟨upd_same, [(.inl 1, .int 1)], rfl, (by decide), ?_⟩
    have s5 : Same H1 (upd (upd H1 a5 (.dK [])) a5 (.dK (mergeK [] [(.inl 1, .int 1)]))) := fun b o e => by
      rw [upd_ne (ne_of_none e h5), upd_ne (ne_of_none e h5)]
      exact e
    have S5 := S1.res (o := .dK (mergeK [] [(.inl 1, .int 1)])) h5 s5 upd_same (fun _ e => nomatch e)
    generalize upd (upd H1 a5 (.dK [])) a5 (.dK (mergeK [] [(.inl 1, .int 1)])) = H5 at S5 ⊢
    refine tn0 <| use_lr (S5.g 0 rfl) fun r2 H2 hr2 s2 h2 => ?_
    have S6 := S5.resL hr2 s2 h2
    have er : rowOf 31 E30 = rowOf (30 + 1) (tsm 3 1 (-1) (-10) 21) := row_ext fun n hn => tsm_base (R := 5) (by decide) (by decide) (by omega) (by omega)
    rw [er] at S6
    refine ⟨.list (intsD (intsOf (30 + 1) (tsm 3 1 (-1) (-10) 21))), .list (intsD (intsOf (30 + 1) (tsm 3 1 (-1) (-10) 21))), .lst (SqL.of (S6.g 2 rfl)) (ints_dp _), .lst (SqL.of (S6.g 0 rfl)) (ints_dp _), ints_shaped _, ints_shaped _, _, rfl, iteF' (eq_no _) ?_⟩
    exact ⟨rfl, S6.sub (List.nil_sublist _)⟩
  clear S0
  rintro σ1 H1 ⟨rfl, S1⟩
  -- odd, far
  refine ⟨_, rfl, (by show 4 ≤ sizeLine; decide), fun z hz => ?_⟩
  have S2 := S1.newL (xs := [.non, .int 1, .int 201, .bl true]) hz
  refine ⟨d, l, cc, z, [.non, .int 1, .int 201, .bl true], rfl, S2.dr, fun H' s' => SqL.of (S2.gx 0 rfl s'), by simp, (by show 4 ≤ 1000; decide), fun odd H2 hodd D2 s2 => ?_⟩
  have S3 := (S2.sx s2 D2).tl
  have hO : (∀ H, PV H odd) ∧ okSt odd (.int 1) = false := by
    simp only [List.mem_cons, List.not_mem_nil, or_false] at hodd
    rcases hodd with rfl | rfl | rfl | rfl
    · exact ⟨fun _ => .non, rfl⟩
    · exact ⟨fun _ => .int _, rfl⟩
    · exact ⟨fun _ => .int _, rfl⟩
    · exact ⟨fun _ => .bl _, rfl⟩
  have hO2 : okHs odd (.int 1) = false := by
    unfold okHs
    rw [hO.2]
    rfl
  clear S1 S2 s2 D2 hodd hz
  refine ⟨_, rfl, 2, rfl, (by show 5 ≤ sizeLine; decide), fun z hz => ?_⟩
  have S4 := S3.newL (xs := [.non, .int 0, .int 2, .int (-2), .bl true]) hz
  refine ⟨d, l, cc, z, [.non, .int 0, .int 2, .int (-2), .bl true], rfl, S4.dr, fun H' s' => SqL.of (S4.gx 0 rfl s'), by simp, (by show 5 ≤ 1000; decide), fun far H3 hfar D3 s3 => ?_⟩
  have S5 := (S4.sx s3 D3).tl
  have hF : (∀ H, PV H far) ∧ okSg far = false := by
    simp only [List.mem_cons, List.not_mem_nil, or_false] at hfar
    rcases hfar with rfl | rfl | rfl | rfl | rfl
    · exact ⟨fun _ => .non, rfl⟩
    · exact ⟨fun _ => .int _, rfl⟩
    · exact ⟨fun _ => .int _, rfl⟩
    · exact ⟨fun _ => .int _, rfl⟩
    · exact ⟨fun _ => .bl _, rfl⟩
  clear S3 S4 s3 D3 hfar hz
  refine ⟨(by show 2 ≤ sizeLine; decide), fun tq htq => ⟨tq, _, rfl, SqT.of upd_same, rfl, _, _, rfl, _, _, rfl, rfl, ?_⟩⟩
  have S6 := (S5.newT (xs := [odd, far]) htq).tl
  generalize upd H3 tq (.tup [odd, far]) = H4 at S6 ⊢
  clear S5 htq
  -- late
  refine ⟨_, rfl, 1, rfl, (by show 4 ≤ sizeLine; decide), fun z hz => ?_⟩
  have S7 := S6.newL (xs := [.non, .int (-1), .int 3001, .bl true]) hz
  refine ⟨d, l, cc, z, [.non, .int (-1), .int 3001, .bl true], rfl, S7.dr, fun H' s' => SqL.of (S7.gx 0 rfl s'), by simp, (by show 4 ≤ 1000; decide), fun late H5 hlate D5 s5 => ?_⟩
  have S8 := (S7.sx s5 D5).tl
  have hL : (∀ H, PV H late) ∧ within late 0 3000 = false := by
    simp only [List.mem_cons, List.not_mem_nil, or_false] at hlate
    rcases hlate with rfl | rfl | rfl | rfl
    · exact ⟨fun _ => .non, rfl⟩
    · exact ⟨fun _ => .int _, rfl⟩
    · exact ⟨fun _ => .int _, rfl⟩
    · exact ⟨fun _ => .bl _, rfl⟩
  clear S6 S7 s5 D5 hlate hz
  -- triple_sum(odd, 1, far, late)
  refine ⟨S8.tb, fun H14 eN T14 => ?_⟩
  have S9 := S8.ext eN T14
  refine ⟨_, rfl, tnC ⟨_, rfl, _, rfl, tn <| ts_step (hO.1 _) (.int _) (hF.1 _) (hL.1 _) hO.2 ⟨M.E_BadStep.m, fun a ha => ?_⟩⟩⟩
  refine ⟨a, M.a_BadStep, none, _, _, _, rfl, .inl ⟨rfl, upd_same⟩, M.E_BadStep.e, fun u r => r, M.E_BadStep.i, ?_⟩
  have S10 := S9.same (same_new (o := ErX (.ref M.a_BadStep) none a) ha)
  refine ⟨(by show 1 ≤ sizeLine; decide), fun ck hck => ?_⟩
  have C0 := S10.newL (xs := [V.bl true]) hck
  clear S8 S9 S10 eN T14
  generalize upd (upd H14 a (ErX (.ref M.a_BadStep) none a)) ck (.lst [.bl true]) = H16 at C0 ⊢
  clear ha hck
  have C1 : Sta Pt H16 d l cc [(ck, .lst (List.replicate 1 (.bl true)))] := C0
  clear C0
  -- triple_product(5, .., far, late)
  refine ⟨_, rfl, .inl ⟨rfl, _, SqL.of (C1.g 0 rfl)⟩, C1.tb, fun H14 eN T14 => ?_⟩
  have C2 := C1.ext eN T14
  refine ⟨_, rfl, (by show 3 ≤ sizeLine; decide), fun z hz => ?_⟩
  have C3 := C2.newL (xs := [.int 0, .int 5, .non]) hz
  refine ⟨d, l, cc, z, [.int 0, .int 5, .non], rfl, C3.dr, fun H' s' => SqL.of (C3.gx 0 rfl s'), by simp, (by show 3 ≤ 1000; decide), fun y H15 hy D15 s15 => ?_⟩
  have C4 := (C3.sx s15 D15).tl
  have hY : (∀ H, PV H y) ∧ okSt (.int 5) y = false := by
    simp only [List.mem_cons, List.not_mem_nil, or_false] at hy
    rcases hy with rfl | rfl | rfl
    · exact ⟨fun _ => .int _, rfl⟩
    · exact ⟨fun _ => .int _, rfl⟩
    · exact ⟨fun _ => .non, rfl⟩
  refine ⟨_, rfl, _, rfl, tn <| tp_step (.int _) (hY.1 _) (hF.1 _) (hL.1 _) hY.2 ⟨M.E_BadStep.m, fun a ha => ?_⟩⟩
  refine ⟨a, M.a_BadStep, none, _, _, _, rfl, .inl ⟨rfl, upd_same⟩, M.E_BadStep.e, fun u r => r, M.E_BadStep.i, ?_⟩
  have C5 := C4.same (same_new (o := ErX (.ref M.a_BadStep) none a) ha)
  refine ⟨ck, _, _, rfl, rfl, C5.g 0 rfl, (by rw [List.length_replicate]; decide), ?_⟩
  have C6 := C5.put (ys := List.replicate 2 (.bl true))
  clear C1 C2 C3 C4 C5 ha s15 eN T14 hz hy D15 hY
  -- triple_sum(5, 1, far, late)
  refine ⟨_, rfl, .inl ⟨rfl, _, SqL.of (C6.g 0 rfl)⟩, C6.tb, fun H14 eN T14 => ?_⟩
  have C7 := C6.ext eN T14
  refine ⟨_, rfl, _, rfl, tn <| ts_sign (.int _) (.int _) (hF.1 _) (hL.1 _) rfl hF.2 fun H15 s15 => ⟨M.E_BadNumber.m, fun a ha => ?_⟩⟩
  refine ⟨a, M.a_BadNumber, none, _, _, _, rfl, .inl ⟨rfl, upd_same⟩, M.E_BadNumber.e, fun u r => r, M.E_BadNumber.i, ?_⟩
  have C8 := C7.same (s15.trans (same_new (o := ErX (.ref M.a_BadNumber) none a) ha))
  refine ⟨ck, _, _, rfl, rfl, C8.g 0 rfl, (by rw [List.length_replicate]; decide), ?_⟩
  have C9 := C8.put (ys := List.replicate 3 (.bl true))
  clear C6 C7 C8 ha s15 eN T14
  -- triple_product(5, 1, 1, late)
  refine ⟨_, rfl, .inl ⟨rfl, _, SqL.of (C9.g 0 rfl)⟩, C9.tb, fun H14 eN T14 => ?_⟩
  have C10 := C9.ext eN T14
  refine ⟨_, rfl, tn <| tp_most (.int _) (.int _) (.int _) (hL.1 _) rfl rfl hL.2 fun H15 s15 => ⟨M.E_BadMost.m, fun a ha => ?_⟩⟩
  refine ⟨a, M.a_BadMost, none, _, _, _, rfl, .inl ⟨rfl, upd_same⟩, M.E_BadMost.e, fun u r => r, M.E_BadMost.i, ?_⟩
  have C11 := C10.same (s15.trans (same_new (o := ErX (.ref M.a_BadMost) none a) ha))
  refine ⟨ck, _, _, rfl, rfl, C11.g 0 rfl, (by rw [List.length_replicate]; decide), ?_⟩
  have C12 := C11.put (ys := List.replicate 4 (.bl true))
  clear C9 C10 C11 ha s15 eN T14
  -- quintuple_product(odd, 1, late)
  refine ⟨_, rfl, .inl ⟨rfl, _, SqL.of (C12.g 0 rfl)⟩, C12.tb, fun H14 eN T14 => ?_⟩
  have C13 := C12.ext eN T14
  refine ⟨_, rfl, tnC ⟨_, rfl, tn <| qp_step (hO.1 _) (.int _) (hL.1 _) hO2 ⟨M.E_BadStep.m, fun a ha => ?_⟩⟩⟩
  refine ⟨a, M.a_BadStep, none, _, _, _, rfl, .inl ⟨rfl, upd_same⟩, M.E_BadStep.e, fun u r => r, M.E_BadStep.i, ?_⟩
  have C14 := C13.same (same_new (o := ErX (.ref M.a_BadStep) none a) ha)
  refine ⟨ck, _, _, rfl, rfl, C14.g 0 rfl, (by rw [List.length_replicate]; decide), ?_⟩
  have C15 := C14.put (ys := List.replicate 5 (.bl true))
  clear C12 C13 C14 ha eN T14
  -- quintuple_sum(5, 2, late)
  refine ⟨_, rfl, .inl ⟨rfl, _, SqL.of (C15.g 0 rfl)⟩, C15.tb, fun H14 eN T14 => ?_⟩
  have C16 := C15.ext eN T14
  refine ⟨_, rfl, tn <| qs_most (.int _) (.int _) (hL.1 _) rfl hL.2 ⟨M.E_BadMost.m, fun a ha => ?_⟩⟩
  refine ⟨a, M.a_BadMost, none, _, _, _, rfl, .inl ⟨rfl, upd_same⟩, M.E_BadMost.e, fun u r => r, M.E_BadMost.i, ?_⟩
  have C17 := C16.same (same_new (o := ErX (.ref M.a_BadMost) none a) ha)
  refine ⟨ck, _, _, rfl, rfl, C17.g 0 rfl, (by rw [List.length_replicate]; decide), ?_⟩
  have C18 := C17.put (ys := List.replicate 6 (.bl true))
  clear C15 C16 C17 ha eN T14
  refine ⟨_, rfl, ck, _, rfl, .inl (SqL.of (C18.g 0 rfl)), rfl, rfl, ?_⟩
  exact q _
end
end K03

set_option Elab.async false
set_option linter.all false
set_option maxRecDepth 100000
set_option maxHeartbeats 0
set_option pp.maxSteps 3000
namespace K03
open PySem PySem.Spec PyProof.Rows L2 Dr Xv LamX Ps Gn
section
variable {P : Program} {w : World} {K : PySem.W.Frag} {mg : Str → Option Value} {base : Heap} {c Pt : Addr}
def sp_law (K : PySem.W.Frag) (Pt : Addr) : Sp := fun vs H Q _ => ∃ (a : Addr) (ns : List Int), vs = [.ref a] ∧ SqL K H a (ns.map V.int) ∧ ns.length ≤ 1000 ∧ H Pt = some (.tbl #[]) ∧ ∀ H', Q (.bl true) H'
theorem ok_law (M : Mod P w K mg base) (hc : M.d_law.code = .ref c) (TB : TabB base mg c Pt) : FnOk P w K mg base CX0 10 M.f_law M.d_law ["script"] (sp_law K Pt) := by
  obtain ⟨oc, od, dV, kV, doc, pm, an, cdv, ct, osl, ed, lk, hcd, _, _⟩ := M.F_law.ex
  rw [ed] at hc lk ⊢
  have e : cdv = .ref c := hc
  subst e
  refine fn_of lk hcd sc_law (fun vs H Q E h => ?_) fun A outer s H vs Q E hr h => ?_
  · obtain ⟨a, ns, rfl, _⟩ := h
    rfl
  · obtain ⟨a, ns, rfl, hS, hlen, hT, q⟩ := h
    have hr' : Room 9 (XL P w K mg base M.f_law c A outer s H E).A := hr
    obtain ⟨tL, hL, rL⟩ := lap_ok (f := M.f_law) (c := c) (A := A) (outer := outer) (s := s) (H := H) (E := E) M TB hr'
    obtain ⟨tT, hTl, rT⟩ := tail_ok (f := M.f_law) (c := c) (A := A) (outer := outer) (s := s) (H := H) (E := E) M TB hr'
    refine ⟨_, PSs.nox (pss_cons (ps_set (i := 1) sc_law.nd rfl (Or.inr rfl) (pe_call (ok__law_begun M) (hr.mono (by decide)) rfl M.g__law_begun M.k__law_begun M.b__law_begun .nil pass0 (pa_cons (pv 0) pa_nil)))
      (pss_cons (ps_for PassesOwn.never rfl (pi_range1 (by rfl) M.range0 (pa_cons (pe_op op_add pe_int (pe_callB (call_min2 rfl) (by rfl) M.min0 (by decide +kernel) (pa_cons (pe_callB call_len (by rfl) M.len0 PySem.boot_len (pa_cons (pv 0) pa_nil)) (pa_cons pe_int pa_nil)))) pa_nil)) (pg_name (i := 2) sc_law.nd rfl (Or.inl rfl)) hL)
      hTl)), ?_⟩
    refine ⟨_, rfl, a, ns, rfl, hS, hlen, fun d l cc H1 hd hl hcc s1 D1 => ?_⟩
    have W1 : Sta Pt H1 d l cc [] := ⟨⟨D1, fun p hp => by
      rw [List.mem_singleton.mp hp]
      exact TabS.nil (s1 _ _ hT)⟩, fun x hx => (nomatch hx), List.Pairwise.nil⟩
    have hb : ∀ n : Nat, 0 ≤ (if (4 : Int) < (n : Int) then (4 : Int) else (n : Int)) ∧ (if (4 : Int) < (n : Int) then (4 : Int) else (n : Int)) ≤ 4 := fun n => by
      by_cases h4 : (4 : Int) < (n : Int)
      · rw [if_pos h4]
        exact ⟨by decide, by decide⟩
      · rw [if_neg h4]
        omega
    obtain ⟨hb1, hb2⟩ := hb (ns.map V.int).length
    refine ⟨_, rfl, _, _, rfl, .inl ⟨_, s1.seq hS, rfl⟩, _, _, rfl, _, _, rfl, rfl, _, rfl, ?_, ?_, ?_⟩
    · show -(2 ^ 62) ≤ 2 + _
      omega
    · show 2 + _ < 2 ^ 62
      omega
    refine for_range (lo := 0) (n := _) (fun i σ H' => Slots d σ ∧ Sta Pt H' d l cc []) ⟨⟨_, _, _, _, _, _, _, _, _, _, _, _, _, _, _, _, rfl⟩, W1⟩ ?_ ?_
    · rintro i σ H2 hi ⟨⟨x0, x2, x3, x4, x5, x6, x7, x8, x9, x10, x11, x12, x13, x14, x15, x16, rfl⟩, W2⟩
      exact rL _ _ _ d l cc ⟨_, _, _, _, _, _, _, _, _, _, _, _, _, _, _, _, rfl⟩ W2 fun σ' H' hs W' => ⟨⟨hs, W'⟩, ⟨hs, W'⟩⟩
    · rintro σ H2 ⟨hs, W2⟩
      exact rT _ _ _ d l cc hs W2 fun H' => q H'
end
end K03

set_option Elab.async false
set_option linter.all false
set_option maxRecDepth 100000
set_option maxHeartbeats 0
namespace K03
open PySem PySem.Spec PyProof.Rows L2 Dr Xv LamX Ps Gn
def dd (x : Str) (st : Stmt) : He.DefD := ⟨(x, none), x, x, defArgs st, defBody st, defScope st, [], []⟩
def fn : List He.DefD := [dd "law" s_law, dd "is_number" s_is_number, dd "is_within" s_is_within, dd "are_numbers" s_are_numbers, dd "is_number_list" s_is_number_list, dd "check_most" s_check_most, dd "check_powers" s_check_powers, dd "product_row" s_product_row, dd "row_from_sums" s_row_from_sums, dd "weighted_sums" s_weighted_sums, dd "sums_over_divisors" s_sums_over_divisors, dd "check_steps" s_check_steps, dd "check_half_steps" s_check_half_steps, dd "check_sign" s_check_sign, dd "triple_sum" s_triple_sum, dd "triple_product" s_triple_product, dd "quintuple_sum" s_quintuple_sum, dd "quintuple_product" s_quintuple_product, dd "_put" s__put, dd "_put_factor" s__put_factor, dd "_law_begun" s__law_begun, dd "_law_blend" s__law_blend, dd "_law_take" s__law_take, dd "_law_pick" s__law_pick, dd "_law_caught" s__law_caught, dd "_law_sigmas" s__law_sigmas, dd "_law_row" s__law_row, dd "_law_summed" s__law_summed, dd "_law_product" s__law_product]
def fa : List He.Fa := [.glo "law", .glo "is_number", .glo "is_within", .glo "are_numbers", .glo "is_number_list", .glo "check_most", .glo "check_powers", .glo "product_row", .glo "row_from_sums", .glo "weighted_sums", .glo "sums_over_divisors", .glo "check_steps", .glo "check_half_steps", .glo "check_sign", .glo "triple_sum", .glo "triple_product", .glo "quintuple_sum", .glo "quintuple_product", .glo "_put", .glo "_put_factor", .glo "_law_begun", .glo "_law_blend", .glo "_law_take", .glo "_law_pick", .glo "_law_caught", .glo "_law_sigmas", .glo "_law_row", .glo "_law_summed", .glo "_law_product", .glo "SeriesError", .glo "BadMost", .glo "BadNumber", .glo "BadRow", .glo "BadStep", .int "GREATEST_MOST" 3000, .int "MOST_POWERS" 3000, .int "GREATEST_STEP" 200, .free "abs", .free "all", .free "bool", .free "enumerate", .free "int", .free "isinstance", .free "len", .free "list", .free "min", .free "range", .free "sum", .free "tuple", .free "zip"]
abbrev R : PySem.W.OpenRow := PySem.W.OpenLaw.row PySem.Challenge.rw_etasure_k03_whole_triple_and_quintuple_p
abbrev ga (K : PySem.W.Frag) (x : Str) : Addr := He.ga K x
def up (K : PySem.W.Frag) (x : Str) : List Value := .ref (ga K x) :: .ref (ga K "SeriesError") :: veT
def upS (K : PySem.W.Frag) : List Value := .ref (ga K "SeriesError") :: veT
def ext (K : PySem.W.Frag) : Bool := clsB K (ga K "SeriesError") (upS K) && (clsB K (ga K "BadMost") (up K "BadMost") && (clsB K (ga K "BadNumber") (up K "BadNumber") && (clsB K (ga K "BadRow") (up K "BadRow") && (clsB K (ga K "BadStep") (up K "BadStep") && (PySem.W.excIn K (ga K "BadMost") veT "ValueError.__new__" && (PySem.W.excIn K (ga K "BadNumber") veT "ValueError.__new__" && (PySem.W.excIn K (ga K "BadRow") veT "ValueError.__new__" && (PySem.W.excIn K (ga K "BadStep") veT "ValueError.__new__" && (He.eqO (PySem.W.specialIn K (.builtin "object.__class__") "__get__") (some (some (.builtin "getset_descriptor.__get__"))) && (eqB (PySem.W.takesIn K (.builtin "object.__class__")) (some true) && (He.eqO (PySem.W.nsIn K mainGlobals "isqrt") (some (some (.builtin "math.isqrt"))))))))))))))
def ob (s : PySem.W.SharedT) : AlE := obsE fa fn ext 4 (HandSHeadRun.getT s)
theorem ob_eq (s : PySem.W.SharedT) : ob s = (hookE fa fn ext 4).obs s.abs := by
  have e : HandSHeadRun.getT s = s.abs.heap.get? := funext (HandSHeadRun.getT_eq s)
  show obsE fa fn ext 4 (HandSHeadRun.getT s) = obsE fa fn ext 4 s.abs.heap.get?
  rw [e]
def loose : List PySem.Str := (List.map Str.ofString ["SeriesError", "BadMost", "BadNumber", "BadRow", "BadStep", "GREATEST_MOST", "is_number", "is_within", "are_numbers", "is_number_list", "check_most", "MOST_POWERS", "check_powers", "product_row", "row_from_sums", "weighted_sums", "sums_over_divisors", "GREATEST_STEP", "check_steps", "check_half_steps", "check_sign", "triple_sum", "triple_product", "quintuple_sum", "quintuple_product", "_put", "_put_factor", "_law_begun", "_law_blend", "_law_take", "_law_pick", "_law_caught", "_law_sigmas", "_law_row", "_law_summed", "_law_product"])
theorem errs_of {K : PySem.W.Frag} (e : ext K = true) : ErrT K (ga K "BadMost") (ga K "SeriesError") ∧ ErrT K (ga K "BadNumber") (ga K "SeriesError") ∧ ErrT K (ga K "BadRow") (ga K "SeriesError") ∧ ErrT K (ga K "BadStep") (ga K "SeriesError") ∧ PySem.W.nsIn K mainGlobals "isqrt" = some (some (.builtin "math.isqrt")) := by
  unfold ext at e
  simp only [Bool.and_eq_true] at e
  obtain ⟨eS, e_BadMost, e_BadNumber, e_BadRow, e_BadStep, x_BadMost, x_BadNumber, x_BadRow, x_BadStep, e7, e8, i_isqrt⟩ := e
  have cS := clsB_ok eS
  have ne : ∀ x, up K x ≠ [] := fun x z => by cases z
  have hasT : ∀ (x : Str) (v : Value), veT.contains v = true → (up K x).contains v = true := fun x v hv => by
    unfold up
    rw [List.contains_cons, List.contains_cons, hv, Bool.or_true, Bool.or_true]
  have e7' := He.eqO_ok e7
  have e8' : PySem.W.takesIn K (.builtin "object.__class__") = some true := of_decide_eq_true e8
  have xS := cS.excC (fun z => by cases z) (by unfold upS; rw [List.contains_cons, show veT.contains (.type "BaseException") = true from rfl, Bool.or_true]) (by unfold upS; rw [List.contains_cons, show veT.contains (.type "object") = true from rfl, Bool.or_true]) e7' e8'
  have subS : ∀ x, (up K x).contains (.ref (ga K "SeriesError")) = true := fun x => by
    unfold up
    rw [List.contains_cons, List.contains_cons]
    simp
  have mk : ∀ x, ClsOk K (ga K x) (up K x) → PySem.W.excIn K (ga K x) veT "ValueError.__new__" = true → ErrT K (ga K x) (ga K "SeriesError") := fun x cx hx =>
    have xx := cx.excC (ne x) (hasT x _ rfl) (hasT x _ rfl) e7' e8'
    { x := hx, k := cx.kp, b := xx.hs, t := cx.ty, m := PySem.W.exm_ref xS.hs xS.hd cS.ty (by rw [cx.sub (ne x), subS x]), e := xx, i := cx.kit (ne x) cx (by rw [decide_eq_true rfl]; rfl) }
  exact ⟨mk _ (clsB_ok e_BadMost) x_BadMost, mk _ (clsB_ok e_BadNumber) x_BadNumber, mk _ (clsB_ok e_BadRow) x_BadRow, mk _ (clsB_ok e_BadStep) x_BadStep, He.eqO_ok i_isqrt⟩
theorem run (w : World) : HandSHeadRun.RunEqI R (PySem.W.view R.prog [0, 42]) (hookE fa fn ext 4) ob 40000 loose w := by
  unfold HandSHeadRun.RunEqI
  kernel_rfl
theorem mod_of {P : Program} {w : World} {K : PySem.W.Frag} {h : Heap} {mg : Str → Option Value} {f : Addr} (X : K.In h) (G : h.Ns mainGlobals mg) (hfa : mg ("law" : Str) = some (.ref f)) (c : He.SaysD fa fn K) (ex : ext K = true) :
    ∃ fd, FnP K "law" s_law f fd ∧ ∀ base : Heap, ∃ M : Mod P w K mg base, M.f_law = f ∧ M.d_law = fd := by
  obtain ⟨fd0, F0⟩ := c.def_ 0 (d := dd "law" s_law) rfl
  obtain ⟨fd1, F1⟩ := c.def_ 1 (d := dd "is_number" s_is_number) rfl
  obtain ⟨fd2, F2⟩ := c.def_ 2 (d := dd "is_within" s_is_within) rfl
  obtain ⟨fd3, F3⟩ := c.def_ 3 (d := dd "are_numbers" s_are_numbers) rfl
  obtain ⟨fd4, F4⟩ := c.def_ 4 (d := dd "is_number_list" s_is_number_list) rfl
  obtain ⟨fd5, F5⟩ := c.def_ 5 (d := dd "check_most" s_check_most) rfl
  obtain ⟨fd6, F6⟩ := c.def_ 6 (d := dd "check_powers" s_check_powers) rfl
  obtain ⟨fd7, F7⟩ := c.def_ 7 (d := dd "product_row" s_product_row) rfl
  obtain ⟨fd8, F8⟩ := c.def_ 8 (d := dd "row_from_sums" s_row_from_sums) rfl
  obtain ⟨fd9, F9⟩ := c.def_ 9 (d := dd "weighted_sums" s_weighted_sums) rfl
  obtain ⟨fd10, F10⟩ := c.def_ 10 (d := dd "sums_over_divisors" s_sums_over_divisors) rfl
  obtain ⟨fd11, F11⟩ := c.def_ 11 (d := dd "check_steps" s_check_steps) rfl
  obtain ⟨fd12, F12⟩ := c.def_ 12 (d := dd "check_half_steps" s_check_half_steps) rfl
  obtain ⟨fd13, F13⟩ := c.def_ 13 (d := dd "check_sign" s_check_sign) rfl
  obtain ⟨fd14, F14⟩ := c.def_ 14 (d := dd "triple_sum" s_triple_sum) rfl
  obtain ⟨fd15, F15⟩ := c.def_ 15 (d := dd "triple_product" s_triple_product) rfl
  obtain ⟨fd16, F16⟩ := c.def_ 16 (d := dd "quintuple_sum" s_quintuple_sum) rfl
  obtain ⟨fd17, F17⟩ := c.def_ 17 (d := dd "quintuple_product" s_quintuple_product) rfl
  obtain ⟨fd18, F18⟩ := c.def_ 18 (d := dd "_put" s__put) rfl
  obtain ⟨fd19, F19⟩ := c.def_ 19 (d := dd "_put_factor" s__put_factor) rfl
  obtain ⟨fd20, F20⟩ := c.def_ 20 (d := dd "_law_begun" s__law_begun) rfl
  obtain ⟨fd21, F21⟩ := c.def_ 21 (d := dd "_law_blend" s__law_blend) rfl
  obtain ⟨fd22, F22⟩ := c.def_ 22 (d := dd "_law_take" s__law_take) rfl
  obtain ⟨fd23, F23⟩ := c.def_ 23 (d := dd "_law_pick" s__law_pick) rfl
  obtain ⟨fd24, F24⟩ := c.def_ 24 (d := dd "_law_caught" s__law_caught) rfl
  obtain ⟨fd25, F25⟩ := c.def_ 25 (d := dd "_law_sigmas" s__law_sigmas) rfl
  obtain ⟨fd26, F26⟩ := c.def_ 26 (d := dd "_law_row" s__law_row) rfl
  obtain ⟨fd27, F27⟩ := c.def_ 27 (d := dd "_law_summed" s__law_summed) rfl
  obtain ⟨fd28, F28⟩ := c.def_ 28 (d := dd "_law_product" s__law_product) rfl
  obtain ⟨X_BadMost, X_BadNumber, X_BadRow, X_BadStep, XI_isqrt⟩ := errs_of ex
  obtain ⟨t_GREATEST_MOST, c_GREATEST_MOST⟩ := He.int_ok X G (c.fact 34 (f := .int "GREATEST_MOST" 3000) rfl)
  obtain ⟨t_MOST_POWERS, c_MOST_POWERS⟩ := He.int_ok X G (c.fact 35 (f := .int "MOST_POWERS" 3000) rfl)
  obtain ⟨t_GREATEST_STEP, c_GREATEST_STEP⟩ := He.int_ok X G (c.fact 36 (f := .int "GREATEST_STEP" 200) rfl)
  have gl := hfa.symm.trans (He.glo_ok X G (c.fact 0 (f := .glo "law") rfl))
  cases gl
  have g0 := He.glo_ok X G (c.fact 0 (f := .glo "law") rfl)
  have g1 := He.glo_ok X G (c.fact 1 (f := .glo "is_number") rfl)
  have g2 := He.glo_ok X G (c.fact 2 (f := .glo "is_within") rfl)
  have g3 := He.glo_ok X G (c.fact 3 (f := .glo "are_numbers") rfl)
  have g4 := He.glo_ok X G (c.fact 4 (f := .glo "is_number_list") rfl)
  have g5 := He.glo_ok X G (c.fact 5 (f := .glo "check_most") rfl)
  have g6 := He.glo_ok X G (c.fact 6 (f := .glo "check_powers") rfl)
  have g7 := He.glo_ok X G (c.fact 7 (f := .glo "product_row") rfl)
  have g8 := He.glo_ok X G (c.fact 8 (f := .glo "row_from_sums") rfl)
  have g9 := He.glo_ok X G (c.fact 9 (f := .glo "weighted_sums") rfl)
  have g10 := He.glo_ok X G (c.fact 10 (f := .glo "sums_over_divisors") rfl)
  have g11 := He.glo_ok X G (c.fact 11 (f := .glo "check_steps") rfl)
  have g12 := He.glo_ok X G (c.fact 12 (f := .glo "check_half_steps") rfl)
  have g13 := He.glo_ok X G (c.fact 13 (f := .glo "check_sign") rfl)
  have g14 := He.glo_ok X G (c.fact 14 (f := .glo "triple_sum") rfl)
  have g15 := He.glo_ok X G (c.fact 15 (f := .glo "triple_product") rfl)
  have g16 := He.glo_ok X G (c.fact 16 (f := .glo "quintuple_sum") rfl)
  have g17 := He.glo_ok X G (c.fact 17 (f := .glo "quintuple_product") rfl)
  have g18 := He.glo_ok X G (c.fact 18 (f := .glo "_put") rfl)
  have g19 := He.glo_ok X G (c.fact 19 (f := .glo "_put_factor") rfl)
  have g20 := He.glo_ok X G (c.fact 20 (f := .glo "_law_begun") rfl)
  have g21 := He.glo_ok X G (c.fact 21 (f := .glo "_law_blend") rfl)
  have g22 := He.glo_ok X G (c.fact 22 (f := .glo "_law_take") rfl)
  have g23 := He.glo_ok X G (c.fact 23 (f := .glo "_law_pick") rfl)
  have g24 := He.glo_ok X G (c.fact 24 (f := .glo "_law_caught") rfl)
  have g25 := He.glo_ok X G (c.fact 25 (f := .glo "_law_sigmas") rfl)
  have g26 := He.glo_ok X G (c.fact 26 (f := .glo "_law_row") rfl)
  have g27 := He.glo_ok X G (c.fact 27 (f := .glo "_law_summed") rfl)
  have g28 := He.glo_ok X G (c.fact 28 (f := .glo "_law_product") rfl)
  have gc0 := He.glo_ok X G (c.fact 29 (f := .glo "SeriesError") rfl)
  have gc1 := He.glo_ok X G (c.fact 30 (f := .glo "BadMost") rfl)
  have gc2 := He.glo_ok X G (c.fact 31 (f := .glo "BadNumber") rfl)
  have gc3 := He.glo_ok X G (c.fact 32 (f := .glo "BadRow") rfl)
  have gc4 := He.glo_ok X G (c.fact 33 (f := .glo "BadStep") rfl)
  have b_abs := He.free_ok X G (c.fact 37 (f := .free "abs") rfl)
  have b_all := He.free_ok X G (c.fact 38 (f := .free "all") rfl)
  have b_bool := He.free_ok X G (c.fact 39 (f := .free "bool") rfl)
  have b_enumerate := He.free_ok X G (c.fact 40 (f := .free "enumerate") rfl)
  have b_int := He.free_ok X G (c.fact 41 (f := .free "int") rfl)
  have b_isinstance := He.free_ok X G (c.fact 42 (f := .free "isinstance") rfl)
  have b_len := He.free_ok X G (c.fact 43 (f := .free "len") rfl)
  have b_list := He.free_ok X G (c.fact 44 (f := .free "list") rfl)
  have b_min := He.free_ok X G (c.fact 45 (f := .free "min") rfl)
  have b_range := He.free_ok X G (c.fact 46 (f := .free "range") rfl)
  have b_sum := He.free_ok X G (c.fact 47 (f := .free "sum") rfl)
  have b_tuple := He.free_ok X G (c.fact 48 (f := .free "tuple") rfl)
  have b_zip := He.free_ok X G (c.fact 49 (f := .free "zip") rfl)
  exact ⟨fd0, F0, fun base => ⟨{ f_law := _, d_law := fd0, F_law := F0, g_law := g0, f_is_number := _, d_is_number := fd1, F_is_number := F1, g_is_number := g1, f_is_within := _, d_is_within := fd2, F_is_within := F2, g_is_within := g2, f_are_numbers := _, d_are_numbers := fd3, F_are_numbers := F3, g_are_numbers := g3, f_is_number_list := _, d_is_number_list := fd4, F_is_number_list := F4, g_is_number_list := g4, f_check_most := _, d_check_most := fd5, F_check_most := F5, g_check_most := g5, f_check_powers := _, d_check_powers := fd6, F_check_powers := F6, g_check_powers := g6, f_product_row := _, d_product_row := fd7, F_product_row := F7, g_product_row := g7, f_row_from_sums := _, d_row_from_sums := fd8, F_row_from_sums := F8, g_row_from_sums := g8, f_weighted_sums := _, d_weighted_sums := fd9, F_weighted_sums := F9, g_weighted_sums := g9, f_sums_over_divisors := _, d_sums_over_divisors := fd10, F_sums_over_divisors := F10, g_sums_over_divisors := g10, f_check_steps := _, d_check_steps := fd11, F_check_steps := F11, g_check_steps := g11, f_check_half_steps := _, d_check_half_steps := fd12, F_check_half_steps := F12, g_check_half_steps := g12, f_check_sign := _, d_check_sign := fd13, F_check_sign := F13, g_check_sign := g13, f_triple_sum := _, d_triple_sum := fd14, F_triple_sum := F14, g_triple_sum := g14, f_triple_product := _, d_triple_product := fd15, F_triple_product := F15, g_triple_product := g15, f_quintuple_sum := _, d_quintuple_sum := fd16, F_quintuple_sum := F16, g_quintuple_sum := g16, f_quintuple_product := _, d_quintuple_product := fd17, F_quintuple_product := F17, g_quintuple_product := g17, f__put := _, d__put := fd18, F__put := F18, g__put := g18, f__put_factor := _, d__put_factor := fd19, F__put_factor := F19, g__put_factor := g19, f__law_begun := _, d__law_begun := fd20, F__law_begun := F20, g__law_begun := g20, f__law_blend := _, d__law_blend := fd21, F__law_blend := F21, g__law_blend := g21, f__law_take := _, d__law_take := fd22, F__law_take := F22, g__law_take := g22, f__law_pick := _, d__law_pick := fd23, F__law_pick := F23, g__law_pick := g23, f__law_caught := _, d__law_caught := fd24, F__law_caught := F24, g__law_caught := g24, f__law_sigmas := _, d__law_sigmas := fd25, F__law_sigmas := F25, g__law_sigmas := g25, f__law_row := _, d__law_row := fd26, F__law_row := F26, g__law_row := g26, f__law_summed := _, d__law_summed := fd27, F__law_summed := F27, g__law_summed := g27, f__law_product := _, d__law_product := fd28, F__law_product := F28, g__law_product := g28, a_SeriesError := _, g_SeriesError := gc0, a_BadMost := _, g_BadMost := gc1, a_BadNumber := _, g_BadNumber := gc2, a_BadRow := _, g_BadRow := gc3, a_BadStep := _, g_BadStep := gc4, E_BadMost := X_BadMost, E_BadNumber := X_BadNumber, E_BadRow := X_BadRow, E_BadStep := X_BadStep, i_isqrt := PySem.W.mg_of X G XI_isqrt, t_GREATEST_MOST := t_GREATEST_MOST, c_GREATEST_MOST := c_GREATEST_MOST, t_MOST_POWERS := t_MOST_POWERS, c_MOST_POWERS := c_MOST_POWERS, t_GREATEST_STEP := t_GREATEST_STEP, c_GREATEST_STEP := c_GREATEST_STEP, abs0 := b_abs, all0 := b_all, bool0 := b_bool, enumerate0 := b_enumerate, int0 := b_int, isinstance0 := b_isinstance, len0 := b_len, list0 := b_list, min0 := b_min, range0 := b_range, sum0 := b_sum, tuple0 := b_tuple, zip0 := b_zip }, rfl, rfl⟩⟩
theorem facts {P : Program} {w : World} {K : PySem.W.Frag} {h : Heap} {mg : Str → Option Value} {f : Addr} (X : K.In h) (G : h.Ns mainGlobals mg) (hfa : mg ("law" : Str) = some (.ref f)) (c : He.SaysD fa fn K) (ex : ext K = true) :
    ∃ fd, (∀ (s : Shared) (v : Value), BindsTo s fd ⟨[v], []⟩ [("script", v)]) ∧ ∀ base : Heap, K.In base → base.Ns mainGlobals mg → TabB base mg (He.cT K lawD).1 (He.cT K lawD).2 → FnOk P w K mg base CX0 10 f fd ["script"] (sp_law K (He.cT K lawD).2) := by
  have gl := hfa.symm.trans (He.glo_ok X G (c.fact 0 (f := .glo "law") rfl))
  cases gl
  obtain ⟨fd, F, hM⟩ := mod_of (P := P) (w := w) X G hfa c ex
  have b := FunD.bindsA (ps := ["script"]) F fun _ _ _ _ _ _ us hl => match us, hl with | [_], _ => rfl
  refine ⟨fd, fun s v => b s [v] rfl, fun base hK hN TB => ?_⟩
  obtain ⟨M, e1, e2⟩ := hM base
  have hc : fd.code = .ref (He.cT K lawD).1 := by
    obtain ⟨oc, od, dV, kV, doc, pm, an, cdv, ct, osl, rfl, lk, hcd, _, _⟩ := F.ex
    obtain ⟨c0, rfl⟩ := He.codeIn_ref hcd
    have z := He.codeOf_eq (p := lawD) (c := c0) lk rfl
    show Value.ref c0 = Value.ref (He.codeOf K lawD)
    rw [z]
  have z := ok_law M (c := (He.cT K lawD).1) (Pt := (He.cT K lawD).2) (by rw [e2]; exact hc) TB
  rw [e1, e2] at z
  exact z
end K03
open PySem PySem.W PySem.Calls PyProof.Rows
theorem PySem.Challenge.cw_etasure_k03_whole_triple_and_quintuple_p_holds : PySem.Challenge.rw_etasure_k03_whole_triple_and_quintuple_p.Holds := by
  w_on; o_law
  refine HandSHeadRun.head_imp (r := OpenLaw.row PySem.Challenge.rw_etasure_k03_whole_triple_and_quintuple_p) (q := view (OpenLaw.row PySem.Challenge.rw_etasure_k03_whole_triple_and_quintuple_p).prog [0, 42]) (H := Xv.hookE K03.fa K03.fn K03.ext 4) (ob := K03.ob) (M := 40000) (loose := K03.loose) (d := HandSHeadRun.topDef (OpenLaw.row PySem.Challenge.rw_etasure_k03_whole_triple_and_quintuple_p).prog 42) (kwd := []) K03.ob_eq
    K03.run (by kernel_rfl) (by kernel_rfl) (by kernel_rfl) (by rfl) (by first | assumption | decide +kernel) (by decide +kernel) ⟨rfl, rfl, rfl, rfl, rfl, by decide +kernel⟩ ?hw ?hc
  case hw => w_witness2
  case hc =>
    refine LamX.walk_ofTsE (l := PySem.Challenge.rw_etasure_k03_whole_triple_and_quintuple_p) (n := 63) (k := 10) (x := "script") (CX := fun _ => L2.CX0) rfl (by decide) (by kernel_rfl) ⟨rfl, by decide, by decide⟩ ?F (fun _ _ _ _ _ h => h)
    intro w mg fa h Y G hmg0
    obtain ⟨K, KX, c⟩ := Y
    have hmg : mg ("law" : PySem.Str) = some (.ref fa) := by
      have e : (HandSHeadRun.topDef (OpenLaw.row PySem.Challenge.rw_etasure_k03_whole_triple_and_quintuple_p).prog 42).name = ("law" : PySem.Str) := by kernel_rfl
      rw [← e]
      exact hmg0
    obtain ⟨fd, hb, hF⟩ := K03.facts (P := (PySem.Challenge.rw_etasure_k03_whole_triple_and_quintuple_p).prog) (w := w) KX G hmg c.d c.more
    refine ⟨K, KX, fd, [He.cT K Xv.lawD], K03.sp_law K (He.cT K Xv.lawD).2, fun p hp => ?_, fun p hp => ?_, fun p hp => ?_, hb, fun H a ns hl _ hT hS => ⟨a, ns, rfl, hS, by omega, hT _ (List.mem_singleton.mpr rfl), fun _ => rfl⟩, fun base hK hN hTB => hF base hK hN (hTB _ (List.mem_singleton.mpr rfl))⟩
    · rw [List.mem_singleton.mp hp]
      exact c.empty
    · rw [List.mem_singleton.mp hp]
      exact c.out
    · rw [List.mem_singleton.mp hp]
      exact PySem.W.codeHd_of_K KX c.hd

