import PyProof.Rows.All
import Wide.All
import OpenK.AllK
import Wide.FinOn
import KE.KExcIs
import HandS.ForMost
import HandS.ForExc
import HandS.Wide
import HandS.Defaults
import HandS.IsInst
import HandS.ExcIs
import HandS.ExcOwn
import HandS.ExcValue
import HandS.ExcInit
import HandS.MakeKw
import HandS.MakeKwOnly
import HandS.HeadEnd
import HandS.Walk
import HandS.ExcBuiltin
import Lean
import KE.KStateDown
import HandS.More
import HandS.Words
import HandS.WordsExc
import HandS.Head0
import HandS.Head1
import HandS.Head2
import HandS.HeadHook1
import HandS.HeadHook2
import PySem.Challenge.RW_etasure_k96_errors_of_all_parts
set_option Elab.async false
set_option linter.all false
set_option maxRecDepth 100000
set_option maxHeartbeats 4000000
set_option pp.maxSteps 3000
namespace Xv
open PySem PySem.Spec PyProof.Rows L2
/-! ### errors of own classes as values -/
/-- at a an error of the class at C: without a dict, or with its dict at d -/
def ErrAt (H : Hp) (a C : Addr) : Prop := H a = some (ExO (.ref C) a) ∨ ∃ d fs, H a = some (exo a C (some d)) ∧ H d = some (exd d fs)
section
variable {X : Cx} {pins : List (Addr × Obj)} {σ : L2.St} {H : Hp} {s : Shared} {a C : Addr}
theorem errAt_inst (I : Inv X pins σ H s) (h : ErrAt H a C) : ∃ ox od, PySem.W.InstAt s.heap a ox C od := by
  rcases h with h | ⟨d, fs, h, hd⟩
  · have q : ObjOk X.prog X.w H s.heap a (ExO (.ref C) a) := I.hok a _ h
    obtain ⟨⟨oe, vs, e, z, dt, _⟩, _⟩ := q
    obtain ⟨oc, od, oda, osl⟩ := oe
    obtain ⟨z1, z2⟩ := z
    dsimp only at z1 z2 dt
    subst z1 z2 dt
    exact ⟨_, none, e, rfl, rfl, trivial⟩
  · obtain ⟨t1, ho⟩ := exo_at I.hok h
    obtain ⟨mA, ⟨od, es, ep, e2, _⟩, _⟩ := exd_at I.hok hd
    exact ⟨_, some od, ho, rfl, rfl, e2⟩
/-- isinstance(e, c), e such an error -/
def rIsErr (K : PySem.W.Frag) : List V → Hp → VK → Prop := fun xs H Q => ∃ (a C : Addr) (c : V) (cv : Value) (b : Bool), xs = [.ref a, c] ∧ ErrAt H a C ∧ ExcC K C ∧ (∀ u, RelV c u → u = cv) ∧ PySem.W.kitOne K (.ref C) cv = some b ∧ Q (.bl b) H
theorem call_isErr : CallR X (.builtin "isinstance") (rIsErr X.K) := by
  intro pins s σ H xs us Q I r h
  obtain ⟨a, C, c, cv, b, rfl, he, T, hc, hk, q⟩ := h
  obtain ⟨u1, u2, rfl, r1, r2⟩ := vals2 r
  cases (show u1 = Value.ref a from r1)
  have e2 := hc _ r2
  subst e2
  obtain ⟨ox, od, J⟩ := errAt_inst I he
  obtain ⟨cd, hcd, _⟩ := PySem.W.any_some T.hd
  exact PySem.W.kia_one (PySem.W.kitx_exc (by rw [hcd]; rfl) T.hg T.hk T.hs T.ha T.hn T.ht T.hm) I.kIn J hk (fun z => nomatch z) fun tk => ⟨.bl b, H, I.tok tk, rfl, q⟩
end
/-! ### e.f of an error that holds its fields -/
structure ErrRd (K : PySem.W.Frag) (C : Addr) (f : Str) : Prop where
  ga : PySem.W.findIn K (.ref C) "__getattribute__" = some (some (.builtin "BaseException.__getattribute__"))
  gg : PySem.W.findIn K (.ref C) "__getattr__" = some none
  sub : PySem.W.subIn K (.ref C) (.type "BaseException") = some true
  hd : PySem.W.hasDictIn K C = true
  no : PySem.W.findIn K (.ref C) f = some none
def tErrF (K : PySem.W.Frag) (f : Str) (te : TE) : TE := fun σ H Q => te σ H fun x H1 => ∃ (a C d : Addr) (fs : List (Str × V)) (v : V), x = .ref a ∧ H1 a = some (exo a C (some d)) ∧ H1 d = some (exd d fs) ∧ ErrRd K C f ∧ fs.lookup f = some v ∧ Q v H1
section
variable {X : Cx}
theorem pe_errF {e : Expr} {te : TE} {f : Str} {pos : Pos} (he : PE X e te) (hb : attributeBase e f X.env (eval e X.env) = eval e X.env := by rfl) : PE X (.Attribute e f pos) (tErrF X.K f te) := by
  refine ⟨fun pins s σ H Q I h => attr_of hb (thn (he.run pins s σ H _ I h) fun u s1 hh => ?_)⟩
  obtain ⟨x, H1, I1, rx, a, C, d, fs, v, ex, ha, hd, T, hl, q⟩ := hh
  subst ex
  cases (show u = Value.ref a from rx)
  obtain ⟨t1, ho⟩ := exo_at I1.hok ha
  obtain ⟨mA, hns, hr⟩ := exd_at I1.hok hd
  obtain ⟨od, hod, hlk⟩ := lookIn_ns hns
  obtain ⟨u, hu, ru⟩ := RelO.some_of (v := v) (o := mA f) (by rw [← hl]; exact hr f)
  have J : PySem.W.InstAt s1.heap a _ C (some od) := ⟨ho, rfl, rfl, hod⟩
  exact PySem.HandSPX.exc_get I1.kIn J T.ga T.gg T.sub (PySem.W.findObj_own T.hd T.no rfl (by rw [hlk, hu])) (handed_of ru) ⟨v, H1, I1.tok _, ru, q⟩
end
/-! ### S.__init__(self, ..), S an own class over ValueError without an __init__ of its own -/
section
variable {X : Cx} {o e : Expr} {es : List Expr} {ta : TA} {x : Str} {p1 p2 pos : Pos}
theorem pe_sinit {S : Addr} {mc : Value} {pl : Sem Bool} (hg : Gl X x) (hm : X.mg x = some (.ref S)) (kS : PySem.W.keepIn X.K (.ref S) = true) (rd : PySem.W.readsIn X.K S mc = true) (sg : PySem.W.specialIn X.K (.ref S) "__getattribute__" = some (some (.builtin "type.__getattribute__")))
    (vV : PySem.W.findCls X.K (.ref S) mc "__init__" = some (.val (.builtin "ValueError.__init__"))) (ha : PA X (e :: es) ta) (hdb : (x == ("__debug__" : Str)) = false := by decide)
    (hc : eval (.Call (.Attribute (.Name x p1) "__init__" p2) (e :: es) [] pos) X.env = (do
      let ov ← eval (.Name x p1) X.env
      standAt p2.atName
      let (f, first) ← holding [ov] (getMethod ov "__init__" pl)
      callWith pos f first (backTo pos (starEach (e :: es) X.env)) (backToKw pos (keywordEach [] X.env))) := by rfl)
    (he : starEach (e :: es) X.env = (false, eval e X.env) :: starEach es X.env := by rfl) (hpl : (backTo pos (starEach es X.env)).any (·.1) = false := by rfl) :
    PE X (.Call (.Attribute (.Name x p1) "__init__" p2) (e :: es) [] pos) (tVeI X.K ta) := by
  refine ⟨fun pins s σ H Q I h => PySem.W.methodCall_KW (ld_glob I hg hm ?_ hdb) hc⟩
  refine PySem.W.method_cls I.kIn sg (PySem.W.cls_value I.kIn rd vV (by decide +kernel) ?_)
  show wpAny _ _ (callWith pos (Value.builtin "ValueError.__init__") [] (backTo pos (starEach (e :: es) X.env)) []) _ _ _
  refine PyProof.Rows.callWith_method1 (thn (ha.run pos pins _ σ H _ (I.tok _) h) fun us s1 hh => ?_) he hpl
  obtain ⟨vs, H1, I1, r1, a, C, ws, ev, hl, T, ea, q⟩ := hh
  subst ev
  cases r1 with
  | @cons _ u0 _ ur ra rw' =>
    cases (show u0 = Value.ref a from ra)
    have hlen : ur.length ≤ sizeLine := by
      have e1 := Paired.length rw'
      rw [sizeLine_eq]
      omega
    exact oinit_ok T I1 ea hlen fun s' J => ⟨.non, H1, J, rfl, q⟩
end
/-! ### C(e, ..) of such a class as a value, its own __init__ walked as a def -/
def tErrV (C : Addr) (sp : Sp) (E : XK) (ta : TA) : TE := fun σ H Q => ta σ H fun vs H1 => vs.length ≤ 1000 ∧ ∀ a, H1 a = none → sp (.ref a :: vs) (upd H1 a (exo a C none)) (fun v H2 => v = .non ∧ Q (.ref a) H2) E
section
variable {X : Cx} {e : Expr} {es : List Expr} {ta : TA} {x : Str} {p pos : Pos}
theorem pe_errV {CX : CXT} {C fI : Addr} {k : Nat} {fd : FuncData} {ps : List Str} {sp : Sp} {E : XK} (T : OexC X.K C) (iC : PySem.W.findIn X.K (.ref C) "__init__" = some (some (.ref fI))) (tI : PySem.W.typeIn X.K (.ref fI) = some (.type "function"))
    (F1 : FnOk X.prog X.w X.K X.mg X.base CX k fI fd ps sp) (hr : Room (k + 1) X.A) (hb : Binds X.K fd ps []) (hx : Passes CX X E) (hg : Gl X x) (hm : X.mg x = some (.ref C)) (ha : PA X (e :: es) ta)
    (hdb : (x == ("__debug__" : Str)) = false := by decide) (he : starEach (e :: es) X.env = (false, eval e X.env) :: starEach es X.env := by rfl) (hpl : (backTo pos (starEach es X.env)).any (·.1) = false := by rfl) :
    PE X (.Call (.Name x p) (e :: es) [] pos) (tErrV C sp E ta) := by
  refine ⟨fun pins s σ H Q I h => wpAny_Call_Name_kw (ld_glob I hg hm ?_ hdb)⟩
  obtain ⟨nm, q, N, bs, bm, sn, sub, ab, col, dd, k0, k1, k2, k3, k5, hC, hbm⟩ := T.cls
  refine PySem.W.callWith_K (h₀ := X.base) I.ok.mod.kin T.kC (thn (ha.run pos pins s σ H _ I h) fun us s1 hh => ?_) he hpl
  obtain ⟨vs, H1, I1, r1, hz, q1⟩ := hh
  refine ⟨I1.kIn, ?_⟩
  show wpAny _ _ (call (.ref C) us) _ _ _
  obtain ⟨hp, g, dr, tk, os⟩ := s1
  have hq := q1 (hp.objs.size + 1) (I1.hok.fresh (Nat.le_succ _))
  have I2 : Inv X pins σ (upd H1 (hp.objs.size + 1) (exo (hp.objs.size + 1) C none)) ⟨(hp.push (PySem.W.kdv_tup us)).push (PySem.HandSPX.excO C hp.objs.size), g, dr, tk, os⟩ :=
    I1.laid (t' := tk) (fun b o z => Heap.get?_push_of_some _ (Heap.get?_push_of_some _ z)) (Nat.le_succ _) (L2.exo_ok (by heap_get))
  have r2 : Vals (V.ref (hp.objs.size + 1) :: vs) (Value.ref (hp.objs.size + 1) :: us) := .cons rfl r1
  have hl : (Value.ref (hp.objs.size + 1) :: us).length = ps.length := by rw [← r2.length]; exact F1.len _ _ _ _ hq
  have hb2 := hb _ (Value.ref (hp.objs.size + 1) :: us) I2.kIn (by simpa using hl)
  rw [List.append_nil] at hb2
  have hus : us.length ≤ sizeLine := by
    have e1 := Paired.length r1
    rw [sizeLine_eq]
    omega
  refine wpAny_call (PySem.HandSPX.call_own F.excBase_ValueError (fun Y => PySem.HandSPX.refsVE_contains Y bm hbm) (I1.kIn _ _ hC) (PySem.W.looks_findIn I1.kIn iC) (fun self => PySem.W.bind_fn I1.kIn self tI) hus (codeAny_mono
    (F1.run _ X.stack _ _ ⟨_, []⟩ _ _ _ E (hr.make C us []) (I2.env0.make C us []) hb2 r2 hq) fun r s' hq' => ?_))
  rcases r with er | fl
  · exact hx pins σ _ _ er s' I2 hq'
  · cases fl with
    | ret u =>
      obtain ⟨v, H', I3, rv, ev, q3⟩ := I2.after hq'
      subst ev
      exact ⟨rv, ⟨V.ref (hp.objs.size + 1), H', I3, rfl, q3⟩⟩
    | next => exact hq'.elim
    | brk => exact hq'.elim
    | cont => exact hq'.elim
end
end Xv

set_option Elab.async false
set_option linter.all false
set_option maxRecDepth 100000
set_option maxHeartbeats 4000000
set_option pp.maxSteps 3000
/-! the same with keywords -/
namespace PySem
namespace KwX
open PySem.W PySem.Calls PyProof.Rows PySem.HandSPX
section
variable {prog : Program} {w : World} {A : Around} {E : Value → Shared → Prop} {R : Result → Shared → Prop} {h : Heap} {g : Array GenState} {d : Drawn} {t : Nat} {os : OsState}
variable {nm q : Str} {C N : Addr} {bs bm bmB : List Value} {hdct : Bool} {sn : List Str} {sub : List Value} {ab : Bool} {col : Option Bool} {dd : Option Addr} {k0 k1 k2 k3 k5 : Option Value} {B newId initId : String} {kv : Value}
theorem check_newK {M : Model} (F : ExcBaseFacts B newId initId bmB) (hT : ∀ T : String, bm.contains (.type T) = bmB.contains (.type T)) {us : List Value} {Q : Unit → Shared → Prop}
    (hC : h.get? C = some (excClassObj nm q C N bs bm hdct sn sub ab col dd k0 k1 k2 k3 k5 newId)) (hq : Q () ⟨h, g, d, t, os⟩) :
    wpAny M A (checkBuiltinCall newId ⟨.ref C :: us, [(("most" : Str), kv)]⟩) Q E ⟨h, g, d, t, os⟩ := by
  have hcB : (Value.ref C :: bm).contains (.type B) = true := by
    rw [List.contains_cons, hT, F.hasB]
    exact Bool.or_true _
  have hs := F.noStar
  simp only [checkBuiltinCall, F.newKind, F.newSplit, F.newRow]
  repeat (first
    | refine wpAny_loadPart_at hC ?_
    | (refine wpAny_isSubtype_exc hC ?_; rw [hcB])
    | refine wpAny_staticBase_exc hC ?_
    | refine wpAny_madeBy_exc hC ?_
    | simp only [bne_self_eq_false, Bool.false_eq_true, if_false]
    | wp_step)
  exact hq
theorem newK (F : ExcBaseFacts B newId initId bmB) (hT : ∀ T : String, bm.contains (.type T) = bmB.contains (.type T)) {us : List Value}
    (hC : h.get? C = some (excClassObj nm q C N bs bm hdct sn sub ab col dd k0 k1 k2 k3 k5 newId)) (hl : us.length ≤ sizeLine)
    (hq : R (.ok (.ret (.ref (h.objs.size + 1)))) ⟨(h.push (W.kdv_tup us)).push (excO C h.objs.size), g, d, t, os⟩) :
    codeAny (model prog w) A (.builtin newId ⟨.ref C :: us, [(("most" : Str), kv)]⟩) R ⟨h, g, d, t, os⟩ := by
  have he := F.ends
  have hcB : (Value.ref C :: bm).contains (.type B) = true := by
    rw [List.contains_cons, hT, F.hasB]
    exact Bool.or_true _
  have nA : (Value.ref C :: bm).contains (.type "AttributeError") = false := by
    rw [List.contains_cons, hT, F.noAttr]
    rfl
  have nN : (Value.ref C :: bm).contains (.type "NameError") = false := by
    rw [List.contains_cons, hT, F.noName]
    rfl
  refine codeAny_builtinAt F.entry ?_
  unfold Builtin.«BaseException.__new__»
  refine wpAt_bind ?_
  show wpAt _ _ _ (stack >>= _) _ _ _
  refine wpAt_bind (wpAt_stack fun p below => wpAt_of_wpAny ?_)
  wp_walk
  refine wpAt_of_wpAny ?_
  rw [F.owner]
  repeat (first
    | with_reducible refine wpAny_madeHere_exc F.canon hC ?_
    | with_reducible refine wpAny_loadPart_at hC ?_
    | (with_reducible refine wpAny_isSubtype_exc hC ?_; first | rw [hcB] | rw [nA] | rw [nN])
    | wp_step)
  show R _ _
  rw [Heap.size_push]
  exact hq
theorem type_callK (F : ExcBaseFacts B newId initId bmB) (hT : ∀ T : String, bm.contains (.type T) = bmB.contains (.type T)) {us : List Value} {fI : Addr} {Q : Fin → Shared → Prop}
    (hC : h.get? C = some (excClassObj nm q C N bs bm hdct sn sub ab col dd k0 k1 k2 k3 k5 newId)) (hl : us.length ≤ sizeLine)
    (hi : W.Looks (model prog w) h (typeLookup (.ref C) "__init__") (some (.ref fI))) (hb : ∀ self, W.Looks (model prog w) h (bindSpecial (.ref fI) self) (.ref fI, [self]))
    (hq : codeAny (model prog w) A (.call (.ref fI) ⟨.ref (h.objs.size + 1) :: us, [(("most" : Str), kv)]⟩)
      (fun r s' => match r with | .ok (.ret v) => v = .none ∧ Q (.done (.ret (.ref (h.objs.size + 1)))) s' | .ok _ => False | .error e => E e s') ⟨(h.push (W.kdv_tup us)).push (excO C h.objs.size), g, d, t, os⟩) :
    wpAny (model prog w) A (Builtin.«type.__call__» ⟨.ref C :: us, [(("most" : Str), kv)]⟩) Q E ⟨h, g, d, t, os⟩ := by
  have kp : ∀ b o, h.get? b = some o → ((h.push (W.kdv_tup us)).push (excO C h.objs.size)).get? b = some o := fun b o z => Heap.get?_push_of_some _ (Heap.get?_push_of_some _ z)
  have hC2 := kp _ _ hC
  have hE : ((h.push (W.kdv_tup us)).push (excO C h.objs.size)).get? (h.objs.size + 1) = some (excO C h.objs.size) := by heap_get
  have hcC : (Value.ref C :: bm).contains (.ref C) = true := by simp
  repeat (first
    | with_reducible refine wpAny_loadPart_at hC ?_
    | with_reducible refine wpAny_madeBy_exc hC ?_
    | wp_step)
  refine codeAny_call_builtin_code (Code.quiet_builtin _ F.quiet) (check_newK F hT hC (newK F hT hC hl ?_))
  show wpAny _ _ _ _ _ _
  unfold isInstance
  repeat (first
    | with_reducible refine wpAny_loadPart_at hE ?_
    | (with_reducible refine wpAny_isSubtype_exc hC2 ?_; rw [hcC])
    | wp_step)
  show wpAny _ _ (typeLookup (.ref C) _) _ _ _
  refine (hi.keeps kp).at (wpAny_holding (wpAny_bind (((hb (.ref (h.objs.size + 1))).keeps kp).at ?_)))
  refine wpAny_bind (wpAny_call (codeAny_mono hq fun r s' z => ?_))
  rcases r with e | (v | _ | _ | _) <;> first | exact z | exact False.elim z | skip
  obtain ⟨rfl, z2⟩ := z
  first
    | exact wpAny_pure (wpAny_pure z2)
    | (wp_walk; exact z2)
theorem call_ownK (F : ExcBaseFacts B newId initId bmB) (hT : ∀ T : String, bm.contains (.type T) = bmB.contains (.type T)) {us : List Value} {fI : Addr}
    (hC : h.get? C = some (excClassObj nm q C N bs bm hdct sn sub ab col dd k0 k1 k2 k3 k5 newId)) (hl : us.length ≤ sizeLine)
    (hi : W.Looks (model prog w) h (typeLookup (.ref C) "__init__") (some (.ref fI))) (hb : ∀ self, W.Looks (model prog w) h (bindSpecial (.ref fI) self) (.ref fI, [self]))
    (hq : codeAny (model prog w) (A.under (.builtin "type.__call__" ⟨.ref C :: us, [(("most" : Str), kv)]⟩)) (.call (.ref fI) ⟨.ref (h.objs.size + 1) :: us, [(("most" : Str), kv)]⟩) (W.InitBack (h.objs.size + 1) R) ⟨(h.push (W.kdv_tup us)).push (excO C h.objs.size), g, d, t, os⟩) :
    codeAny (model prog w) A (.call (.ref C) ⟨us, [(("most" : Str), kv)]⟩) R ⟨h, g, d, t, os⟩ := by
  have f1 := tc_lookup
  have f2 := tc_bind (.ref C)
  have hTy : (⟨h, g, d, t, os⟩ : Shared).TypeIs (.ref C) "type" := ⟨_, hC, rfl⟩
  refine codeAny_of_tree ?_
  show wpAny _ _ (callAny (.ref C) _) _ _ _
  repeat (any_goals (first
    | assumption
    | with_reducible refine wpAny_loadPart_at hC ?_
    | wp_step))
  refine ⟨rfl, codeAny_call_builtin_at (Code.quiet_builtin _ (by decide +kernel)) entry_typeCall (wpAny_check_type_call_sub hC (type_callK F hT hC hl hi hb (codeAny_mono hq fun r s' z => ?_)))⟩
  rcases r with e | (v | _ | _ | _) <;> exact z
end
end KwX
end PySem
namespace Xv
open PySem PySem.Spec PyProof.Rows L2
/-! C(most = e) as a value -/
def tErrVK (C : Addr) (sp : Sp) (E : XK) (tk : TA) : TE := fun σ H Q => tk σ H fun zs H1 => ∃ v, zs = [v] ∧ ∀ a, H1 a = none → sp [.ref a, v] (upd H1 a (exo a C none)) (fun v H2 => v = .non ∧ Q (.ref a) H2) E
section
variable {X : Cx} {kws : List Keyword} {tk : TA} {x : Str} {p pos : Pos}
theorem pe_errVK {CX : CXT} {C fI : Addr} {k : Nat} {fd : FuncData} {ps : List Str} {sp : Sp} {E : XK} (T : OexC X.K C) (iC : PySem.W.findIn X.K (.ref C) "__init__" = some (some (.ref fI))) (tI : PySem.W.typeIn X.K (.ref fI) = some (.type "function"))
    (F1 : FnOk X.prog X.w X.K X.mg X.base CX k fI fd ps sp) (hr : Room (k + 1) X.A) (hb : ∀ (s : Shared) (u v : Value), BindsTo s fd ⟨[u], [(("most" : Str), v)]⟩ (ps.zip [u, v])) (hx : Passes CX X E) (hg : Gl X x) (hm : X.mg x = some (.ref C)) (hkw : PK X kws tk)
    (hall : (backToKw pos (keywordEach kws X.env)).all (·.1.isSome) = true := by rfl) (hks : (backToKw pos (keywordEach kws X.env)).filterMap (·.1) = [("most" : Str)] := by rfl) (hdb : (x == ("__debug__" : Str)) = false := by decide)
    (hpl : ((backTo pos (starEach [] X.env)).any (·.1) || (backToKw pos (keywordEach kws X.env)).any (·.1.isNone)) = false := by rfl) :
    PE X (.Call (.Name x p) [] kws pos) (tErrVK C sp E tk) := by
  refine ⟨fun pins s σ H Q I h => wpAny_Call_Name_kw (ld_glob I hg hm ?_ hdb)⟩
  obtain ⟨nm, q, N, bs, bm, sn, sub, ab, col, dd, k0, k1, k2, k3, k5, hC, hbm⟩ := T.cls
  refine PySem.W.callWith_KW0 (h₀ := X.base) I.ok.mod.kin T.kC hall (thn (hkw.run pos pins s σ H _ I h) fun ws s1 hh => ?_) hpl
  obtain ⟨vs, H1, I1, r1, v, ev, q1⟩ := hh
  subst ev
  obtain ⟨u, rfl, ru⟩ := r1.one
  refine ⟨I1.kIn, ?_⟩
  rw [hks]
  show wpAny _ _ (call (.ref C) [] [(("most" : Str), u)]) _ _ _
  obtain ⟨hp, g, dr, tk, os⟩ := s1
  have hq := q1 (hp.objs.size + 1) (I1.hok.fresh (Nat.le_succ _))
  have I2 : Inv X pins σ (upd H1 (hp.objs.size + 1) (exo (hp.objs.size + 1) C none)) ⟨(hp.push (PySem.W.kdv_tup [])).push (PySem.HandSPX.excO C hp.objs.size), g, dr, tk, os⟩ :=
    I1.laid (t' := tk) (fun b o z => Heap.get?_push_of_some _ (Heap.get?_push_of_some _ z)) (Nat.le_succ _) (L2.exo_ok (by heap_get))
  have r2 : Vals [V.ref (hp.objs.size + 1), v] [Value.ref (hp.objs.size + 1), u] := .cons rfl (.cons ru .nil)
  refine wpAny_call (PySem.KwX.call_ownK F.excBase_ValueError (fun Y => PySem.HandSPX.refsVE_contains Y bm hbm) (I1.kIn _ _ hC) (Nat.zero_le _) (PySem.W.looks_findIn I1.kIn iC) (fun self => PySem.W.bind_fn I1.kIn self tI) (codeAny_mono
    (F1.run _ X.stack _ _ ⟨_, _⟩ _ _ _ E (hr.make C [] _) (I2.env0.make C [] _) (hb _ _ _) r2 hq) fun r s' hq' => ?_))
  rcases r with er | fl
  · exact hx pins σ _ _ er s' I2 hq'
  · cases fl with
    | ret w =>
      obtain ⟨y, H', I3, rv, ev, q3⟩ := I2.after hq'
      subst ev
      exact ⟨rv, ⟨V.ref (hp.objs.size + 1), H', I3, rfl, q3⟩⟩
    | next => exact hq'.elim
    | brk => exact hq'.elim
    | cont => exact hq'.elim
end
end Xv

set_option Elab.async false
set_option linter.all false
set_option maxRecDepth 100000
set_option maxHeartbeats 4000000
set_option pp.maxSteps 3000
namespace Xv
open PySem PySem.Spec PyProof.Rows L2
/-! ### repr of a list of data -/
theorem pe_lstN {X : Cx} {es : List Expr} {t : TA} {pos : Pos} (h : PA X es t) : PE X (.List es pos) (fun σ H Q => t σ H fun xs H1 => xs.length ≤ sizeLine ∧ ∀ p, H1 p = none → p ≠ sysModules → Q (.ref p) (upd H1 p (.lst xs))) := by
  refine ⟨fun pins s σ H Q I hq => wpAny_List_spliced (thn (h.run pos pins s σ H _ I hq) fun us s1 hh => ?_)⟩
  obtain ⟨xs, H1, I1, r, z, q⟩ := hh
  have hz : us.length ≤ sizeLine := by
    rw [← r.length]
    exact z
  refine ⟨hz, ⟨.ref s1.heap.objs.size, upd H1 s1.heap.objs.size (.lst xs), I1.laid (t' := s1.toks) (fun b u e => Heap.get?_push_of_some _ e) (Nat.le_refl _) ⟨z, us, 0, r, Heap.get?_push_size _ rfl⟩, rfl, ?_⟩⟩
  exact q _ (I1.hok.fresh (Nat.le_refl _)) (Nat.ne_of_gt I1.big)
inductive Th (K : PySem.W.Frag) (H : Hp) : V → PyData → Prop
  | dp {v : V} {d : PyData} : Dp K H v d → d.hasDict = false → Th K H v d
  | dic0 {a : Addr} : H a = some (.dK []) → Th K H (.ref a) (.dict [])
  | dic1 {a t : Addr} {x : Str} : H a = some (.dK [(.inr x, .ref t)]) → H t = some (.tup [.int 1]) → Th K H (.ref a) (.dict [(.str x, .tuple [.int 1])])
theorem Th.reads {X : Cx} {pins : List (Addr × Obj)} {σ : L2.St} {H : Hp} {s : Shared} {v : V} {d : PyData} {u : Value} (I : Inv X pins σ H s) (h : Th X.K H v d) (r : RelV v u) : ∃ as, Reads s.heap u d as ∧ (d.hasDict = true → sysModules ∉ as) := by
  cases h with
  | dp h n =>
    obtain ⟨as, q⟩ := Dp.reads I d _ _ h r
    exact ⟨as, q, fun z => by rw [n] at z; cases z⟩
  | @dic0 a h =>
    cases (show u = Value.ref a from r)
    have q : ObjOk X.prog X.w H s.heap a (.dK []) := I.hok a _ h
    obtain ⟨_, ns, vs, kv, o, es, ep, ho, hx, hd, _, hp, _⟩ := q
    cases kv
    obtain ⟨l⟩ := es
    have hp2 : Pairs (mixKind X.prog X.w) l [] := hp
    cases hp2
    exact ⟨_, Reads.dict ho hx.1 hd .nil .nil, fun _ z => by
      have e : sysModules = a := by simpa using z
      rw [e] at ns
      simp at ns⟩
  | @dic1 a t x h ht =>
    cases (show u = Value.ref a from r)
    have q : ObjOk X.prog X.w H s.heap a (.dK [(.inr x, .ref t)]) := I.hok a _ h
    obtain ⟨_, ns, vs, kv, o, es, ep, ho, hx, hd, _, hp, _⟩ := q
    cases kv with
    | @cons _ kq _ ks k1 k2 =>
      cases k2
      obtain ⟨kk, kw⟩ := kq
      obtain ⟨e1, e2⟩ := k1
      have e1' : (Sum.inr x : Key) = kk := e1
      subst e1'
      cases (show kw = Value.ref t from e2)
      obtain ⟨l⟩ := es
      have hp2 : Pairs (mixKind X.prog X.w) l [(Sum.inr x, Value.ref t)] := hp
      cases hp2 with
      | @cons en _ rs _ ha hb hc =>
        cases hc
        obtain ⟨hh, ek, ev⟩ := en
        have hv : ev = Value.ref t := hb
        subst hv
        rcases keyIs_shape (show keyIs (Sum.inr x) ek = true from ha) with ⟨i, t', e3, _⟩ | ⟨y, t', e3, e4⟩
        · cases e3
        · cases e3
          cases e4
          obtain ⟨as, hr⟩ := Dp.reads I (.tuple [.int 1]) (.ref t) (.ref t) (.tup (SqT.of ht) (.cons (.int 1) .nil)) rfl
          have has : as = [] := by
            cases hr with
            | @tuple _ oo vs n xs as' h1 h2 h3 h4 =>
              obtain ⟨l⟩ := vs
              have h4' : ReadsAll s.heap l [.int 1] as := h4
              cases h4' with
              | cons h5 h6 =>
                cases h5
                cases h6
                rfl
          subst has
          refine ⟨_, Reads.dict (kvs := [(.str x, .tuple [.int 1])]) ho hx.1 hd (.cons (.str x t') .nil) (.cons hr .nil), fun _ z => ?_⟩
          have e : sysModules = a := by simpa using z
          rw [e] at ns
          simp at ns
/-- repr([v, v]), v one of these things -/
def rRep2 (K : PySem.W.Frag) : List V → Hp → VK → Prop := fun xs H Q => ∃ (l : Addr) (v : V) (d : PyData), xs = [.ref l] ∧ H l = some (.lst [v, v]) ∧ l ≠ sysModules ∧ Th K H v d ∧ (PyData.list [d, d]).showable = true ∧ (PyData.list [d, d]).depth ≤ 50 ∧
  (PyData.list [d, d]).shown.length ≤ sizeLine ∧ Q (.str (PyData.list [d, d]).shown) H
theorem call_rep2 {X : Cx} (hg : X.A.guards = some []) (hu : X.A.units + 64 < cLine) : CallR X (.builtin "repr") (rRep2 X.K) := by
  intro pins s σ H xs us Q I r h
  obtain ⟨l, v, d, rfl, hl, nl, T, h1, h2, h3, q⟩ := h
  obtain ⟨u, rfl, ru⟩ := r.one
  cases (show u = Value.ref l from ru)
  obtain ⟨its, rv, ⟨o, n, ho, hc, _, hd⟩, _⟩ := I.list (SqL.of hl)
  cases rv with
  | @cons _ u1 _ us1 r1 rr =>
    cases rr with
    | @cons _ u2 _ us2 r2 rr2 =>
      cases rr2
      obtain ⟨as1, q1, n1⟩ := T.reads I r1
      obtain ⟨as2, q2, n2⟩ := T.reads I r2
      refine repr_of_reads' (h₀ := s.heap) (Reads.list ho hc hd (.cons q1 (.cons q2 .nil))) h1 (fun z m => ?_) hg (by omega) (fun _ _ e => e) (fun h' w tk k => ⟨.str _, H, I.kept (t' := tk) k, ⟨_, rfl⟩, q⟩) h3
      have hz : d.hasDict = true := by
        have z2 : (d.hasDict || (d.hasDict || false)) = true := z
        cases e : d.hasDict with
        | true => rfl
        | false =>
          rw [e] at z2
          cases z2
      rcases List.mem_cons.mp m with e | m
      · exact nl e.symm
      · rcases List.mem_append.mp m with m | m
        · exact n1 hz m
        · rw [List.append_nil] at m
          exact n2 hz m
end Xv

set_option Elab.async false
set_option linter.all false
set_option maxRecDepth 100000
set_option maxHeartbeats 4000000
set_option pp.maxSteps 3000
/-! a law's own call, where what runs around is known to guard nothing (repr asks it) -/
namespace Xv
open PySem PySem.Spec PyProof.Rows L2
/-- a def keeps its promise where nothing is guarded -/
def FnG (P : Program) (w : World) (K : PySem.W.Frag) (mg : Str → Option Value) (base : Heap) (k : Nat) (f : Addr) (fd : FuncData) (ps : List Str) (sp : Sp) : Prop :=
  ∀ (A : Around) (outer : List Env) (s : Shared) (H : Hp) (args : Args) (us : List Value) (vs : List V) (Q : VK) (E : XK), A.guards = some [] → Room k A → Env0 P w K mg base A outer s H → BindsTo s fd args (ps.zip us) → Vals vs us → sp vs H Q E → codeAny (model P w) A (.call (.ref f) args) (CR CX0 outer P w H s Q E) s
section
variable {P : Program} {w : World} {K : PySem.W.Frag} {mg : Str → Option Value} {base : Heap} {x qual : Str} {params : Arguments} {body : List Stmt} {scope : Scope} {dvs : List V} {kws : List (Str × V)} {f : Addr} {fd : FuncData}
theorem fnG_of {N ps : List Str} {k : Nat} {sp : Sp} (F : FunD K x qual params body scope dvs kws f fd) (S : FnScope N ps scope) (len : ∀ vs H Q E, sp vs H Q E → vs.length = ps.length)
    (hb : ∀ (cdv : Value) (A : Around) (outer : List Env) (s : Shared) (H : Hp) (vs : List V) (Q : VK) (E : XK), (A.deeper (envOfC qual scope s.heap.objs.size f cdv)).guards = some [] → Room k (A.deeper (envOfC qual scope s.heap.objs.size f cdv)) → sp vs H Q E →
      ∃ t, PSs (cxOf CX0 P w K mg base N qual scope f cdv A outer s H E) body t ∧ t { nx := fun _ H' => Q .non H', rt := Q } (start N vs) H) : FnG P w K mg base (k + 1) f fd ps sp := by
  intro A outer s H args us vs Q E hg hr e0 bi rv hsp
  obtain ⟨oc, od, dV, kV, doc, pm, an, cdv, ct, osl, rfl, lk, hcd, _, _⟩ := F.ex
  have lv := len _ _ _ _ hsp
  have inK : K.In s.heap := e0.mod.kin.keeps fun b o z => (e0.bs b o z).1
  have noL : s.heap.NoLimit := e0.mod.nolimit.keeps fun b o z => (e0.bs b o z).1
  refine codeAny_call_function hr.depth (inK _ _ lk) rfl S.co S.gen rfl (PySem.W.codeRec_of inK hcd) (bi _ _ _ _ (wpAny_newFunctionEnv_cells S.kind (fun q hq => ?_) fun env he s1 c1 => ?_))
  · obtain ⟨n, v⟩ := q
    rcases S.par n (List.of_mem_zip hq).1 with z | z
    · exact .inl z
    · exact .inr ⟨z, PySem.W.cellsFrom_some _ _ _ (.inl z)⟩
  · subst he
    obtain ⟨t, ht, q⟩ := hb cdv A outer s H vs Q E hg (hr.deeper _) hsp
    have I0 : Inv (cxOf CX0 P w K mg base N qual scope f cdv A outer s H E) [] (start N vs) H s1 := inv_start S hr.hd e0 lv rv c1
    refine ⟨noL.keeps c1.toInCall.keep, codeAny_func (wpAny_mono (ht.run [] s1 (start N vs) H _ I0 q) (fun fl s' z => ?_) fun e s' z => z)⟩
    have back : ∀ {τ : L2.St} {H' : Hp} {v : V} {u : Value}, Inv (cxOf CX0 P w K mg base N qual scope f cdv A outer s H E) [] τ H' s' → RelV v u → Q v H' → CE outer P w H s Q u s' := fun {τ H' v u} J r2 q2 => ⟨v, H', J.os, J.bare, J.base, J.hok, r2, q2⟩
    cases fl with
    | ret u =>
      obtain ⟨v, τ, H', J, r2, q2⟩ := z
      exact back J r2 q2
    | next =>
      obtain ⟨τ, H', J, q2⟩ := z
      exact back (v := V.non) (u := Value.none) J rfl q2
    | brk =>
      obtain ⟨_, _, _, q2⟩ := z
      exact q2.elim
    | cont =>
      obtain ⟨_, _, _, q2⟩ := z
      exact q2.elim
end
section
variable {P : Program} {w : World} {K : PySem.W.Frag} {mg mb : Str → Option Value} {k : Nat} {fa a : Addr} {fd : FuncData} {x : Str} {sp : Sp} {z : Shared} {us : List Value} {ns : List Int}
/-- what is tracked at the entry: nothing, or the script -/
structure Begin (K : PySem.W.Frag) (H : Hp) (a : Addr) : Prop where
  one : ∀ b, H b ≠ none → b = a
  out : H a ≠ none → K.lookup a = none
theorem callG_core {H : Hp} (inK : K.In z.heap) (hm : z.heap.Ns mainGlobals mg) (hb : z.heap.Ns builtinsNs mb) (hbb : ∀ y : Str, y ≠ "__name__" → mb y = bootBuiltins y) (hlim : z.heap.NoLimit) (hg : z.gens = #[])
    (ha : z.heap.get? a = some { cls := .type "list", data := .seq us.toArray }) (hr : Room k callerA) (F : ∀ base : Heap, K.In base → base.Ns mainGlobals mg → FnG P w K mg base k fa fd [x] sp) (bi : ∀ (s : Shared) (u : Value), BindsTo s fd ⟨[u], []⟩ [(x, u)])
    (hO : Only H) (ok : HOk P w H z.heap) (B : Begin K H a) (hsp : sp [.ref a] H (fun v _ => v = .bl true) fun _ _ _ => False) :
    codeAny (model P w) callerA (.call (.ref fa) ⟨[.ref a], []⟩) (fun r s' => r = .ok (.ret (.bool true)) ∧ OldK z.heap s'.heap ∧ s'.os = z.os ∧ AllBare s'.gens) z := by
  have offD : ∀ {b : Addr} {o : Obj} {es : Array DictEntry} {ep : Nat}, z.heap.get? b = some o → o.data = .dict es ep → H b = none := by
    intro b o es ep e d
    refine Classical.byContradiction fun n => ?_
    rw [B.one b n, ha] at e
    cases e
    cases (show Data.seq us.toArray _ = Data.dict es ep from d)
  have nsB : ∀ {b : Addr} {m : Str → Option Value}, z.heap.Ns b m → (hidT z.heap H).Ns b m := by
    intro b m ⟨o, es, ep, e, d, r⟩
    exact ⟨o, es, ep, hidT_get e (offD e d), d, r⟩
  have inB : K.In (hidT z.heap H) := fun b o e => hidT_get (inK b o e) (Classical.byContradiction fun n => by
    have eb := B.one b n
    subst eb
    rw [B.out n] at e
    cases e)
  have md : Mod K mg (hidT z.heap H) := by
    obtain ⟨mc, q1, q2⟩ := hlim
    exact ⟨inB, nsB hm, ⟨mb, nsB hb, hbb⟩, ⟨mc, nsB q1, q2⟩⟩
  have e0 : Env0 P w K mg (hidT z.heap H) callerA [] z H := by
    refine ⟨rfl, md, fun b o e => of_hidT e, Nat.le_of_eq (hidT_size _ _), trivial, fun b q => ?_, ok, .of_eq hg⟩
    cases (show b ∈ ([] : List Addr) from q)
  refine codeAny_mono (F _ inB (nsB hm) callerA [] z H ⟨[.ref a], []⟩ [.ref a] [.ref a] _ _ rfl hr e0 (bi z (.ref a)) (.cons rfl .nil) hsp) fun r s' h => ?_
  rcases r with e | fl
  · exact False.elim h
  · cases fl with
    | next => exact False.elim h
    | brk => exact False.elim h
    | cont => exact False.elim h
    | ret u =>
      obtain ⟨v, H', os, bare, un, ok', rv, q⟩ := h
      cases (show v = .bl true from q)
      cases (show u = Value.bool true from rv)
      refine ⟨rfl, OldK.of_keep fun b o e => ?_, os, bare⟩
      cases hb2 : H b with
      | none => exact un.keep b o e hb2 (fun q => by cases (show b ∈ ([] : List Addr) from q)) (by simp)
      | some u =>
        rcases hO b with q | ⟨ob, xs, q⟩
        · rw [hb2] at q
          cases q
        · obtain ⟨g1, _⟩ := ok b _ q
          obtain ⟨g2, _⟩ := ok' b _ (un.frzs b ob _ q)
          rw [e] at g1
          cases g1
          exact g2
theorem law_callG (inK : K.In z.heap) (hm : z.heap.Ns mainGlobals mg) (hb : z.heap.Ns builtinsNs mb) (hbb : ∀ y : Str, y ≠ "__name__" → mb y = bootBuiltins y) (hlim : z.heap.NoLimit) (hg : z.gens = #[])
    (ha : z.heap.get? a = some { cls := .type "list", data := .seq us.toArray }) (hi : IntsAre us ns) (hl : ns.length ≤ sizeLine) (hr : Room k callerA) (F : ∀ base : Heap, K.In base → base.Ns mainGlobals mg → FnG P w K mg base k fa fd [x] sp)
    (bi : ∀ (s : Shared) (u : Value), BindsTo s fd ⟨[u], []⟩ [(x, u)]) (hsp : ∀ H : Hp, Only H → SqL K H a (ns.map V.int) → sp [.ref a] H (fun v _ => v = .bl true) fun _ _ _ => False) :
    codeAny (model P w) callerA (.call (.ref fa) ⟨[.ref a], []⟩) (fun r s' => r = .ok (.ret (.bool true)) ∧ OldK z.heap s'.heap ∧ s'.os = z.os ∧ AllBare s'.gens) z := by
  have rv := vals_ints hi
  cases hk : K.lookup a with
  | some o =>
    have e := inK a o hk
    rw [ha] at e
    cases e
    have hS : SqL K (fun _ => none) a (ns.map V.int) := .inr ⟨_, us.toArray, _, hk, rfl, rfl, rfl, by rw [List.size_toArray, hi.length]; exact hl, by simpa using rv⟩
    exact callG_core inK hm hb hbb hlim hg ha hr F bi (fun _ => .inl rfl) (fun b u q => by cases (show (none : Option HO) = some u from q)) ⟨fun b n => absurd rfl n, fun n => absurd rfl n⟩ (hsp _ (fun _ => .inl rfl) hS)
  | none =>
    let H : Hp := fun b => if b = a then some (.frz { cls := .type "list", data := .seq us.toArray } (.lst (ns.map V.int))) else none
    have Ha : H a = some (.frz { cls := .type "list", data := .seq us.toArray } (.lst (ns.map V.int))) := if_pos rfl
    have Hn : ∀ b, b ≠ a → H b = none := fun b n => if_neg n
    have hO : Only H := fun b => by
      by_cases e : b = a
      · subst e
        exact .inr ⟨_, _, Ha⟩
      · exact .inl (Hn b e)
    have ok : HOk P w H z.heap := fun b u q => by
      by_cases e : b = a
      · subst e
        rw [Ha] at q
        cases q
        exact ⟨ha, by rw [List.length_map]; exact hl, us, _, rv, ha⟩
      · rw [Hn b e] at q
        cases q
    exact callG_core inK hm hb hbb hlim hg ha hr F bi hO ok ⟨fun b n => Classical.byContradiction fun e => n (Hn b e), fun _ => hk⟩ (hsp H hO (.inl (.inr ⟨_, Ha⟩)))
end
theorem walkG {l : PySem.W.OpenLaw} {n k : Nat} {q : Program} {loose : List Str} {XP : (Str → Option Value) → Heap → Prop} {YP : World → Heap → Prop} {d : DefRec} {x : Str} (hn : l.most = some n) (hz : n ≤ sizeLine) (hdf : d.params.defaults = []) (hr : Room k callerA)
    (F : ∀ (w : World) (mg : Str → Option Value) (fa : Addr) (h : Heap), YP w h → h.Ns mainGlobals mg → mg d.name = some (.ref fa) → ∃ (K : PySem.W.Frag) (fd : FuncData) (sp : Sp), K.In h ∧ (∀ (s : Shared) (u : Value), BindsTo s fd ⟨[u], []⟩ [(x, u)]) ∧
      (∀ (H : Hp) (a : Addr) (ns : List Int), ns.length ≤ n → Only H → SqL K H a (ns.map V.int) → sp [.ref a] H (fun v _ => v = .bl true) fun _ _ _ => False) ∧ ∀ base : Heap, K.In base → base.Ns mainGlobals mg → FnG l.prog w K mg base k fa fd [x] sp) :
    PySem.W.WalkO q loose XP YP l.row.toRowW d [] (fun f vs => PySem.call f vs) := by
  refine Att.attach_call hn hdf fun w s0 s1 mg mb fa o pm cd doc a vs ns G Y ho hd hcd hmg hobj hints hlen hg => ?_
  obtain ⟨K, fd, sp, inK, bi, hsp, hF⟩ := F w mg fa _ Y G.T.g hmg
  exact law_callG inK G.T.g G.T.b G.T.builtins G.T.nolimit hg hobj hints (Nat.le_trans hlen hz) hr hF bi fun H hO hS => hsp H a ns hlen hO hS
end Xv

set_option Elab.async false
set_option linter.all false
set_option maxRecDepth 100000
set_option maxHeartbeats 4000000
set_option pp.deepTerms false
set_option pp.maxSteps 3000
namespace Dr
open PySem PySem.Spec PyProof.Rows L2
def top (i : Nat) : Stmt := PySem.Challenge.pw_etasure_k96_errors_of_all_parts.main.body.getD i (.Pass ⟨0, 0, 0, 0⟩)
abbrev sBegun : Stmt := top 40
abbrev sBlend : Stmt := top 41
abbrev sTake : Stmt := top 42
abbrev sPick : Stmt := top 43
abbrev FnP (K : PySem.W.Frag) (x : Str) (st : Stmt) (f : Addr) (fd : FuncData) : Prop := FunD K x x (defArgs st) (defBody st) (defScope st) [] [] f fd
/-! ### the draw: a dict of four entries, two lists -/
def kLarge : Key := Sum.inr "large"
def kCells : Key := Sum.inr "cells"
def kRest : Key := Sum.inr "rest"
def kTurn : Key := Sum.inr "turn"
def drK (l c : Addr) (r t : Int) : List (Key × V) := [(kLarge, .ref l), (kCells, .ref c), (kRest, .int r), (kTurn, .int t)]
theorem k12 : ¬ kLarge = kCells := by decide +kernel
theorem k13 : ¬ kLarge = kRest := by decide +kernel
theorem k14 : ¬ kLarge = kTurn := by decide +kernel
theorem k23 : ¬ kCells = kRest := by decide +kernel
theorem k24 : ¬ kCells = kTurn := by decide +kernel
theorem k34 : ¬ kRest = kTurn := by decide +kernel
section
variable {l c : Addr} {r t z : Int}
theorem get_large : valV (drK l c r t) kLarge = some (.ref l) := valV_pos rfl
theorem get_cells : valV (drK l c r t) kCells = some (.ref c) := (valV_neg k12).trans (valV_pos rfl)
theorem get_rest : valV (drK l c r t) kRest = some (.int r) := (valV_neg k13).trans ((valV_neg k23).trans (valV_pos rfl))
theorem get_turn : valV (drK l c r t) kTurn = some (.int t) := (valV_neg k14).trans ((valV_neg k24).trans ((valV_neg k34).trans (valV_pos rfl)))
theorem put_rest : putK (drK l c r t) kRest (.int z) = drK l c z t := by
  have h1 := k13
  have h2 := k23
  have h3 : ¬ kTurn = kRest := fun e => k34 e.symm
  simp [putK, drK, h1, h2, h3]
theorem put_turn : putK (drK l c r t) kTurn (.int z) = drK l c r z := by
  have h1 := k14
  have h2 := k24
  have h3 := k34
  simp [putK, drK, h1, h2, h3]
end
/-- the draw at d, its lists at l and c -/
structure DrawAt (H : Hp) (d l c : Addr) (ls cs : List Int) (r t : Int) : Prop where
  dd : H d = some (.dK (drK l c r t))
  dl : H l = some (.lst (ls.map V.int))
  dc : H c = some (.lst (cs.map V.int))
  lc : l ≠ c
/-- all but d and l stays -/
def SameX (d l : Addr) (H H' : Hp) : Prop := ∀ b o, H b = some o → b ≠ d → b ≠ l → H' b = some o
/-- a draw at d (its list at l): what the callers keep -/
def Draw (H : Hp) (d l : Addr) : Prop := ∃ c ls cs r t, DrawAt H d l c ls cs r t
theorem SameX.refl (d l : Addr) (H : Hp) : SameX d l H H := fun _ _ e _ _ => e
theorem SameX.trans {d l : Addr} {H H1 H2 : Hp} (a : SameX d l H H1) (b : SameX d l H1 H2) : SameX d l H H2 := fun c o e n1 n2 => b c o (a c o e n1 n2) n1 n2
theorem SameX.of {d l : Addr} {H H' : Hp} (a : Same H H') : SameX d l H H' := fun c o e _ _ => a c o e
theorem DrawAt.nl {H : Hp} {d l c : Addr} {ls cs : List Int} {r t : Int} (D : DrawAt H d l c ls cs r t) : d ≠ l := ne_of D.dd D.dl (fun z => by cases z)
theorem DrawAt.nc {H : Hp} {d l c : Addr} {ls cs : List Int} {r t : Int} (D : DrawAt H d l c ls cs r t) : d ≠ c := ne_of D.dd D.dc (fun z => by cases z)
theorem DrawAt.same {H H' : Hp} {d l c : Addr} {ls cs : List Int} {r t : Int} (D : DrawAt H d l c ls cs r t) (s : Same H H') : DrawAt H' d l c ls cs r t := ⟨s _ _ D.dd, s _ _ D.dl, s _ _ D.dc, D.lc⟩
theorem Draw.same {H H' : Hp} {d l : Addr} (D : Draw H d l) (s : Same H H') : Draw H' d l := by
  obtain ⟨c, ls, cs, r, t, D⟩ := D
  exact ⟨c, ls, cs, r, t, D.same s⟩
theorem DrawAt.rest {H : Hp} {d l c : Addr} {ls cs : List Int} {r t : Int} (D : DrawAt H d l c ls cs r t) (z : Int) : DrawAt (upd H d (.dK (drK l c z t))) d l c ls cs z t :=
  ⟨upd_same, by rw [upd_ne D.nl.symm]; exact D.dl, by rw [upd_ne D.nc.symm]; exact D.dc, D.lc⟩
theorem DrawAt.turn {H : Hp} {d l c : Addr} {ls cs : List Int} {r t : Int} (D : DrawAt H d l c ls cs r t) (z : Int) : DrawAt (upd H d (.dK (drK l c r z))) d l c ls cs r z :=
  ⟨upd_same, by rw [upd_ne D.nl.symm]; exact D.dl, by rw [upd_ne D.nc.symm]; exact D.dc, D.lc⟩
theorem DrawAt.pop {H : Hp} {d l c : Addr} {ls ls' cs : List Int} {r t : Int} (D : DrawAt H d l c ls cs r t) : DrawAt (upd H l (.lst (ls'.map V.int))) d l c ls' cs r t :=
  ⟨by rw [upd_ne D.nl]; exact D.dd, upd_same, by rw [upd_ne D.lc.symm]; exact D.dc, D.lc⟩
theorem sameX_d {H : Hp} {d l : Addr} {o : HO} : SameX d l H (upd H d o) := fun b o e n1 n2 => by rw [upd_ne n1]; exact e
theorem sameX_l {H : Hp} {d l : Addr} {o : HO} : SameX d l H (upd H l o) := fun b o e n1 n2 => by rw [upd_ne n2]; exact e
theorem sameX_new {H : Hp} {d l p : Addr} {o : HO} (n : H p = none) : SameX d l H (upd H p o) := fun b o e n1 n2 => by rw [upd_ne (ne_of_none e n)]; exact e
theorem same_new {H : Hp} {p : Addr} {o : HO} (n : H p = none) : Same H (upd H p o) := fun b o e => by rw [upd_ne (ne_of_none e n)]; exact e
theorem int_at {ns : List Int} {i : Nat} {x : V} (h : (ns.map V.int)[i]? = some x) : ∃ z, ns[i]? = some z ∧ x = .int z := by
  rw [List.getElem?_map] at h
  cases e : ns[i]? with
  | none =>
    rw [e] at h
    cases h
  | some z =>
    rw [e] at h
    exact ⟨z, rfl, (Option.some.inj h).symm⟩
theorem merge_dr {l c : Addr} {r t : Int} : mergeK [] (drK l c r t) = drK l c r t := by
  have h1 := k12
  have h2 := k13
  have h3 := k14
  have h4 := k23
  have h5 := k24
  have h6 := k34
  simp [mergeK, putK, drK, h1, h2, h3, h4, h5, h6]
theorem yesT {s : L2.St} {H : Hp} {A B : Hp → Prop} (h : A H) : tYes s H (fun b H3 => if b = true then A H3 else B H3) := by
  show if true = true then A H else B H
  rw [if_pos rfl]
  exact h
/-! ### lists of ints as data -/
def intsD (ls : List Int) : List PyData := ls.map PyData.int
theorem ints_lay : ∀ ls : List Int, PyData.canLayAll0 (intsD ls) = true
  | [] => rfl
  | z :: r => by
    show (PyData.canLay0 (.int z) && PyData.canLayAll0 (intsD r)) = true
    rw [ints_lay r]
    rfl
theorem ints_depth : ∀ ls : List Int, PyData.depthAll (intsD ls) = 0
  | [] => rfl
  | z :: r => by
    show max (PyData.depth (.int z)) (PyData.depthAll (intsD r)) = 0
    rw [ints_depth r]
    rfl
theorem ints_shaped (ls : List Int) : SeqAt.shaped (.list (intsD ls)) = true := by
  show (PyData.canLayAll0 (intsD ls) && decide (PyData.depthAll (intsD ls) + 1 ≤ 64)) = true
  rw [ints_lay, ints_depth]
  rfl
theorem ints_dp {K : PySem.W.Frag} {H : Hp} : ∀ ls : List Int, DpAll K H (ls.map V.int) (intsD ls)
  | [] => .nil
  | z :: r => .cons (.int z) (ints_dp r)
def spBegun (K : PySem.W.Frag) : Sp := fun vs H Q _ => ∃ (a : Addr) (ns : List Int), vs = [.ref a] ∧ SqL K H a (ns.map V.int) ∧ ns.length ≤ 1000 ∧
  ∀ (d l : Addr) (H' : Hp), H d = none → H l = none → Same H H' → Draw H' d l → Q (.ref d) H'
section
variable {H : Hp} {d l c : Addr} {ls cs : List Int} {r t : Int}
theorem DrawAt.gLarge (D : DrawAt H d l c ls cs r t) : DGet H d (.str "large") (some (.ref l)) := by
  have z := DGet.k (k := kLarge) D.dd
  rw [get_large] at z
  exact z
theorem DrawAt.gCells (D : DrawAt H d l c ls cs r t) : DGet H d (.str "cells") (some (.ref c)) := by
  have z := DGet.k (k := kCells) D.dd
  rw [get_cells] at z
  exact z
theorem DrawAt.gRest (D : DrawAt H d l c ls cs r t) : DGet H d (.str "rest") (some (.int r)) := by
  have z := DGet.k (k := kRest) D.dd
  rw [get_rest] at z
  exact z
theorem DrawAt.gTurn (D : DrawAt H d l c ls cs r t) : DGet H d (.str "turn") (some (.int t)) := by
  have z := DGet.k (k := kTurn) D.dd
  rw [get_turn] at z
  exact z
theorem DrawAt.pRest (D : DrawAt H d l c ls cs r t) (z : Int) : DPut H d (.str "rest") (.int z) (upd H d (.dK (drK l c z t))) := by
  have q := DPut.k (k := kRest) (v := .int z) D.dd (by show 4 < sizeLine; decide)
  rw [put_rest] at q
  exact q
theorem DrawAt.pTurn (D : DrawAt H d l c ls cs r t) (z : Int) : DPut H d (.str "turn") (.int z) (upd H d (.dK (drK l c r z))) := by
  have q := DPut.k (k := kTurn) (v := .int z) D.dd (by show 4 < sizeLine; decide)
  rw [put_turn] at q
  exact q
end
def spBlend : Sp := fun vs H Q _ => ∃ (d l c : Addr) (ls cs : List Int) (r t : Int), vs = [.ref d] ∧ DrawAt H d l c ls cs r t ∧
  ∀ (v t' : Int) (H' : Hp), DrawAt H' d l c ls cs r t' → SameX d l H H' → Q (.int v) H'
def spTake : Sp := fun vs H Q _ => ∃ (d l : Addr) (n : Int), vs = [.ref d, .int n] ∧ Draw H d l ∧ 0 < n ∧ n.natAbs.log2 < 9000 ∧
  ∀ (v : Int) (H' : Hp), 0 ≤ v → v < n → Draw H' d l → SameX d l H H' → Q (.int v) H'
section
variable {P : Program} {w : World} {K : PySem.W.Frag} {mg : Str → Option Value} {base : Heap} {f fB fT : Addr} {fd fdB fdT : FuncData}
theorem scBegun : FnScope ["script", "large", "cell"] ["script"] (defScope sBegun) := ⟨rfl, rfl, rfl, by decide +kernel, rfl, by decide +kernel, by decide +kernel⟩
theorem ok_begun (F : FnP K "_law_begun" sBegun f fd) (abs0 : mg "abs" = none) : FnOk P w K mg base CX0 1 f fd ["script"] (spBegun K) := by
  refine F.ok scBegun (fun vs H Q E h => ?_) (fun cdv A outer s H vs Q E hr h => ?_)
  · obtain ⟨a, ns, rfl, _⟩ := h
    rfl
  · obtain ⟨a, ns, rfl, hS, hlen, k⟩ := h
    refine ⟨_, PSs.nox (pss_cons (ps_setLc (i := 1) (own := [("cell", 2)]) (g := gName 2) rfl scBegun.nd rfl rfl (sw_true rfl rfl rfl (by decide +kernel)) (pi_list (pv 0)) (blkOk_by (own := [("cell", 2)]) (N := ["script", "large", "cell"]) (sc := defScope sBegun) (by decide +kernel))
        (fun _ _ _ _ _ => pg_name (i := 2) scBegun.nd rfl (Or.inl rfl)) (fun _ _ _ _ _ => pts_one (pt_cmpR op_ge (pe_callB call_abs (by rfl) abs0 boot_abs (pa_cons (pv 2) pa_nil)) (pe_op op_pow pe_int pe_int) (nomark _)))
        (fun _ _ _ _ _ => pe_op op_sub (pe_callB call_abs (by rfl) abs0 boot_abs (pa_cons (pv 2) pa_nil)) (pe_op op_pow pe_int pe_int)))
      (pss_one (ps_ret (pe_disp (pps_cons pe_str (pv 1) (pps_cons pe_str (pe_lc (own := [("cell", 2)]) (g := gName 2) rfl scBegun.nd (pi_list (pv 0)) (blkOk_by (own := [("cell", 2)]) (N := ["script", "large", "cell"]) (sc := defScope sBegun) (by decide +kernel))
        (fun _ _ _ _ _ => pg_name (i := 2) scBegun.nd rfl (Or.inl rfl)) (fun _ _ _ _ _ => pts_nil) (fun _ _ _ _ _ => pe_callB call_abs (by rfl) abs0 boot_abs (pa_cons (pv 2) pa_nil)))
        (pps_cons pe_str pe_int (pps_cons pe_str pe_int pps_nil)))) (by rfl) (by rfl) (fun z => by cases z) (by decide))))), ?_⟩
    refine ⟨_, rfl, a, rfl, ⟨_, hS⟩, fun D hD => lc_list (K := K) (a := a) (xs := ns.map V.int) (fun i H' => ∃ out : List Int, H' D = some (.lst (out.map V.int)) ∧ out.length ≤ i ∧ Same H H')
      ⟨[], upd_same, Nat.le_refl _, same_new hD⟩ (fun i H' _ ⟨_, _, _, s⟩ => s.seq hS) ?_ ?_⟩
    · rintro i x H' hi ⟨out, h1, h2, s⟩
      obtain ⟨z, hz, rfl⟩ := int_at hi
      have hlt : i < ns.length := by
        by_cases q : i < ns.length
        · exact q
        · rw [List.getElem?_eq_none (by omega)] at hz
          cases hz
      refine ⟨rfl, _, rfl, _, rfl, _, _, rfl, rfl, ⟨by decide, by decide, by decide⟩, _, _, rfl, rfl, _, rfl, ?_⟩
      refine ite2 (fun _ => ?_) (fun _ => ?_)
      · refine ⟨_, rfl, _, rfl, _, _, rfl, rfl, ⟨by decide, by decide, by decide⟩, _, _, rfl, rfl, _, h1, ?_, ?_⟩
        · rw [List.length_map]
          exact small1000 (by omega)
        · exact ⟨out ++ [(if z < 0 then -z else z) - 10 ^ (18 : Int).toNat], by rw [upd_same, List.map_append]; rfl, by rw [List.length_append]; show out.length + 1 ≤ i + 1; omega, fun b o e => by rw [upd_ne (ne_of_none e hD)]; exact s b o e⟩
      · exact ⟨out, h1, by omega, s⟩
    · rintro H1 ⟨out, h1, h2, s⟩
      intro p hp
      refine ⟨_, rfl, _, rfl, a, rfl, ⟨ns.map V.int, ?_⟩, fun D2 hD2 => lc_list (K := K) (a := a) (xs := ns.map V.int) (fun i H' => ∃ out : List Int, H' D2 = some (.lst (out.map V.int)) ∧ out.length ≤ i ∧ Same (upd H1 p (.dK [])) H')
        ⟨[], upd_same, Nat.le_refl _, same_new hD2⟩ (fun i H' _ ⟨_, _, _, s2⟩ => (s.trans ((same_new hp).trans s2)).seq hS) ?_ ?_⟩
      · exact ((same_new hp).seq (s.seq hS))
      · rintro i x H' hi ⟨out2, g1, g2, s2⟩
        obtain ⟨z, hz, rfl⟩ := int_at hi
        have hlt : i < ns.length := by
          by_cases q : i < ns.length
          · exact q
          · rw [List.getElem?_eq_none (by omega)] at hz
            cases hz
        refine ⟨rfl, yesT ?_⟩
        refine ⟨_, rfl, _, rfl, _, g1, ?_, ?_⟩
        · rw [List.length_map]
          exact small1000 (by omega)
        · exact ⟨out2 ++ [(if z < 0 then -z else z)], by rw [upd_same, List.map_append]; rfl, by rw [List.length_append]; show out2.length + 1 ≤ i + 1; omega, fun b o e => by rw [upd_ne (ne_of_none e hD2)]; exact s2 b o e⟩
      · rintro H2 ⟨out2, g1, g2, s2⟩
        have hp2 : H2 p = some (.dK []) := s2 _ _ upd_same
        refine ⟨hp2, drK D D2 0 0, rfl, (by show 4 ≤ 15; decide), ?_⟩
        have nD : D ≠ p := ne_of_none h1 hp
        have nD2 : D2 ≠ p := (ne_of_none upd_same hD2).symm
        have e1 : H2 D = some (.lst (out.map V.int)) := s2 _ _ (by rw [upd_ne nD]; exact h1)
        have nDD : D ≠ D2 := ne_of_none (o := .lst (out.map V.int)) (by rw [upd_ne nD]; exact h1) hD2
        have em : mergeK [] (drK D D2 0 0) = drK D D2 0 0 := merge_dr
        rw [em]
        refine k p D _ (s.free hp) hD (fun b o e => ?_) ⟨D2, out, out2, 0, 0, upd_same, by rw [upd_ne nD]; exact e1, by rw [upd_ne nD2]; exact g1, nDD⟩
        have nb : b ≠ p := ne_of_none (s b o e) hp
        rw [upd_ne nb]
        exact s2 b o (by rw [upd_ne nb]; exact s b o e)
theorem scBlend : FnScope ["draw", "turn", "found", "prime", "stirred", "cell"] ["draw"] (defScope sBlend) := ⟨rfl, rfl, rfl, by decide +kernel, rfl, by decide +kernel, by decide +kernel⟩
theorem pow_small {z q : Int} (h0 : 0 ≤ z) (h1 : z < q) (hq : q ≤ 2147483648) : CPow z 5 := ⟨by decide, by decide, by
  have e : (2 : Nat) ^ 64 = 18446744073709551616 := by decide
  omega⟩
theorem ok_blend (F : FnP K "_law_blend" sBlend f fd) (int0 : mg "int" = none) : FnOk P w K mg base CX0 1 f fd ["draw"] spBlend := by
  refine F.ok scBlend (fun vs H Q E h => ?_) (fun cdv A outer s H vs Q E hr h => ?_)
  · obtain ⟨d, l, c, ls, cs, r, t, rfl, _⟩ := h
    rfl
  · obtain ⟨d, l, c, ls, cs, r, t, rfl, D, k⟩ := h
    have hu := hu_of hr
    refine ⟨_, PSs.nox (pss_cons (ps_par (i := 1) (j := 2) (by rfl) scBlend.nd rfl rfl (by decide) rfl rfl (pa_cons (pe_op op_add (pe_dget hu (pv 0) pe_str (fun _ _ => rfl)) pe_int) (pa_cons pe_int pa_nil)) (by rfl))
      (pss_cons (ps_dput hu (pv 0) pe_str (pv 1) rfl)
      (pss_cons (ps_for PassesOwn.never rfl (pi_list (pe_lst (pa_cons pe_int (pa_cons pe_int (pa_cons pe_int pa_nil))))) (pg_name (i := 3) scBlend.nd rfl (Or.inl rfl))
        (pss_cons (ps_set (i := 4) scBlend.nd rfl (Or.inl rfl) (pe_op op_mod (pe_callTy call_int1 (by rfl) int0 boot_int (pa_cons (pe_op op_add (pe_op op_mul (pv 1) pe_int) (pe_op op_fdiv (pv 3) pe_int)) pa_nil)) (pv 3)))
        (pss_cons (ps_for PassesOwn.never rfl (pi_list (pe_dget hu (pv 0) pe_str (fun _ _ => rfl))) (pg_name (i := 5) scBlend.nd rfl (Or.inl rfl))
          (pss_one (ps_set (i := 4) scBlend.nd rfl (Or.inl rfl) (pe_op op_mod (pe_callTy call_int1 (by rfl) int0 boot_int (pa_cons (pe_op op_add (pe_op op_add (pe_op op_mul (pv 4) pe_int) (pe_callTy call_int1 (by rfl) int0 boot_int (pa_cons (pv 5) pa_nil))) pe_int) pa_nil)) (pv 3)))))
        (pss_one (ps_set (i := 2) scBlend.nd rfl (Or.inl rfl) (pe_op op_add (pe_op op_mul (pv 2) pe_int) (pe_op op_mod (pe_callTy call_int1 (by rfl) int0 boot_int (pa_cons (pe_op op_pow (pv 4) pe_int) pa_nil)) (pv 3))))))))
      (pss_one (ps_ret (pv 2)))))), ?_⟩
    refine ⟨_, rfl, d, _, rfl, D.gTurn, _, _, rfl, rfl, _, _, rfl, ?_⟩
    refine ⟨_, rfl, _, rfl, d, _, rfl, D.pTurn _, ?_⟩
    have D1 := D.turn (t + 1)
    refine ⟨(by show 3 ≤ sizeLine; decide), fun p hp => ?_⟩
    have D2 := D1.same (same_new (o := .lst ([2147483629, 2147483587, 2147483579].map V.int)) hp)
    refine ⟨p, rfl, ⟨[2147483629, 2147483587, 2147483579].map V.int, SqL.of upd_same⟩, for_list (K := K) (a := p) (xs := [2147483629, 2147483587, 2147483579].map V.int)
      (fun i σ H2 => ∃ (v : Int) (x3 x4 x5 : Option V), σ = [some (.ref d), some (.int (t + 1)), some (.int v), x3, x4, x5] ∧ H2 = upd (upd H d (.dK (drK l c r (t + 1)))) p (.lst ([2147483629, 2147483587, 2147483579].map V.int)))
      ⟨0, none, none, none, rfl, rfl⟩ (fun i σ H2 _ ⟨_, _, _, _, _, e⟩ => by rw [e]; exact SqL.of upd_same) ?_ ?_⟩
    · rintro i x σ H2 hi ⟨v, x3, x4, x5, rfl, rfl⟩
      obtain ⟨q, hq, rfl⟩ := int_at hi
      have hq2 : 0 < q ∧ q ≤ 2147483648 := by
        rcases i with _ | _ | _ | i
        · cases hq; exact ⟨by decide, by decide⟩
        · cases hq; exact ⟨by decide, by decide⟩
        · cases hq; exact ⟨by decide, by decide⟩
        · cases hq
      refine ⟨_, rfl, _, _, rfl, rfl, .inr ⟨by decide, by decide⟩, _, rfl, _, _, rfl, rfl, ⟨by decide, by decide⟩, _, _, rfl, rfl, .inl ⟨_, rfl, _, rfl, _, _, rfl, rfl, hq2.1, ?_⟩⟩
      refine ⟨_, rfl, d, _, rfl, D2.gCells, c, rfl, ⟨cs.map V.int, SqL.of D2.dc⟩, for_list (K := K) (a := c) (xs := cs.map V.int)
        (fun j σ H2 => ∃ (z : Int) (y5 : Option V), σ = [some (.ref d), some (.int (t + 1)), some (.int v), some (.int q), some (.int z), y5] ∧ 0 ≤ z ∧ z < q ∧ H2 = upd (upd H d (.dK (drK l c r (t + 1)))) p (.lst ([2147483629, 2147483587, 2147483579].map V.int)))
        ⟨_, x5, rfl, Int.emod_nonneg _ (by omega), Int.emod_lt_of_pos _ hq2.1, rfl⟩ (fun j σ H2 _ ⟨_, _, _, _, _, e⟩ => by rw [e]; exact SqL.of D2.dc) ?_ ?_⟩
      · rintro j x σ H2 hj ⟨z, y5, rfl, z0, z1, rfl⟩
        obtain ⟨u, hu2, rfl⟩ := int_at hj
        refine ⟨_, rfl, _, _, rfl, rfl, .inr ⟨by decide, by decide⟩, _, rfl, .inl ⟨_, rfl, _, _, rfl, rfl, _, _, rfl, rfl, .inl ⟨_, rfl, _, rfl, _, _, rfl, rfl, hq2.1, ?_⟩⟩⟩
        exact ⟨_, some (.int u), rfl, Int.emod_nonneg _ (by omega), Int.emod_lt_of_pos _ hq2.1, rfl⟩
      · rintro σ H2 ⟨z, y5, rfl, z0, z1, rfl⟩
        refine ⟨_, rfl, _, _, rfl, rfl, .inr ⟨by decide, by decide⟩, _, rfl, _, _, rfl, rfl, pow_small z0 z1 hq2.2, .inl ⟨_, rfl, _, rfl, _, _, rfl, rfl, hq2.1, _, _, rfl, rfl, ?_⟩⟩
        exact ⟨_, some (.int q), some (.int z), y5, rfl, rfl⟩
    · rintro σ H2 ⟨v, x3, x4, x5, rfl, rfl⟩
      exact ⟨_, rfl, k v (t + 1) _ D2 (sameX_d.trans (sameX_new hp))⟩
theorem pop_ix (n : Nat) : seqIndex? 0 (n + 1) = some 0 := by
  unfold seqIndex?
  simp
theorem scTake : FnScope ["draw", "size", "found"] ["draw", "size"] (defScope sTake) := ⟨rfl, rfl, rfl, by decide +kernel, rfl, by decide +kernel, by decide +kernel⟩
theorem ok_take (F : FnP K "_law_take" sTake f fd) (int0 : mg "int" = none) (FB : FnP K "_law_blend" sBlend fB fdB) (gB : mg "_law_blend" = some (.ref fB)) : FnOk P w K mg base CX0 2 f fd ["draw", "size"] spTake := by
  have GB : FnOk P w K mg base CX0 1 fB fdB ["draw"] spBlend := ok_blend FB int0
  have bB : Binds K fdB ["draw"] [] := FB.bindsN fun _ _ _ _ _ _ us hl => match us, hl with | [_], _ => rfl
  refine F.ok scTake (fun vs H Q E h => ?_) (fun cdv A outer s H vs Q E hr h => ?_)
  · obtain ⟨d, l, n, rfl, _⟩ := h
    rfl
  · obtain ⟨d, l, n, rfl, ⟨c, ls, cs, r, t, D⟩, n0, n1, k⟩ := h
    have hu := hu_of hr
    refine ⟨_, PSs.nox (pss_cons (ps_while PassesOwn.never (PW.pt (pw_and (pt_cmpR op_eq (pe_dget hu (pv 0) pe_str (fun _ _ => rfl)) pe_int (nomark _)) (pw_and1 (pt_cmpR (op_neD hr.units) (pe_dget hu (pv 0) pe_str (fun _ _ => rfl)) (pe_lst pa_nil) (nomark _)))))
        (pss_one (ps_dput hu (pv 0) pe_str (pe_bm PySem.F.plainAttrs_list PySem.F.slot_list_pop PySem.F.type_list_pop mt_popAt (pe_dget hu (pv 0) pe_str (fun _ _ => rfl)) (pa_cons pe_int pa_nil)) rfl)))
      (pss_cons (ps_if (pt_cmpR op_eq (pe_dget hu (pv 0) pe_str (fun _ _ => rfl)) pe_int (nomark _))
          (pss_one (ps_dput hu (pv 0) pe_str (pe_call GB hr rfl gB FB.kp bB .nil pass0 (pa_cons (pv 0) pa_nil)) rfl)) pss_nil)
      (pss_cons (ps_set (i := 2) scTake.nd rfl (Or.inl rfl) (pe_op op_mod (pe_callTy call_int1 (by rfl) int0 boot_int (pa_cons (pe_dget hu (pv 0) pe_str (fun _ _ => rfl)) pa_nil)) (pv 1)))
      (pss_cons (ps_dput hu (pv 0) pe_str (pe_op op_fdivW (pe_callTy call_int1 (by rfl) int0 boot_int (pa_cons (pe_dget hu (pv 0) pe_str (fun _ _ => rfl)) pa_nil)) (pv 1)) rfl)
      (pss_one (ps_ret (pv 2))))))), ?_⟩
    refine ⟨fun m σ H' => ∃ (ls' : List Int) (r' : Int), σ = [some (.ref d), some (.int n), none] ∧ DrawAt H' d l c ls' cs r' t ∧ SameX d l H H' ∧ m = ls'.length, ⟨_, ls, r, rfl, D, SameX.refl _ _ _, rfl⟩, ?_⟩
    rintro m σ H1 ⟨ls1, r1, rfl, D1, s1, rfl⟩
    refine ⟨_, rfl, d, _, rfl, D1.gRest, rfl, _, rfl, ?_⟩
    refine ite2 (fun e0 => ?_) (fun e0 => ?_)
    · refine ⟨_, rfl, d, _, rfl, D1.gLarge, ?_⟩
      refine ⟨(by show 0 ≤ sizeLine; decide), fun p hp => ?_⟩
      have D2 := D1.same (same_new (o := .lst []) hp)
      have s2 := s1.trans (sameX_new (o := .lst []) hp)
      refine ⟨.list (intsD ls1), .list [], .lst (SqL.of D2.dl) (ints_dp _), .lst (SqL.of upd_same) .nil, ints_shaped _, rfl, _, rfl, ?_⟩
      cases ls1 with
      | nil =>
        refine iteF ?_
        have D1 := D2
        have s1 := s2
        refine ⟨_, rfl, d, _, rfl, D1.gRest, rfl, _, rfl, ?_⟩
        refine ite2 (fun _ => ?_) (fun _ => ?_)
        · refine ⟨_, rfl, d, l, c, _, cs, _, t, rfl, D1, fun v t' H2 D2 s2 => ?_⟩
          have DD := D2.rest v
          have SS := (s1.trans s2).trans (sameX_d (o := .dK (drK l c v t')))
          refine ⟨_, rfl, d, _, rfl, D2.pRest v, ?_⟩
          refine ⟨_, rfl, d, _, rfl, DD.gRest, .inl ⟨_, rfl, _, rfl, _, _, rfl, rfl, n0, ?_⟩⟩
          refine ⟨_, rfl, d, _, rfl, DD.gRest, .inl ⟨_, rfl, _, rfl, _, _, rfl, rfl, ⟨n0, n1⟩, _, rfl, d, _, rfl, DD.pRest _, _, rfl, ?_⟩⟩
          exact k _ _ (Int.emod_nonneg _ (by omega)) (Int.emod_lt_of_pos _ n0) ⟨c, _, cs, _, _, DD.rest _⟩ (SS.trans sameX_d)
        · have DD := D1
          have SS := s1
          refine ⟨_, rfl, d, _, rfl, DD.gRest, .inl ⟨_, rfl, _, rfl, _, _, rfl, rfl, n0, ?_⟩⟩
          refine ⟨_, rfl, d, _, rfl, DD.gRest, .inl ⟨_, rfl, _, rfl, _, _, rfl, rfl, ⟨n0, n1⟩, _, rfl, d, _, rfl, DD.pRest _, _, rfl, ?_⟩⟩
          exact k _ _ (Int.emod_nonneg _ (by omega)) (Int.emod_lt_of_pos _ n0) ⟨c, _, cs, _, _, DD.rest _⟩ (SS.trans sameX_d)
      | cons z zs =>
        refine iteT ⟨_, fun σ' H' e => e, ?_⟩
        refine ⟨_, rfl, d, _, rfl, D2.gLarge, .inl ⟨rfl, _, SqL.of D2.dl⟩, ?_⟩
        refine ⟨l, _, _, 0, V.int z, rfl, rfl, D2.dl, by decide, by decide, pop_ix _, rfl, ?_⟩
        have D3 := D2.pop (ls' := zs)
        refine ⟨_, rfl, d, _, rfl, D3.pRest _, ?_⟩
        exact ⟨zs.length, Nat.lt_succ_self _, zs, z, rfl, D3.rest z, (s2.trans sameX_l).trans sameX_d, rfl⟩
    · refine iteF ?_
      refine ⟨_, rfl, d, _, rfl, D1.gRest, rfl, _, rfl, ?_⟩
      refine ite2 (fun _ => ?_) (fun _ => ?_)
      · refine ⟨_, rfl, d, l, c, _, cs, _, t, rfl, D1, fun v t' H2 D2 s2 => ?_⟩
        have DD := D2.rest v
        have SS := (s1.trans s2).trans (sameX_d (o := .dK (drK l c v t')))
        refine ⟨_, rfl, d, _, rfl, D2.pRest v, ?_⟩
        refine ⟨_, rfl, d, _, rfl, DD.gRest, .inl ⟨_, rfl, _, rfl, _, _, rfl, rfl, n0, ?_⟩⟩
        refine ⟨_, rfl, d, _, rfl, DD.gRest, .inl ⟨_, rfl, _, rfl, _, _, rfl, rfl, ⟨n0, n1⟩, _, rfl, d, _, rfl, DD.pRest _, _, rfl, ?_⟩⟩
        exact k _ _ (Int.emod_nonneg _ (by omega)) (Int.emod_lt_of_pos _ n0) ⟨c, _, cs, _, _, DD.rest _⟩ (SS.trans sameX_d)
      · have DD := D1
        have SS := s1
        refine ⟨_, rfl, d, _, rfl, DD.gRest, .inl ⟨_, rfl, _, rfl, _, _, rfl, rfl, n0, ?_⟩⟩
        refine ⟨_, rfl, d, _, rfl, DD.gRest, .inl ⟨_, rfl, _, rfl, _, _, rfl, rfl, ⟨n0, n1⟩, _, rfl, d, _, rfl, DD.pRest _, _, rfl, ?_⟩⟩
        exact k _ _ (Int.emod_nonneg _ (by omega)) (Int.emod_lt_of_pos _ n0) ⟨c, _, cs, _, _, DD.rest _⟩ (SS.trans sameX_d)
end
end Dr

set_option Elab.async false
set_option linter.all false
set_option maxRecDepth 100000
set_option maxHeartbeats 4000000
set_option pp.maxSteps 3000
namespace K96
open PySem PySem.Spec PyProof.Rows L2 Dr Xv
abbrev sInit : Stmt := inClass (top 38) 0
abbrev sKinds : Stmt := top 44
abbrev sPlain : Stmt := top 45
abbrev sTold : Stmt := top 46
abbrev sAny : Stmt := top 47
abbrev sLaw : Stmt := top 48
/-- the classes: 36 plain ones, the one with an attribute, the base -/
def names : List Str := List.map Str.ofString ["BadCusp", "BadFamily", "BadForm", "BadLevel", "BadMatrix", "BadMost", "BadNumber", "BadOrders", "BadPair", "BadPartition", "BadPath", "BadPeriod", "BadPiece", "BadPower", "BadPrime", "BadProduct", "BadQuotient", "BadRatio", "BadRow", "BadStep", "BadSum", "BadTerm", "BadText", "BadTwice", "BadWeight", "BadWord", "NotApart", "NotCuspidal", "NotDivided", "NotFit", "NotOne", "NotPaired", "NotProduct", "NotSquare", "NotStraight", "NotUnit", "TooMany", "SeriesError"]
/-- what the walk asks of the text -/
structure Txt (K : PySem.W.Frag) (mg : Str → Option Value) (ca : Nat → Addr) : Prop where
  gl : ∀ i, i < 38 → mg (names.getD i "") = some (.ref (ca i))
  xc : ∀ i, i < 38 → i ≠ 36 → PySem.W.excIn K (ca i) [.type "ValueError", .type "Exception", .type "BaseException", .type "object"] "ValueError.__new__" = true ∧ PySem.W.keepIn K (.ref (ca i)) = true
  ec : ∀ i, i < 38 → ExcC K (ca i)
  kit : ∀ i j, i < 38 → j < 37 → PySem.W.kitOne K (.ref (ca i)) (.ref (ca j)) = some (decide (i = j))
  kitS : ∀ i, i < 38 → PySem.W.kitOne K (.ref (ca i)) (.ref (ca 37)) = some true
  kitV : ∀ i, i < 38 → PySem.W.kitOne K (.ref (ca i)) (.type "ValueError") = some true
  isi : mg "isinstance" = none
section
variable {K : PySem.W.Frag} {mg : Str → Option Value} {ca : Nat → Addr}
/-! ### _law_kinds -/
theorem errAt_same {H H' : Hp} {a C : Addr} (h : ErrAt H a C) (s : Same H H') : ErrAt H' a C := by
  rcases h with h | ⟨d, fs, h1, h2⟩
  · exact .inl (s _ _ h)
  · exact .inr ⟨d, fs, s _ _ h1, s _ _ h2⟩
/-- one question -/
def tK (K : PySem.W.Frag) (c : Addr) : TE := tCB (rIsErr K) (tCons (tVar 0) (tCons (tC (.ref c)) tNil))
theorem tK_ok {Q : VK} {H : Hp} {k j : Nat} {e : Addr} {o : Option V} (T : Txt K mg ca) (hk : k < 38) (hj : j < 37) (he : ErrAt H e (ca k)) (q : Q (.bl (decide (k = j))) H) : tK K (ca j) [some (.ref e), o] H Q :=
  ⟨_, rfl, e, ca k, _, _, _, rfl, he, T.ec k hk, fun u r => r, T.kit k j hk hj, q⟩
def eqs (k i n : Nat) : List V := (List.range' i n).map fun j => V.bl (decide (k = j))
theorem kstep3 {D : Ends} {H0 H : Hp} {k : Nat} {e l : Addr} {acc : List V} (j : Nat) (T : Txt K mg ca) (hk : k < 38) (hj : j + 2 < 37) (hS : Same H0 H) (he : ErrAt H e (ca k)) (hl : H l = some (.lst acc)) (hn : acc.length = j)
    (q : ∀ l' H', Same H0 H' → ErrAt H' e (ca k) → H' l' = some (.lst (acc ++ eqs k j 3)) → D.nx [some (.ref e), some (.ref l')] H') :
    tAsg (tOp rCat (tVar 1) (tLst (tCons (tK K (ca j)) (tCons (tK K (ca (j + 1))) (tCons (tK K (ca (j + 2))) tNil))))) (gName 1) D [some (.ref e), some (.ref l)] H := by
  refine ⟨_, rfl, tK_ok T hk (by omega) he (tK_ok T hk (by omega) he (tK_ok T hk hj he ⟨(by show 3 ≤ sizeLine; decide), fun p hp => ?_⟩))⟩
  have s1 : Same H (upd H p _) := same_new (o := .lst (eqs k j 3)) hp
  refine ⟨l, p, acc, eqs k j 3, rfl, rfl, s1 _ _ hl, upd_same, ?_, fun p2 hp2 => ?_⟩
  · show acc.length + 3 ≤ sizeLine
    rw [hn, sizeLine_eq]
    omega
  · have s2 := s1.trans (same_new (o := .lst (acc ++ eqs k j 3)) hp2)
    exact q p2 _ (hS.trans s2) (errAt_same he s2) upd_same
theorem kstep1 {D : Ends} {H0 H : Hp} {k : Nat} {e l : Addr} {acc : List V} (j : Nat) (T : Txt K mg ca) (hk : k < 38) (hj : j < 37) (hS : Same H0 H) (he : ErrAt H e (ca k)) (hl : H l = some (.lst acc)) (hn : acc.length = j)
    (q : ∀ l' H', Same H0 H' → ErrAt H' e (ca k) → H' l' = some (.lst (acc ++ eqs k j 1)) → D.nx [some (.ref e), some (.ref l')] H') :
    tAsg (tOp rCat (tVar 1) (tLst (tCons (tK K (ca j)) tNil))) (gName 1) D [some (.ref e), some (.ref l)] H := by
  refine ⟨_, rfl, tK_ok T hk hj he ⟨(by show 1 ≤ sizeLine; decide), fun p hp => ?_⟩⟩
  have s1 : Same H (upd H p _) := same_new (o := .lst (eqs k j 1)) hp
  refine ⟨l, p, acc, eqs k j 1, rfl, rfl, s1 _ _ hl, upd_same, ?_, fun p2 hp2 => ?_⟩
  · show acc.length + 1 ≤ sizeLine
    rw [hn, sizeLine_eq]
    omega
  · have s2 := s1.trans (same_new (o := .lst (acc ++ eqs k j 1)) hp2)
    exact q p2 _ (hS.trans s2) (errAt_same he s2) upd_same
def spKinds (ca : Nat → Addr) : Sp := fun vs H Q _ => ∃ (e : Addr) (k : Nat), vs = [.ref e] ∧ k < 38 ∧ ErrAt H e (ca k) ∧ ∀ l H', Same H H' → H' l = some (.lst (eqs k 0 37)) → Q (.ref l) H'
variable {P : Program} {w : World} {base : Heap} {f : Addr} {fd : FuncData}
theorem scKinds : FnScope ["error", "found"] ["error"] (defScope sKinds) := ⟨rfl, rfl, rfl, by decide +kernel, rfl, by decide +kernel, by decide +kernel⟩
theorem ok_kinds (F : FnP K "_law_kinds" sKinds f fd) (T : Txt K mg ca) : FnOk P w K mg base CX0 1 f fd ["error"] (spKinds ca) := by
  refine F.ok scKinds (fun vs H Q E h => ?_) (fun cdv A outer s H vs Q E hr h => ?_)
  · obtain ⟨e, k, rfl, _⟩ := h
    rfl
  · obtain ⟨e, k, rfl, hk, he, q⟩ := h
    refine ⟨_, PSs.nox (pss_cons (ps_set (i := 1) scKinds.nd rfl (Or.inl rfl) (pe_lst pa_nil))
      (pss_cons (ps_set (i := 1) scKinds.nd rfl (Or.inl rfl) (pe_op op_cat (pv 1) (pe_lst (pa_cons (pe_callB call_isErr (by rfl) T.isi boot_isinstance (pa_cons (pv 0) (pa_cons (pe_glob (v := .ref (ca 0)) rfl (T.gl 0 (by decide)) rfl) pa_nil))) (pa_cons (pe_callB call_isErr (by rfl) T.isi boot_isinstance (pa_cons (pv 0) (pa_cons (pe_glob (v := .ref (ca 1)) rfl (T.gl 1 (by decide)) rfl) pa_nil))) (pa_cons (pe_callB call_isErr (by rfl) T.isi boot_isinstance (pa_cons (pv 0) (pa_cons (pe_glob (v := .ref (ca 2)) rfl (T.gl 2 (by decide)) rfl) pa_nil))) pa_nil))))))
      (pss_cons (ps_set (i := 1) scKinds.nd rfl (Or.inl rfl) (pe_op op_cat (pv 1) (pe_lst (pa_cons (pe_callB call_isErr (by rfl) T.isi boot_isinstance (pa_cons (pv 0) (pa_cons (pe_glob (v := .ref (ca 3)) rfl (T.gl 3 (by decide)) rfl) pa_nil))) (pa_cons (pe_callB call_isErr (by rfl) T.isi boot_isinstance (pa_cons (pv 0) (pa_cons (pe_glob (v := .ref (ca 4)) rfl (T.gl 4 (by decide)) rfl) pa_nil))) (pa_cons (pe_callB call_isErr (by rfl) T.isi boot_isinstance (pa_cons (pv 0) (pa_cons (pe_glob (v := .ref (ca 5)) rfl (T.gl 5 (by decide)) rfl) pa_nil))) pa_nil))))))
      (pss_cons (ps_set (i := 1) scKinds.nd rfl (Or.inl rfl) (pe_op op_cat (pv 1) (pe_lst (pa_cons (pe_callB call_isErr (by rfl) T.isi boot_isinstance (pa_cons (pv 0) (pa_cons (pe_glob (v := .ref (ca 6)) rfl (T.gl 6 (by decide)) rfl) pa_nil))) (pa_cons (pe_callB call_isErr (by rfl) T.isi boot_isinstance (pa_cons (pv 0) (pa_cons (pe_glob (v := .ref (ca 7)) rfl (T.gl 7 (by decide)) rfl) pa_nil))) (pa_cons (pe_callB call_isErr (by rfl) T.isi boot_isinstance (pa_cons (pv 0) (pa_cons (pe_glob (v := .ref (ca 8)) rfl (T.gl 8 (by decide)) rfl) pa_nil))) pa_nil))))))
      (pss_cons (ps_set (i := 1) scKinds.nd rfl (Or.inl rfl) (pe_op op_cat (pv 1) (pe_lst (pa_cons (pe_callB call_isErr (by rfl) T.isi boot_isinstance (pa_cons (pv 0) (pa_cons (pe_glob (v := .ref (ca 9)) rfl (T.gl 9 (by decide)) rfl) pa_nil))) (pa_cons (pe_callB call_isErr (by rfl) T.isi boot_isinstance (pa_cons (pv 0) (pa_cons (pe_glob (v := .ref (ca 10)) rfl (T.gl 10 (by decide)) rfl) pa_nil))) (pa_cons (pe_callB call_isErr (by rfl) T.isi boot_isinstance (pa_cons (pv 0) (pa_cons (pe_glob (v := .ref (ca 11)) rfl (T.gl 11 (by decide)) rfl) pa_nil))) pa_nil))))))
      (pss_cons (ps_set (i := 1) scKinds.nd rfl (Or.inl rfl) (pe_op op_cat (pv 1) (pe_lst (pa_cons (pe_callB call_isErr (by rfl) T.isi boot_isinstance (pa_cons (pv 0) (pa_cons (pe_glob (v := .ref (ca 12)) rfl (T.gl 12 (by decide)) rfl) pa_nil))) (pa_cons (pe_callB call_isErr (by rfl) T.isi boot_isinstance (pa_cons (pv 0) (pa_cons (pe_glob (v := .ref (ca 13)) rfl (T.gl 13 (by decide)) rfl) pa_nil))) (pa_cons (pe_callB call_isErr (by rfl) T.isi boot_isinstance (pa_cons (pv 0) (pa_cons (pe_glob (v := .ref (ca 14)) rfl (T.gl 14 (by decide)) rfl) pa_nil))) pa_nil))))))
      (pss_cons (ps_set (i := 1) scKinds.nd rfl (Or.inl rfl) (pe_op op_cat (pv 1) (pe_lst (pa_cons (pe_callB call_isErr (by rfl) T.isi boot_isinstance (pa_cons (pv 0) (pa_cons (pe_glob (v := .ref (ca 15)) rfl (T.gl 15 (by decide)) rfl) pa_nil))) (pa_cons (pe_callB call_isErr (by rfl) T.isi boot_isinstance (pa_cons (pv 0) (pa_cons (pe_glob (v := .ref (ca 16)) rfl (T.gl 16 (by decide)) rfl) pa_nil))) (pa_cons (pe_callB call_isErr (by rfl) T.isi boot_isinstance (pa_cons (pv 0) (pa_cons (pe_glob (v := .ref (ca 17)) rfl (T.gl 17 (by decide)) rfl) pa_nil))) pa_nil))))))
      (pss_cons (ps_set (i := 1) scKinds.nd rfl (Or.inl rfl) (pe_op op_cat (pv 1) (pe_lst (pa_cons (pe_callB call_isErr (by rfl) T.isi boot_isinstance (pa_cons (pv 0) (pa_cons (pe_glob (v := .ref (ca 18)) rfl (T.gl 18 (by decide)) rfl) pa_nil))) (pa_cons (pe_callB call_isErr (by rfl) T.isi boot_isinstance (pa_cons (pv 0) (pa_cons (pe_glob (v := .ref (ca 19)) rfl (T.gl 19 (by decide)) rfl) pa_nil))) (pa_cons (pe_callB call_isErr (by rfl) T.isi boot_isinstance (pa_cons (pv 0) (pa_cons (pe_glob (v := .ref (ca 20)) rfl (T.gl 20 (by decide)) rfl) pa_nil))) pa_nil))))))
      (pss_cons (ps_set (i := 1) scKinds.nd rfl (Or.inl rfl) (pe_op op_cat (pv 1) (pe_lst (pa_cons (pe_callB call_isErr (by rfl) T.isi boot_isinstance (pa_cons (pv 0) (pa_cons (pe_glob (v := .ref (ca 21)) rfl (T.gl 21 (by decide)) rfl) pa_nil))) (pa_cons (pe_callB call_isErr (by rfl) T.isi boot_isinstance (pa_cons (pv 0) (pa_cons (pe_glob (v := .ref (ca 22)) rfl (T.gl 22 (by decide)) rfl) pa_nil))) (pa_cons (pe_callB call_isErr (by rfl) T.isi boot_isinstance (pa_cons (pv 0) (pa_cons (pe_glob (v := .ref (ca 23)) rfl (T.gl 23 (by decide)) rfl) pa_nil))) pa_nil))))))
      (pss_cons (ps_set (i := 1) scKinds.nd rfl (Or.inl rfl) (pe_op op_cat (pv 1) (pe_lst (pa_cons (pe_callB call_isErr (by rfl) T.isi boot_isinstance (pa_cons (pv 0) (pa_cons (pe_glob (v := .ref (ca 24)) rfl (T.gl 24 (by decide)) rfl) pa_nil))) (pa_cons (pe_callB call_isErr (by rfl) T.isi boot_isinstance (pa_cons (pv 0) (pa_cons (pe_glob (v := .ref (ca 25)) rfl (T.gl 25 (by decide)) rfl) pa_nil))) (pa_cons (pe_callB call_isErr (by rfl) T.isi boot_isinstance (pa_cons (pv 0) (pa_cons (pe_glob (v := .ref (ca 26)) rfl (T.gl 26 (by decide)) rfl) pa_nil))) pa_nil))))))
      (pss_cons (ps_set (i := 1) scKinds.nd rfl (Or.inl rfl) (pe_op op_cat (pv 1) (pe_lst (pa_cons (pe_callB call_isErr (by rfl) T.isi boot_isinstance (pa_cons (pv 0) (pa_cons (pe_glob (v := .ref (ca 27)) rfl (T.gl 27 (by decide)) rfl) pa_nil))) (pa_cons (pe_callB call_isErr (by rfl) T.isi boot_isinstance (pa_cons (pv 0) (pa_cons (pe_glob (v := .ref (ca 28)) rfl (T.gl 28 (by decide)) rfl) pa_nil))) (pa_cons (pe_callB call_isErr (by rfl) T.isi boot_isinstance (pa_cons (pv 0) (pa_cons (pe_glob (v := .ref (ca 29)) rfl (T.gl 29 (by decide)) rfl) pa_nil))) pa_nil))))))
      (pss_cons (ps_set (i := 1) scKinds.nd rfl (Or.inl rfl) (pe_op op_cat (pv 1) (pe_lst (pa_cons (pe_callB call_isErr (by rfl) T.isi boot_isinstance (pa_cons (pv 0) (pa_cons (pe_glob (v := .ref (ca 30)) rfl (T.gl 30 (by decide)) rfl) pa_nil))) (pa_cons (pe_callB call_isErr (by rfl) T.isi boot_isinstance (pa_cons (pv 0) (pa_cons (pe_glob (v := .ref (ca 31)) rfl (T.gl 31 (by decide)) rfl) pa_nil))) (pa_cons (pe_callB call_isErr (by rfl) T.isi boot_isinstance (pa_cons (pv 0) (pa_cons (pe_glob (v := .ref (ca 32)) rfl (T.gl 32 (by decide)) rfl) pa_nil))) pa_nil))))))
      (pss_cons (ps_set (i := 1) scKinds.nd rfl (Or.inl rfl) (pe_op op_cat (pv 1) (pe_lst (pa_cons (pe_callB call_isErr (by rfl) T.isi boot_isinstance (pa_cons (pv 0) (pa_cons (pe_glob (v := .ref (ca 33)) rfl (T.gl 33 (by decide)) rfl) pa_nil))) (pa_cons (pe_callB call_isErr (by rfl) T.isi boot_isinstance (pa_cons (pv 0) (pa_cons (pe_glob (v := .ref (ca 34)) rfl (T.gl 34 (by decide)) rfl) pa_nil))) (pa_cons (pe_callB call_isErr (by rfl) T.isi boot_isinstance (pa_cons (pv 0) (pa_cons (pe_glob (v := .ref (ca 35)) rfl (T.gl 35 (by decide)) rfl) pa_nil))) pa_nil))))))
      (pss_cons (ps_set (i := 1) scKinds.nd rfl (Or.inl rfl) (pe_op op_cat (pv 1) (pe_lst (pa_cons (pe_callB call_isErr (by rfl) T.isi boot_isinstance (pa_cons (pv 0) (pa_cons (pe_glob (v := .ref (ca 36)) rfl (T.gl 36 (by decide)) rfl) pa_nil))) pa_nil))))
      (pss_one (ps_ret (pv 1))))))))))))))))), ?_⟩
    refine ⟨(by show 0 ≤ sizeLine; decide), fun l hl0 => ?_⟩
    have hS : Same H (upd H l (.lst [])) := same_new hl0
    have hl : (upd H l (.lst [])) l = some (.lst []) := upd_same
    replace he := errAt_same he hS
    generalize upd H l (.lst []) = H1 at hS hl he
    clear hl0
    refine kstep3 0 T hk (by decide) hS he hl rfl (fun l H' hS he hl => ?_)
    refine kstep3 3 T hk (by decide) hS he hl rfl (fun l H' hS he hl => ?_)
    refine kstep3 6 T hk (by decide) hS he hl rfl (fun l H' hS he hl => ?_)
    refine kstep3 9 T hk (by decide) hS he hl rfl (fun l H' hS he hl => ?_)
    refine kstep3 12 T hk (by decide) hS he hl rfl (fun l H' hS he hl => ?_)
    refine kstep3 15 T hk (by decide) hS he hl rfl (fun l H' hS he hl => ?_)
    refine kstep3 18 T hk (by decide) hS he hl rfl (fun l H' hS he hl => ?_)
    refine kstep3 21 T hk (by decide) hS he hl rfl (fun l H' hS he hl => ?_)
    refine kstep3 24 T hk (by decide) hS he hl rfl (fun l H' hS he hl => ?_)
    refine kstep3 27 T hk (by decide) hS he hl rfl (fun l H' hS he hl => ?_)
    refine kstep3 30 T hk (by decide) hS he hl rfl (fun l H' hS he hl => ?_)
    refine kstep3 33 T hk (by decide) hS he hl rfl (fun l H' hS he hl => ?_)
    refine kstep1 36 T hk (by decide) hS he hl rfl (fun l H' hS he hl => ?_)
    exact ⟨_, rfl, q l H' hS hl⟩
/-! ### _law_plain_errors -/
/-- the i-th of xs is an error of the i-th class -/
def Errs (ca : Nat → Addr) (H : Hp) (xs : List V) : Prop := ∀ (i : Nat) (x : V), xs[i]? = some x → ∃ a, x = .ref a ∧ ErrAt H a (ca i)
theorem Errs.same {H H' : Hp} {xs : List V} (h : Errs ca H xs) (s : Same H H') : Errs ca H' xs := fun i x hx => by
  obtain ⟨a, e, k⟩ := h i x hx
  exact ⟨a, e, errAt_same k s⟩
theorem Errs.snoc {H : Hp} {xs : List V} {a : Addr} {j : Nat} (h : Errs ca H xs) (hj : xs.length = j) (k : ErrAt H a (ca j)) : Errs ca H (xs ++ [.ref a]) := fun i x hx => by
  by_cases hi : i < xs.length
  · rw [List.getElem?_append_left hi] at hx
    exact h i x hx
  · rw [List.getElem?_append_right (by omega)] at hx
    by_cases e : i - xs.length = 0
    · rw [e] at hx
      cases hx
      have ei : i = j := by omega
      rw [ei]
      exact ⟨a, rfl, k⟩
    · rw [List.getElem?_eq_none (by show 1 ≤ i - xs.length; omega)] at hx
      cases hx
def tX (c : Addr) : TE := fun σ H Q => tVar 0 σ H fun _ H1 => ∀ a, H1 a = none → Q (.ref a) (upd H1 a (ExO (.ref c) a))
theorem pstep {D : Ends} {H0 H : Hp} {v : V} {l : Addr} {acc : List V} (j : Nat) (hS : Same H0 H) (hE : Errs ca H acc) (hl : H l = some (.lst acc)) (hn : acc.length = j) (hj : j < 100)
    (q : ∀ l' H' xs, Same H0 H' → Errs ca H' xs → H' l' = some (.lst xs) → xs.length = j + 4 → D.nx [some v, some (.ref l')] H') :
    tAsg (tOp rCat (tVar 1) (tLst (tCons (tX (ca j)) (tCons (tX (ca (j + 1))) (tCons (tX (ca (j + 2))) (tCons (tX (ca (j + 3))) tNil)))))) (gName 1) D [some v, some (.ref l)] H := by
  refine ⟨_, rfl, _, rfl, fun a1 h1 => ⟨_, rfl, fun a2 h2 => ⟨_, rfl, fun a3 h3 => ⟨_, rfl, fun a4 h4 => ⟨(by show 4 ≤ sizeLine; decide), fun p hp => ?_⟩⟩⟩⟩⟩
  have s1 := same_new (o := ExO (.ref (ca j)) a1) h1
  have s2 := same_new (o := ExO (.ref (ca (j + 1))) a2) h2
  have s3 := same_new (o := ExO (.ref (ca (j + 2))) a3) h3
  have s4 := same_new (o := ExO (.ref (ca (j + 3))) a4) h4
  have s5 := same_new (o := .lst [.ref a1, .ref a2, .ref a3, .ref a4]) hp
  have t4 := s4.trans s5
  have t3 := s3.trans t4
  have t2 := s2.trans t3
  have t1 := s1.trans t2
  have e1 : Errs ca _ (acc ++ [.ref a1]) := (hE.same t1).snoc hn (errAt_same (.inl upd_same) t2)
  have e2 := e1.snoc (a := a2) (j := j + 1) (by rw [List.length_append, hn]; rfl) (errAt_same (.inl upd_same) t3)
  have e3 := e2.snoc (a := a3) (j := j + 2) (by rw [List.length_append, List.length_append, hn]; rfl) (errAt_same (.inl upd_same) t4)
  have e4 := e3.snoc (a := a4) (j := j + 3) (by rw [List.length_append, List.length_append, List.length_append, hn]; rfl) (errAt_same (.inl upd_same) s5)
  rw [List.append_assoc, List.append_assoc, List.append_assoc] at e4
  refine ⟨l, p, acc, [.ref a1, .ref a2, .ref a3, .ref a4], rfl, rfl, t1 _ _ hl, upd_same, ?_, fun p2 hp2 => ?_⟩
  · show acc.length + 4 ≤ sizeLine
    rw [hn, sizeLine_eq]
    omega
  · have s6 := same_new (o := .lst (acc ++ [.ref a1, .ref a2, .ref a3, .ref a4])) hp2
    exact q p2 _ _ (hS.trans (t1.trans s6)) (e4.same s6) upd_same (by rw [List.length_append, hn]; rfl)
def spPlain (ca : Nat → Addr) : Sp := fun vs H Q _ => ∃ v : V, vs = [v] ∧ ∀ l H' xs, Same H H' → H' l = some (.lst xs) → xs.length = 36 → Errs ca H' xs → Q (.ref l) H'
theorem scPlain : FnScope ["words", "found"] ["words"] (defScope sPlain) := ⟨rfl, rfl, rfl, by decide +kernel, rfl, by decide +kernel, by decide +kernel⟩
theorem ok_plain (F : FnP K "_law_plain_errors" sPlain f fd) (T : Txt K mg ca) : FnOk P w K mg base CX0 1 f fd ["words"] (spPlain ca) := by
  refine F.ok scPlain (fun vs H Q E h => ?_) (fun cdv A outer s H vs Q E hr h => ?_)
  · obtain ⟨v, rfl, _⟩ := h
    rfl
  · obtain ⟨v, rfl, q⟩ := h
    refine ⟨_, PSs.nox (pss_cons (ps_set (i := 1) scPlain.nd rfl (Or.inl rfl) (pe_lst pa_nil))
      (pss_cons (ps_set (i := 1) scPlain.nd rfl (Or.inl rfl) (pe_op op_cat (pv 1) (pe_lst (pa_cons (pe_exc1 PySem.F.excBase_ValueError (T.xc 0 (by decide) (by decide)).1 (T.gl 0 (by decide)) (T.xc 0 (by decide) (by decide)).2 rfl (pv 0)) (pa_cons (pe_exc1 PySem.F.excBase_ValueError (T.xc 1 (by decide) (by decide)).1 (T.gl 1 (by decide)) (T.xc 1 (by decide) (by decide)).2 rfl (pv 0)) (pa_cons (pe_exc1 PySem.F.excBase_ValueError (T.xc 2 (by decide) (by decide)).1 (T.gl 2 (by decide)) (T.xc 2 (by decide) (by decide)).2 rfl (pv 0)) (pa_cons (pe_exc1 PySem.F.excBase_ValueError (T.xc 3 (by decide) (by decide)).1 (T.gl 3 (by decide)) (T.xc 3 (by decide) (by decide)).2 rfl (pv 0)) pa_nil)))))))
      (pss_cons (ps_set (i := 1) scPlain.nd rfl (Or.inl rfl) (pe_op op_cat (pv 1) (pe_lst (pa_cons (pe_exc1 PySem.F.excBase_ValueError (T.xc 4 (by decide) (by decide)).1 (T.gl 4 (by decide)) (T.xc 4 (by decide) (by decide)).2 rfl (pv 0)) (pa_cons (pe_exc1 PySem.F.excBase_ValueError (T.xc 5 (by decide) (by decide)).1 (T.gl 5 (by decide)) (T.xc 5 (by decide) (by decide)).2 rfl (pv 0)) (pa_cons (pe_exc1 PySem.F.excBase_ValueError (T.xc 6 (by decide) (by decide)).1 (T.gl 6 (by decide)) (T.xc 6 (by decide) (by decide)).2 rfl (pv 0)) (pa_cons (pe_exc1 PySem.F.excBase_ValueError (T.xc 7 (by decide) (by decide)).1 (T.gl 7 (by decide)) (T.xc 7 (by decide) (by decide)).2 rfl (pv 0)) pa_nil)))))))
      (pss_cons (ps_set (i := 1) scPlain.nd rfl (Or.inl rfl) (pe_op op_cat (pv 1) (pe_lst (pa_cons (pe_exc1 PySem.F.excBase_ValueError (T.xc 8 (by decide) (by decide)).1 (T.gl 8 (by decide)) (T.xc 8 (by decide) (by decide)).2 rfl (pv 0)) (pa_cons (pe_exc1 PySem.F.excBase_ValueError (T.xc 9 (by decide) (by decide)).1 (T.gl 9 (by decide)) (T.xc 9 (by decide) (by decide)).2 rfl (pv 0)) (pa_cons (pe_exc1 PySem.F.excBase_ValueError (T.xc 10 (by decide) (by decide)).1 (T.gl 10 (by decide)) (T.xc 10 (by decide) (by decide)).2 rfl (pv 0)) (pa_cons (pe_exc1 PySem.F.excBase_ValueError (T.xc 11 (by decide) (by decide)).1 (T.gl 11 (by decide)) (T.xc 11 (by decide) (by decide)).2 rfl (pv 0)) pa_nil)))))))
      (pss_cons (ps_set (i := 1) scPlain.nd rfl (Or.inl rfl) (pe_op op_cat (pv 1) (pe_lst (pa_cons (pe_exc1 PySem.F.excBase_ValueError (T.xc 12 (by decide) (by decide)).1 (T.gl 12 (by decide)) (T.xc 12 (by decide) (by decide)).2 rfl (pv 0)) (pa_cons (pe_exc1 PySem.F.excBase_ValueError (T.xc 13 (by decide) (by decide)).1 (T.gl 13 (by decide)) (T.xc 13 (by decide) (by decide)).2 rfl (pv 0)) (pa_cons (pe_exc1 PySem.F.excBase_ValueError (T.xc 14 (by decide) (by decide)).1 (T.gl 14 (by decide)) (T.xc 14 (by decide) (by decide)).2 rfl (pv 0)) (pa_cons (pe_exc1 PySem.F.excBase_ValueError (T.xc 15 (by decide) (by decide)).1 (T.gl 15 (by decide)) (T.xc 15 (by decide) (by decide)).2 rfl (pv 0)) pa_nil)))))))
      (pss_cons (ps_set (i := 1) scPlain.nd rfl (Or.inl rfl) (pe_op op_cat (pv 1) (pe_lst (pa_cons (pe_exc1 PySem.F.excBase_ValueError (T.xc 16 (by decide) (by decide)).1 (T.gl 16 (by decide)) (T.xc 16 (by decide) (by decide)).2 rfl (pv 0)) (pa_cons (pe_exc1 PySem.F.excBase_ValueError (T.xc 17 (by decide) (by decide)).1 (T.gl 17 (by decide)) (T.xc 17 (by decide) (by decide)).2 rfl (pv 0)) (pa_cons (pe_exc1 PySem.F.excBase_ValueError (T.xc 18 (by decide) (by decide)).1 (T.gl 18 (by decide)) (T.xc 18 (by decide) (by decide)).2 rfl (pv 0)) (pa_cons (pe_exc1 PySem.F.excBase_ValueError (T.xc 19 (by decide) (by decide)).1 (T.gl 19 (by decide)) (T.xc 19 (by decide) (by decide)).2 rfl (pv 0)) pa_nil)))))))
      (pss_cons (ps_set (i := 1) scPlain.nd rfl (Or.inl rfl) (pe_op op_cat (pv 1) (pe_lst (pa_cons (pe_exc1 PySem.F.excBase_ValueError (T.xc 20 (by decide) (by decide)).1 (T.gl 20 (by decide)) (T.xc 20 (by decide) (by decide)).2 rfl (pv 0)) (pa_cons (pe_exc1 PySem.F.excBase_ValueError (T.xc 21 (by decide) (by decide)).1 (T.gl 21 (by decide)) (T.xc 21 (by decide) (by decide)).2 rfl (pv 0)) (pa_cons (pe_exc1 PySem.F.excBase_ValueError (T.xc 22 (by decide) (by decide)).1 (T.gl 22 (by decide)) (T.xc 22 (by decide) (by decide)).2 rfl (pv 0)) (pa_cons (pe_exc1 PySem.F.excBase_ValueError (T.xc 23 (by decide) (by decide)).1 (T.gl 23 (by decide)) (T.xc 23 (by decide) (by decide)).2 rfl (pv 0)) pa_nil)))))))
      (pss_cons (ps_set (i := 1) scPlain.nd rfl (Or.inl rfl) (pe_op op_cat (pv 1) (pe_lst (pa_cons (pe_exc1 PySem.F.excBase_ValueError (T.xc 24 (by decide) (by decide)).1 (T.gl 24 (by decide)) (T.xc 24 (by decide) (by decide)).2 rfl (pv 0)) (pa_cons (pe_exc1 PySem.F.excBase_ValueError (T.xc 25 (by decide) (by decide)).1 (T.gl 25 (by decide)) (T.xc 25 (by decide) (by decide)).2 rfl (pv 0)) (pa_cons (pe_exc1 PySem.F.excBase_ValueError (T.xc 26 (by decide) (by decide)).1 (T.gl 26 (by decide)) (T.xc 26 (by decide) (by decide)).2 rfl (pv 0)) (pa_cons (pe_exc1 PySem.F.excBase_ValueError (T.xc 27 (by decide) (by decide)).1 (T.gl 27 (by decide)) (T.xc 27 (by decide) (by decide)).2 rfl (pv 0)) pa_nil)))))))
      (pss_cons (ps_set (i := 1) scPlain.nd rfl (Or.inl rfl) (pe_op op_cat (pv 1) (pe_lst (pa_cons (pe_exc1 PySem.F.excBase_ValueError (T.xc 28 (by decide) (by decide)).1 (T.gl 28 (by decide)) (T.xc 28 (by decide) (by decide)).2 rfl (pv 0)) (pa_cons (pe_exc1 PySem.F.excBase_ValueError (T.xc 29 (by decide) (by decide)).1 (T.gl 29 (by decide)) (T.xc 29 (by decide) (by decide)).2 rfl (pv 0)) (pa_cons (pe_exc1 PySem.F.excBase_ValueError (T.xc 30 (by decide) (by decide)).1 (T.gl 30 (by decide)) (T.xc 30 (by decide) (by decide)).2 rfl (pv 0)) (pa_cons (pe_exc1 PySem.F.excBase_ValueError (T.xc 31 (by decide) (by decide)).1 (T.gl 31 (by decide)) (T.xc 31 (by decide) (by decide)).2 rfl (pv 0)) pa_nil)))))))
      (pss_cons (ps_set (i := 1) scPlain.nd rfl (Or.inl rfl) (pe_op op_cat (pv 1) (pe_lst (pa_cons (pe_exc1 PySem.F.excBase_ValueError (T.xc 32 (by decide) (by decide)).1 (T.gl 32 (by decide)) (T.xc 32 (by decide) (by decide)).2 rfl (pv 0)) (pa_cons (pe_exc1 PySem.F.excBase_ValueError (T.xc 33 (by decide) (by decide)).1 (T.gl 33 (by decide)) (T.xc 33 (by decide) (by decide)).2 rfl (pv 0)) (pa_cons (pe_exc1 PySem.F.excBase_ValueError (T.xc 34 (by decide) (by decide)).1 (T.gl 34 (by decide)) (T.xc 34 (by decide) (by decide)).2 rfl (pv 0)) (pa_cons (pe_exc1 PySem.F.excBase_ValueError (T.xc 35 (by decide) (by decide)).1 (T.gl 35 (by decide)) (T.xc 35 (by decide) (by decide)).2 rfl (pv 0)) pa_nil)))))))
      (pss_one (ps_ret (pv 1))))))))))))), ?_⟩
    refine ⟨(by show 0 ≤ sizeLine; decide), fun l hl0 => ?_⟩
    have hS : Same H (upd H l (.lst [])) := same_new hl0
    have hl : (upd H l (.lst [])) l = some (.lst []) := upd_same
    have hE : Errs ca (upd H l (.lst [])) [] := fun i x hx => by cases hx
    have hz : ([] : List V).length = 0 := rfl
    generalize upd H l (.lst []) = H1 at hS hl hE
    clear hl0
    refine pstep 0 hS hE hl hz (by decide) (fun l H' xs hS hE hl hz => ?_)
    refine pstep 4 hS hE hl hz (by decide) (fun l H' xs hS hE hl hz => ?_)
    refine pstep 8 hS hE hl hz (by decide) (fun l H' xs hS hE hl hz => ?_)
    refine pstep 12 hS hE hl hz (by decide) (fun l H' xs hS hE hl hz => ?_)
    refine pstep 16 hS hE hl hz (by decide) (fun l H' xs hS hE hl hz => ?_)
    refine pstep 20 hS hE hl hz (by decide) (fun l H' xs hS hE hl hz => ?_)
    refine pstep 24 hS hE hl hz (by decide) (fun l H' xs hS hE hl hz => ?_)
    refine pstep 28 hS hE hl hz (by decide) (fun l H' xs hS hE hl hz => ?_)
    refine pstep 32 hS hE hl hz (by decide) (fun l H' xs hS hE hl hz => ?_)
    exact ⟨_, rfl, q l H' xs hS hl hz hE⟩
end
end K96

set_option Elab.async false
set_option linter.all false
set_option maxRecDepth 100000
set_option maxHeartbeats 4000000
set_option pp.maxSteps 3000
namespace K96
open PySem PySem.Spec PyProof.Rows L2 Dr Xv
structure Txt2 (K : PySem.W.Frag) (mg : Str → Option Value) (ca : Nat → Addr) (fI : Addr) : Prop where
  ox : OexC K (ca 36)
  iC : PySem.W.findIn K (.ref (ca 36)) "__init__" = some (some (.ref fI))
  tI : PySem.W.typeIn K (.ref fI) = some (.type "function")
  rd : ErrRd K (ca 36) "most"
  kS : PySem.W.keepIn K (.ref (ca 37)) = true
  rS : PySem.W.readsIn K (ca 37) (.type "type") = true
  sS : PySem.W.specialIn K (.ref (ca 37)) "__getattribute__" = some (some (.builtin "type.__getattribute__"))
  vS : PySem.W.findCls K (.ref (ca 37)) (.type "type") "__init__" = some (.val (.builtin "ValueError.__init__"))
  len : mg "len" = none
section
variable {P : Program} {w : World} {K : PySem.W.Frag} {mg : Str → Option Value} {base : Heap} {ca : Nat → Addr} {f fI fT fP : Addr} {fd fdI fdT fdP : FuncData}
/-! ### TooMany -/
def spInit (C : Addr) : Sp := fun vs H Q _ => ∃ (a : Addr) (v : V), vs = [.ref a, v] ∧ H a = some (exo a C none) ∧ ∀ d, H d = none → d ≠ a → Q .non (upd (upd H d (exd d [(("most" : Str), v)])) a (exo a C (some d)))
theorem scInit : FnScope ["self", "most"] ["self", "most"] (defScope sInit) := ⟨rfl, rfl, rfl, by decide +kernel, rfl, by decide +kernel, by decide +kernel⟩
theorem ok_init (F : FunD K "__init__" "TooMany.__init__" (defArgs sInit) (defBody sInit) (defScope sInit) [] [] fI fdI) (T : Txt K mg ca) (U : Txt2 K mg ca fI) : FnOk P w K mg base CX0 1 fI fdI ["self", "most"] (spInit (ca 36)) := by
  refine F.ok scInit (fun vs H Q E h => ?_) (fun cdv A outer s H vs Q E hr h => ?_)
  · obtain ⟨a, v, rfl, _⟩ := h
    rfl
  · obtain ⟨a, v, rfl, ha, q⟩ := h
    refine ⟨_, PSs.nox (pss_cons (ps_expr (pe_sinit rfl (T.gl 37 (by decide)) U.kS U.rS U.sS U.vS (pa_cons (pv 0) (pa_cons pe_str pa_nil)))) (pss_one (ps_ost (pv 0) (pv 1)))), ?_⟩
    refine ⟨_, rfl, a, ca 36, _, rfl, (by show 1 ≤ 1000; decide), U.ox, ha, ?_⟩
    exact ⟨_, rfl, _, rfl, a, ca 36, rfl, U.ox, U.rd.no, .inl ⟨ha, fun d hd nd => q d hd nd⟩⟩
/-- an error with its attribute -/
def MostAt (H : Hp) (a C : Addr) (v : V) : Prop := ∃ d, H a = some (exo a C (some d)) ∧ H d = some (exd d [(("most" : Str), v)])
theorem MostAt.err {H : Hp} {a C : Addr} {v : V} (h : MostAt H a C v) : ErrAt H a C := by
  obtain ⟨d, h1, h2⟩ := h
  exact .inr ⟨d, _, h1, h2⟩
theorem MostAt.same {H H' : Hp} {a C : Addr} {v : V} (h : MostAt H a C v) (s : Same H H') : MostAt H' a C v := by
  obtain ⟨d, h1, h2⟩ := h
  exact ⟨d, s _ _ h1, s _ _ h2⟩
theorem most_made {H : Hp} {a C d : Addr} {v : V} (ha : H a = none) (hd : (upd H a (exo a C none)) d = none) (nd : d ≠ a) :
    Same H (upd (upd (upd H a (exo a C none)) d (exd d [(("most" : Str), v)])) a (exo a C (some d))) ∧ MostAt (upd (upd (upd H a (exo a C none)) d (exd d [(("most" : Str), v)])) a (exo a C (some d))) a C v := by
  rw [upd_ne nd] at hd
  refine ⟨fun b o e => ?_, d, upd_same, by rw [upd_ne nd, upd_same]⟩
  rw [upd_ne (ne_of_none e ha), upd_ne (ne_of_none e hd), upd_ne (ne_of_none e ha)]
  exact e
theorem MostAt.put {H : Hp} {a C l : Addr} {v : V} {xs : List V} {o : HO} (h : MostAt H a C v) (hl : H l = some (.lst xs)) : MostAt (upd H l o) a C v := by
  obtain ⟨d, h1, h2⟩ := h
  have n1 : a ≠ l := ne_of h1 hl (fun z => by
    have z' : HO.ext _ = HO.lst xs := z
    cases z')
  have n2 : d ≠ l := ne_of h2 hl (fun z => by
    have z' : HO.ext _ = HO.lst xs := z
    cases z')
  exact ⟨d, by rw [upd_ne n1]; exact h1, by rw [upd_ne n2]; exact h2⟩
/-! ### _law_told_errors -/
def spTold (ca : Nat → Addr) : Sp := fun vs H Q _ => ∃ v : V, vs = [v] ∧ ∀ l t e1 e2 H', Same H H' → H' l = some (.lst [.ref t]) → H' t = some (.tup [.ref e1, .ref e2, v, v]) → ErrAt H' e1 (ca 36) → ErrAt H' e2 (ca 36) → Q (.ref l) H'
theorem scTold : FnScope ["thing", "found"] ["thing"] (defScope sTold) := ⟨rfl, rfl, rfl, by decide +kernel, rfl, by decide +kernel, by decide +kernel⟩
theorem ok_told (F : FnP K "_law_told_errors" sTold f fd) (FI : FunD K "__init__" "TooMany.__init__" (defArgs sInit) (defBody sInit) (defScope sInit) [] [] fI fdI) (T : Txt K mg ca) (U : Txt2 K mg ca fI) : FnOk P w K mg base CX0 3 f fd ["thing"] (spTold ca) := by
  have GI : FnOk P w K mg base CX0 1 fI fdI ["self", "most"] (spInit (ca 36)) := ok_init FI T U
  have bI : Binds K fdI ["self", "most"] [] := FI.bindsN fun _ _ _ _ _ _ us hl => match us, hl with | [_, _], _ => rfl
  have bK : ∀ (s : Shared) (u v : Value), BindsTo s fdI ⟨[u], [(("most" : Str), v)]⟩ ([("self" : Str), ("most" : Str)].zip [u, v]) := by
    intro s u v
    obtain ⟨oc, od, dV, kV, doc, pm, an, cdv, ct, osl, rfl, lk, hcd, hD, hK⟩ := FI.ex
    rcases hD with ⟨_, rfl⟩ | ⟨e, _⟩
    · exact .of_eq rfl
    · exact absurd rfl e
  refine F.ok scTold (fun vs H Q E h => ?_) (fun cdv A outer s H vs Q E hr h => ?_)
  · obtain ⟨v, rfl, _⟩ := h
    rfl
  · obtain ⟨v, rfl, q⟩ := h
    refine ⟨_, PSs.nox (pss_cons (ps_set (i := 1) scTold.nd rfl (Or.inl rfl) (pe_lst pa_nil))
      (pss_cons (ps_expr (pe_bm PySem.F.plainAttrs_list PySem.F.slot_list_append PySem.F.type_list_append mt_append (pv 1) (pa_cons (pe_tup
        (pa_cons (pe_errV U.ox U.iC U.tI GI hr bI pass0 rfl (T.gl 36 (by decide)) (pa_cons (pv 0) pa_nil))
        (pa_cons (pe_errVK U.ox U.iC U.tI GI hr bK pass0 rfl (T.gl 36 (by decide)) (pk_cons (pv 0) pk_nil))
        (pa_cons (pe_errF (pe_errV U.ox U.iC U.tI GI hr bI pass0 rfl (T.gl 36 (by decide)) (pa_cons (pv 0) pa_nil)))
        (pa_cons (pe_errF (pe_errVK U.ox U.iC U.tI GI hr bK pass0 rfl (T.gl 36 (by decide)) (pk_cons (pv 0) pk_nil)))
        pa_nil))))) pa_nil)))
      (pss_one (ps_ret (pv 1))))), ?_⟩
    refine ⟨(by show 0 ≤ sizeLine; decide), fun l hl => ⟨_, rfl, .inl ⟨rfl, _, SqL.of upd_same⟩, ?_⟩⟩
    have s0 := same_new (o := .lst []) hl
    have l0 : (upd H l (.lst [])) l = some (.lst []) := upd_same
    generalize upd H l (.lst []) = H0 at s0 l0
    refine ⟨_, rfl, (by show 1 ≤ 1000; decide), fun a1 h1 => ⟨a1, v, rfl, upd_same, fun d1 hd1 nd1 => ⟨rfl, ?_⟩⟩⟩
    obtain ⟨s1, m1⟩ := most_made (v := v) h1 hd1 nd1
    generalize upd (upd (upd H0 a1 (exo a1 (ca 36) none)) d1 (exd d1 [(("most" : Str), v)])) a1 (exo a1 (ca 36) (some d1)) = H1 at s1 m1
    clear h1 hd1 nd1
    refine ⟨_, rfl, v, rfl, fun a2 h2 => ⟨a2, v, rfl, upd_same, fun d2 hd2 nd2 => ⟨rfl, ?_⟩⟩⟩
    obtain ⟨s2, m2⟩ := most_made (v := v) h2 hd2 nd2
    generalize upd (upd (upd H1 a2 (exo a2 (ca 36) none)) d2 (exd d2 [(("most" : Str), v)])) a2 (exo a2 (ca 36) (some d2)) = H2 at s2 m2
    clear h2 hd2 nd2
    refine ⟨_, rfl, (by show 1 ≤ 1000; decide), fun a3 h3 => ⟨a3, v, rfl, upd_same, fun d3 hd3 nd3 => ⟨rfl, ?_⟩⟩⟩
    obtain ⟨s3, m3⟩ := most_made (v := v) h3 hd3 nd3
    generalize upd (upd (upd H2 a3 (exo a3 (ca 36) none)) d3 (exd d3 [(("most" : Str), v)])) a3 (exo a3 (ca 36) (some d3)) = H3 at s3 m3
    clear h3 hd3 nd3
    obtain ⟨b3, p3, r3⟩ := m3
    refine ⟨a3, ca 36, b3, _, v, rfl, p3, r3, U.rd, by simp [List.lookup], ?_⟩
    refine ⟨_, rfl, v, rfl, fun a4 h4 => ⟨a4, v, rfl, upd_same, fun d4 hd4 nd4 => ⟨rfl, ?_⟩⟩⟩
    obtain ⟨s4, m4⟩ := most_made (v := v) h4 hd4 nd4
    generalize upd (upd (upd H3 a4 (exo a4 (ca 36) none)) d4 (exd d4 [(("most" : Str), v)])) a4 (exo a4 (ca 36) (some d4)) = H4 at s4 m4
    clear h4 hd4 nd4
    obtain ⟨b4, p4, r4⟩ := m4
    refine ⟨a4, ca 36, b4, _, v, rfl, p4, r4, U.rd, by simp [List.lookup], ?_⟩
    refine ⟨(by show 4 ≤ sizeLine; decide), fun t ht => ?_⟩
    have s5 := same_new (o := .tup [.ref a1, .ref a2, v, v]) ht
    have k1 := s1.trans (s2.trans (s3.trans s4))
    have lt : (upd H4 t (.tup [.ref a1, .ref a2, v, v])) l = some (.lst []) := s5 _ _ (k1 _ _ l0)
    have ntl : t ≠ l := fun e => by rw [← e, upd_same] at lt; cases lt
    refine ⟨l, [], .ref t, rfl, rfl, lt, (by show 0 < sizeLine; decide), ?_⟩
    have k2 := s2.trans (s3.trans (s4.trans s5))
    have k3 := s3.trans (s4.trans s5)
    refine ⟨_, rfl, q l t a1 a2 _ (fun b o e => ?_) upd_same (by rw [upd_ne ntl, upd_same]) ((m1.same k2).put lt).err ((m2.same k3).put lt).err⟩
    rw [upd_ne (ne_of_none e hl)]
    exact s5 _ _ (k1 _ _ (s0 _ _ e))
/-! ### _law_pick -/
def spPick (K : PySem.W.Frag) : Sp := fun vs H Q _ => ∃ (d l a : Addr) (xs : List V), vs = [.ref d, .ref a] ∧ Draw H d l ∧ (∀ H', SameX d l H H' → SqL K H' a xs) ∧ xs ≠ [] ∧ xs.length ≤ 1000 ∧
  ∀ (v : V) (H' : Hp), v ∈ xs → Draw H' d l → SameX d l H H' → Q v H'
theorem log_small {n : Nat} (h : n ≤ 1000) : ((n : Int)).natAbs.log2 < 9000 := by
  have e : ((n : Int)).natAbs = n := by omega
  rw [e]
  by_cases z : n = 0
  · rw [z]
    decide
  · have k : n.log2 < 10 := (Nat.log2_lt z).mpr (by omega)
    omega
theorem scPick : FnScope ["draw", "some"] ["draw", "some"] (defScope sPick) := ⟨rfl, rfl, rfl, by decide +kernel, rfl, by decide +kernel, by decide +kernel⟩
theorem ok_pick (F : FnP K "_law_pick" sPick f fd) (len0 : mg "len" = none) (GT : FnOk P w K mg base CX0 2 fT fdT ["draw", "size"] spTake) (bT : Binds K fdT ["draw", "size"] []) (gT : mg "_law_take" = some (.ref fT)) (kT : PySem.W.keepIn K (.ref fT) = true) :
    FnOk P w K mg base CX0 3 f fd ["draw", "some"] (spPick K) := by
  refine F.ok scPick (fun vs H Q E h => ?_) (fun cdv A outer s H vs Q E hr h => ?_)
  · obtain ⟨d, l, a, xs, rfl, _⟩ := h
    rfl
  · obtain ⟨d, l, a, xs, rfl, D, hA, hne, hlen, q⟩ := h
    refine ⟨_, PSs.nox (pss_one (ps_ret (pe_ix ix_list (pv 1) (pe_call GT hr rfl gT kT bT .nil pass0 (pa_cons (pv 0) (pa_cons (pe_callB call_len (by rfl) len0 PySem.boot_len (pa_cons (pv 1) pa_nil)) pa_nil))) (fun _ _ => rfl)))), ?_⟩
    have h0 : 0 < xs.length := List.length_pos_iff.mpr hne
    refine ⟨_, rfl, _, rfl, _, rfl, _, xs.length, rfl, .inl ⟨_, hA H (SameX.refl _ _ _), rfl⟩, d, l, _, rfl, D, by omega, log_small hlen, fun v H' v0 v1 D' s' => ?_⟩
    obtain ⟨i, rfl⟩ : ∃ i : Nat, v = (i : Int) := ⟨v.toNat, by omega⟩
    have hi : i < xs.length := by omega
    refine ⟨a, xs, _, xs[i], rfl, rfl, hA H' s', atI_nat (by simp [hi]), ?_⟩
    exact q _ _ (List.getElem_mem hi) D' s'
end
end K96

set_option Elab.async false
set_option linter.all false
set_option maxRecDepth 100000
set_option maxHeartbeats 4000000
set_option pp.maxSteps 3000
namespace K96
open PySem PySem.Spec PyProof.Rows L2 Dr Xv
/-! ### _law_any -/
def Good (d : PyData) : Prop := (PyData.list [d, d]).showable = true ∧ (PyData.list [d, d]).depth ≤ 50 ∧ (PyData.list [d, d]).shown.length ≤ sizeLine
def goodB (d : PyData) : Bool := (PyData.list [d, d]).showable && (decide ((PyData.list [d, d]).depth ≤ 50) && decide ((PyData.list [d, d]).shown.length ≤ sizeLine))
theorem good_by {d : PyData} (h : goodB d = true) : Good d := by
  unfold goodB at h
  simp only [Bool.and_eq_true, decide_eq_true_eq] at h
  exact ⟨h.1, h.2.1, h.2.2⟩
/-- a thing: data, in H and in all heaps that keep what H tracks -/
def Thing (K : PySem.W.Frag) (H : Hp) (v : V) : Prop := ∃ d, Good d ∧ ∀ H', Same H H' → Th K H' v d
theorem Thing.same {K : PySem.W.Frag} {H H' : Hp} {v : V} (h : Thing K H v) (s : Same H H') : Thing K H' v := by
  obtain ⟨d, g, k⟩ := h
  exact ⟨d, g, fun H2 s2 => k H2 (s.trans s2)⟩
/-- the same of the heaps that keep what is new since H0 -/
def ThingN (K : PySem.W.Frag) (H0 H : Hp) (v : V) : Prop := ∃ d, Good d ∧ ∀ H', (∀ b o, H b = some o → H0 b = none → H' b = some o) → Th K H' v d
section
variable {K : PySem.W.Frag} {H0 H : Hp}
theorem tn_flat {v : V} {d : PyData} (g : goodB d = true) (h : ∀ H', Dp K H' v d) (n : d.hasDict = false) : ThingN K H0 H v := ⟨d, good_by g, fun H' _ => .dp (h H') n⟩
theorem tn_lst0 {p : Addr} (n : H0 p = none) (e : H p = some (.lst [])) : ThingN K H0 H (.ref p) := ⟨.list [], good_by (by decide +kernel), fun H' s => .dp (.lst (SqL.of (s _ _ e n)) .nil) rfl⟩
theorem tn_lstT {p t : Addr} (n : H0 p = none) (e : H p = some (.lst [.ref t])) (nt : H0 t = none) (et : H t = some (.tup [.int 1, .int 2])) : ThingN K H0 H (.ref p) :=
  ⟨.list [.tuple [.int 1, .int 2]], good_by (by decide +kernel), fun H' s => .dp (.lst (SqL.of (s _ _ e n)) (.cons (.tup (SqT.of (s _ _ et nt)) (.cons (.int 1) (.cons (.int 2) .nil))) .nil)) rfl⟩
theorem tn_tup0 {p : Addr} (n : H0 p = none) (e : H p = some (.tup [])) : ThingN K H0 H (.ref p) := ⟨.tuple [], good_by (by decide +kernel), fun H' s => .dp (.tup (SqT.of (s _ _ e n)) .nil) rfl⟩
theorem tn_tup1 {p : Addr} (n : H0 p = none) (e : H p = some (.tup [.int 4])) : ThingN K H0 H (.ref p) := ⟨.tuple [.int 4], good_by (by decide +kernel), fun H' s => .dp (.tup (SqT.of (s _ _ e n)) (.cons (.int 4) .nil)) rfl⟩
theorem tn_dic0 {p : Addr} (n : H0 p = none) (e : H p = some (.dK [])) : ThingN K H0 H (.ref p) := ⟨.dict [], good_by (by decide +kernel), fun H' s => .dic0 (s _ _ e n)⟩
theorem tn_dic1 {p t : Addr} (n : H0 p = none) (e : H p = some (.dK [(.inr "a", .ref t)])) (nt : H0 t = none) (et : H t = some (.tup [.int 1])) : ThingN K H0 H (.ref p) :=
  ⟨.dict [(.str "a", .tuple [.int 1])], good_by (by decide +kernel), fun H' s => .dic1 (s _ _ e n) (s _ _ et nt)⟩
theorem tn_lstL {p t : Addr} (n : H0 p = none) (e : H p = some (.lst [.ref t])) (nt : H0 t = none) (et : H t = some (.lst [.non])) : ThingN K H0 H (.ref p) :=
  ⟨.list [.list [.none]], good_by (by decide +kernel), fun H' s => .dp (.lst (SqL.of (s _ _ e n)) (.cons (.lst (SqL.of (s _ _ et nt)) (.cons .non .nil)) .nil)) rfl⟩
end
def spAny (K : PySem.W.Frag) : Sp := fun vs H Q _ => ∃ (d l : Addr), vs = [.ref d] ∧ Draw H d l ∧ ∀ (v : V) (H' : Hp), Thing K H' v → Draw H' d l → SameX d l H H' → Q v H'
section
variable {P : Program} {w : World} {K : PySem.W.Frag} {mg : Str → Option Value} {base : Heap} {f fP : Addr} {fd fdP : FuncData}
theorem scAny : FnScope ["draw", "some"] ["draw"] (defScope sAny) := ⟨rfl, rfl, rfl, by decide +kernel, rfl, by decide +kernel, by decide +kernel⟩
theorem ok_any (F : FnP K "_law_any" sAny f fd) (GP : FnOk P w K mg base CX0 3 fP fdP ["draw", "some"] (spPick K)) (bP : Binds K fdP ["draw", "some"] []) (gP : mg "_law_pick" = some (.ref fP)) (kP : PySem.W.keepIn K (.ref fP) = true) :
    FnOk P w K mg base CX0 4 f fd ["draw"] (spAny K) := by
  refine F.ok scAny (fun vs H Q E h => ?_) (fun cdv A outer s H vs Q E hr h => ?_)
  · obtain ⟨d, l, rfl, _⟩ := h
    rfl
  · obtain ⟨d, l, rfl, D, q⟩ := h
    refine ⟨_, PSs.nox (pss_cons (ps_set (i := 1) scAny.nd rfl (Or.inl rfl) (pe_lst (pa_cons pe_non (pa_cons pe_bl (pa_cons pe_bl (pa_cons (pe_un un_neg pe_int) (pa_cons (pe_op op_pow pe_int pe_int) (pa_cons pe_str (pa_cons pe_str
        (pa_cons (pe_lst pa_nil) (pa_cons (pe_lst (pa_cons (pe_tup (pa_cons pe_int (pa_cons pe_int pa_nil))) pa_nil)) (pa_cons (pe_tup pa_nil) (pa_cons (pe_tup (pa_cons pe_int pa_nil)) (pa_cons pe_dnewK
        (pa_cons (pe_disp (pps_cons pe_str (pe_tup (pa_cons pe_int pa_nil)) pps_nil) (by rfl) (by rfl) (fun z => by cases z) (by decide))
        (pa_cons (pe_lst (pa_cons (pe_lst (pa_cons pe_non pa_nil)) pa_nil)) pa_nil))))))))))))))))
      (pss_one (ps_ret (pe_call GP hr rfl gP kP bP .nil pass0 (pa_cons (pv 0) (pa_cons (pv 1) pa_nil)))))), ?_⟩
    refine ⟨_, rfl, _, _, rfl, rfl, ⟨by decide, by decide, by decide⟩, (by show 0 ≤ sizeLine; decide), fun p7 h7 => ?_⟩
    have s7 := same_new (o := .lst []) h7
    have e7 : (upd H p7 (.lst [])) p7 = some (.lst []) := upd_same
    generalize upd H p7 (.lst []) = H7 at s7 e7
    refine ⟨(by show 2 ≤ sizeLine; decide), fun t8 g8 => ⟨(by show 1 ≤ sizeLine; decide), fun p8 h8 => ?_⟩⟩
    have s8 := (same_new (o := .tup [.int 1, .int 2]) g8).trans (same_new (o := .lst [.ref t8]) h8)
    have e8 : (upd (upd H7 t8 (.tup [.int 1, .int 2])) p8 (.lst [.ref t8])) p8 = some (.lst [.ref t8]) := upd_same
    have f8 : (upd (upd H7 t8 (.tup [.int 1, .int 2])) p8 (.lst [.ref t8])) t8 = some (.tup [.int 1, .int 2]) := same_new h8 _ _ upd_same
    have n8 : H p8 = none := (s7.trans (same_new (o := .tup [.int 1, .int 2]) g8)).free h8
    have m8 : H t8 = none := s7.free g8
    generalize upd (upd H7 t8 (.tup [.int 1, .int 2])) p8 (.lst [.ref t8]) = H8 at s8 e8 f8
    have u8 := s7.trans s8
    refine ⟨(by show 0 ≤ sizeLine; decide), fun p9 h9 => ?_⟩
    have s9 := same_new (o := .tup []) h9
    have e9 : (upd H8 p9 (.tup [])) p9 = some (.tup []) := upd_same
    have n9 : H p9 = none := u8.free h9
    generalize upd H8 p9 (.tup []) = H9 at s9 e9
    have u9 := u8.trans s9
    refine ⟨(by show 1 ≤ sizeLine; decide), fun p10 h10 => ?_⟩
    have s10 := same_new (o := .tup [.int 4]) h10
    have e10 : (upd H9 p10 (.tup [.int 4])) p10 = some (.tup [.int 4]) := upd_same
    have n10 : H p10 = none := u9.free h10
    generalize upd H9 p10 (.tup [.int 4]) = H10 at s10 e10
    have u10 := u9.trans s10
    refine fun p11 h11 => ?_
    have s11 := same_new (o := .dK []) h11
    have e11 : (upd H10 p11 (.dK [])) p11 = some (.dK []) := upd_same
    have n11 : H p11 = none := u10.free h11
    generalize upd H10 p11 (.dK []) = H11 at s11 e11
    have u11 := u10.trans s11
    refine fun p12 h12 => ⟨(by show 1 ≤ sizeLine; decide), fun t12 g12 => ?_⟩
    have n12 : H p12 = none := u11.free h12
    have k12 : H11 t12 = none := (same_new (o := .dK []) h12).free g12
    have m12 : H t12 = none := u11.free k12
    have d12 : p12 ≠ t12 := ne_of_none (o := .dK []) upd_same g12
    refine ⟨same_new g12 _ _ upd_same, [(.inr "a", .ref t12)], rfl, (by show 1 ≤ 15; decide), ?_⟩
    have s12 : Same H11 (upd (upd (upd H11 p12 (.dK [])) t12 (.tup [.int 1])) p12 (.dK (mergeK [] [(.inr "a", .ref t12)]))) := fun b o e => by
      rw [upd_ne (ne_of_none e h12), upd_ne (ne_of_none e k12), upd_ne (ne_of_none e h12)]
      exact e
    have e12 : (upd (upd (upd H11 p12 (.dK [])) t12 (.tup [.int 1])) p12 (.dK (mergeK [] [(.inr "a", .ref t12)]))) p12 = some (.dK [(.inr "a", .ref t12)]) := upd_same
    have f12 : (upd (upd (upd H11 p12 (.dK [])) t12 (.tup [.int 1])) p12 (.dK (mergeK [] [(.inr "a", .ref t12)]))) t12 = some (.tup [.int 1]) := by rw [upd_ne d12.symm, upd_same]
    generalize upd (upd (upd H11 p12 (.dK [])) t12 (.tup [.int 1])) p12 (.dK (mergeK [] [(.inr "a", .ref t12)])) = H12 at s12 e12 f12
    have u12 := u11.trans s12
    refine ⟨(by show 1 ≤ sizeLine; decide), fun t13 g13 => ⟨(by show 1 ≤ sizeLine; decide), fun p13 h13 => ?_⟩⟩
    have s13 := (same_new (o := .lst [.non]) g13).trans (same_new (o := .lst [.ref t13]) h13)
    have e13 : (upd (upd H12 t13 (.lst [.non])) p13 (.lst [.ref t13])) p13 = some (.lst [.ref t13]) := upd_same
    have f13 : (upd (upd H12 t13 (.lst [.non])) p13 (.lst [.ref t13])) t13 = some (.lst [.non]) := same_new h13 _ _ upd_same
    have n13 : H p13 = none := (u12.trans (same_new (o := .lst [.non]) g13)).free h13
    have m13 : H t13 = none := u12.free g13
    generalize upd (upd H12 t13 (.lst [.non])) p13 (.lst [.ref t13]) = H13 at s13 e13 f13
    have u13 := u12.trans s13
    refine ⟨(by show 14 ≤ sizeLine; decide), fun a ha => ?_⟩
    have na : H a = none := u13.free ha
    generalize hxs : ([V.non, .bl false, .bl true, .int (-5), .int (10 ^ (30 : Int).toNat), .str "", .str "two words", .ref p7, .ref p8, .ref p9, .ref p10, .ref p11, .ref p12, .ref p13] : List V) = xs
    have sa := same_new (o := .lst xs) ha
    have ea : (upd H13 a (.lst xs)) a = some (.lst xs) := upd_same
    generalize upd H13 a (.lst xs) = H14 at sa ea
    have ua := u13.trans sa
    have t13' := sa
    have t12' := s13.trans sa
    have t11' := s12.trans t12'
    have t10' := s11.trans t11'
    have t9' := s10.trans t10'
    have t8' := s9.trans t9'
    have t7' := s8.trans t8'
    obtain ⟨c, ls, cs, r, t, DD⟩ := id D
    have nad : a ≠ d := (ne_of_none DD.dd na).symm
    have nal : a ≠ l := (ne_of_none DD.dl na).symm
    refine ⟨_, rfl, _, rfl, d, l, a, xs, rfl, D.same ua, fun H' s => SqL.of (s _ _ ea nad nal), (by rw [← hxs]; exact fun z => by cases z), (by rw [← hxs]; show 14 ≤ 1000; decide), fun v H' hv D' s' => ?_⟩
    have all : ∀ x ∈ xs, ThingN K H H14 x := by
      intro x hx
      rw [← hxs] at hx
      simp only [List.mem_cons, List.not_mem_nil, or_false] at hx
      rcases hx with rfl | rfl | rfl | rfl | rfl | rfl | rfl | rfl | rfl | rfl | rfl | rfl | rfl | rfl
      · exact tn_flat (d := .none) (by decide +kernel) (fun _ => .non) rfl
      · exact tn_flat (d := .bool false) (by decide +kernel) (fun _ => .bl _) rfl
      · exact tn_flat (d := .bool true) (by decide +kernel) (fun _ => .bl _) rfl
      · exact tn_flat (d := .int (-5)) (by decide +kernel) (fun _ => .int _) rfl
      · exact tn_flat (d := .int (10 ^ (30 : Int).toNat)) (by decide +kernel) (fun _ => .int _) rfl
      · exact tn_flat (d := .str "") (by decide +kernel) (fun _ => .str _) rfl
      · exact tn_flat (d := .str "two words") (by decide +kernel) (fun _ => .str _) rfl
      · exact tn_lst0 h7 (t7' _ _ e7)
      · exact tn_lstT n8 (t8' _ _ e8) m8 (t8' _ _ f8)
      · exact tn_tup0 n9 (t9' _ _ e9)
      · exact tn_tup1 n10 (t10' _ _ e10)
      · exact tn_dic0 n11 (t11' _ _ e11)
      · exact tn_dic1 n12 (t12' _ _ e12) m12 (t12' _ _ f12)
      · exact tn_lstL n13 (t13' _ _ e13) m13 (t13' _ _ f13)
    obtain ⟨dt, g, k⟩ := all v hv
    refine q v H' ⟨dt, g, fun H2 s2 => k H2 fun b o e n => s2 _ _ (s' b o e (ne_of_none DD.dd n).symm (ne_of_none DD.dl n).symm)⟩ D' fun b o e n1 n2 => s' b o (ua b o e) n1 n2
end
end K96

set_option Elab.async false
set_option linter.all false
set_option maxRecDepth 100000
set_option maxHeartbeats 4000000
set_option pp.maxSteps 3000
namespace K96
open PySem PySem.Spec PyProof.Rows L2 Dr Xv
/-! ### the law -/
def NL : List Str := ["script", "draw", "words", "thing", "told", "turn", "found", "spot", "error", "base", "item", "k"]
theorem scLaw : FnScope NL ["script"] (defScope sLaw) := ⟨rfl, rfl, rfl, by decide +kernel, rfl, by decide +kernel, by decide +kernel⟩
def spLaw (K : PySem.W.Frag) : Sp := fun vs H Q _ => ∃ (a : Addr) (ns : List Int), vs = [.ref a] ∧ SqL K H a (ns.map V.int) ∧ ns.length ≤ 1000 ∧ ∀ H', Q (.bl true) H'
structure Txt3 (K : PySem.W.Frag) (mg : Str → Option Value) (fB fP fA fT fN fK : Addr) : Prop where
  gB : mg "_law_begun" = some (.ref fB)
  gP : mg "_law_pick" = some (.ref fP)
  gA : mg "_law_any" = some (.ref fA)
  gT : mg "_law_told_errors" = some (.ref fT)
  gN : mg "_law_plain_errors" = some (.ref fN)
  gK : mg "_law_kinds" = some (.ref fK)
  kB : PySem.W.keepIn K (.ref fB) = true
  kP : PySem.W.keepIn K (.ref fP) = true
  kA : PySem.W.keepIn K (.ref fA) = true
  kT : PySem.W.keepIn K (.ref fT) = true
  kN : PySem.W.keepIn K (.ref fN) = true
  kK : PySem.W.keepIn K (.ref fK) = true
  rep : mg "repr" = none
  rng : mg "range" = none
  enu : mg "enumerate" = none
  ve : mg "ValueError" = none
theorem boot_rep : bootBuiltins "repr" = some (.builtin "repr") := by decide +kernel
def bols (l : List Bool) : List PyData := l.map PyData.bool
theorem bols_dp {K : PySem.W.Frag} {H : Hp} : ∀ l : List Bool, DpAll K H (l.map V.bl) (bols l)
  | [] => .nil
  | b :: r => .cons (.bl b) (bols_dp r)
theorem bols_lay : ∀ l : List Bool, PyData.canLayAll0 (bols l) = true
  | [] => rfl
  | z :: r => by
    show (PyData.canLay0 (.bool z) && PyData.canLayAll0 (bols r)) = true
    rw [bols_lay r]
    rfl
theorem bols_depth : ∀ l : List Bool, PyData.depthAll (bols l) = 0
  | [] => rfl
  | z :: r => by
    show max (PyData.depth (.bool z)) (PyData.depthAll (bols r)) = 0
    rw [bols_depth r]
    rfl
theorem bols_shaped (l : List Bool) : SeqAt.shaped (.list (bols l)) = true := by
  show (PyData.canLayAll0 (bols l) && decide (PyData.depthAll (bols l) + 1 ≤ 64)) = true
  rw [bols_lay, bols_depth]
  rfl
theorem bols_eqv : ∀ l : List Bool, PyData.eqvAll (bols l) (bols l) = true
  | [] => rfl
  | z :: r => by
    show (PyData.eqv (.bool z) (.bool z) && PyData.eqvAll (bols r) (bols r)) = true
    rw [bols_eqv r]
    cases z <;> rfl
def eqb (k n : Nat) : List Bool := (List.range n).map fun j => decide (k = j)
theorem eqs_eqb (k n : Nat) : eqs k 0 n = (eqb k n).map V.bl := by
  unfold eqs eqb
  rw [List.range_eq_range', List.map_map]
  rfl
theorem eqb_succ (k n : Nat) : (eqb k (n + 1)).map V.bl = (eqb k n).map V.bl ++ [V.bl (decide (k = n))] := by
  unfold eqb
  rw [List.range_succ, List.map_append, List.map_append]
  rfl
section
variable {P : Program} {w : World} {K : PySem.W.Frag} {mg : Str → Option Value} {base : Heap} {ca : Nat → Addr} {f fB fP fA fT fN fK fI : Addr} {fd fdB fdP fdA fdT fdN fdK : FuncData}
theorem ok_law (F : FnP K "law" sLaw f fd) (T : Txt K mg ca) (U : Txt2 K mg ca fI) (W : Txt3 K mg fB fP fA fT fN fK)
    (GB : FnOk P w K mg base CX0 1 fB fdB ["script"] (spBegun K)) (bB : Binds K fdB ["script"] []) (GP : FnOk P w K mg base CX0 3 fP fdP ["draw", "some"] (spPick K)) (bP : Binds K fdP ["draw", "some"] [])
    (GA : FnOk P w K mg base CX0 4 fA fdA ["draw"] (spAny K)) (bA : Binds K fdA ["draw"] []) (GT : FnOk P w K mg base CX0 3 fT fdT ["thing"] (spTold ca)) (bT : Binds K fdT ["thing"] [])
    (GN : FnOk P w K mg base CX0 1 fN fdN ["words"] (spPlain ca)) (bN : Binds K fdN ["words"] []) (GK : FnOk P w K mg base CX0 1 fK fdK ["error"] (spKinds ca)) (bK : Binds K fdK ["error"] []) : FnG P w K mg base 5 f fd ["script"] (spLaw K) := by
  refine fnG_of F scLaw (fun vs H Q E h => ?_) (fun cdv A outer s H vs Q E hg hr h => ?_)
  · obtain ⟨a, ns, rfl, _⟩ := h
    rfl
  · obtain ⟨a, ns, rfl, hS, hlen, q⟩ := h
    have nd := scLaw.nd
    have hr1 : Room 1 _ := hr.mono (by decide)
    have hr3 : Room 3 _ := hr.mono (by decide)
    refine ⟨_, PSs.nox (pss_cons (ps_set (i := 1) nd rfl (Or.inl rfl) (pe_call GB hr1 rfl W.gB W.kB bB .nil pass0 (pa_cons (pv 0) pa_nil)))
      (pss_cons (ps_asg (pe_tup (pa_cons (pe_call GP hr3 rfl W.gP W.kP bP .nil pass0 (pa_cons (pv 1) (pa_cons (pe_lst (pa_cons pe_str (pa_cons pe_str (pa_cons pe_str pa_nil)))) pa_nil))) (pa_cons (pe_call GA hr rfl W.gA W.kA bA .nil pass0 (pa_cons (pv 1) pa_nil)) pa_nil)))
          (pg_tup rfl (pgs_cons (pg_name (i := 2) nd rfl (Or.inl rfl)) (pgs_cons (pg_name (i := 3) nd rfl (Or.inr rfl)) pgs_nil))))
      (pss_cons (ps_set (i := 4) nd rfl (Or.inl rfl) (pe_call GT hr3 rfl W.gT W.kT bT .nil pass0 (pa_cons (pv 3) pa_nil)))
      (pss_cons (ps_if (pt_cmpR (op_neD hr.units) (pe_lc (own := [("item", 10)]) (g := gName 10) rfl nd (pi_list (pv 4)) (blkOk_by (own := [("item", 10)]) (N := NL) (sc := defScope sLaw) (by decide +kernel)) (fun _ _ _ _ _ => pg_name (i := 10) nd rfl (Or.inl rfl))
            (fun _ _ _ _ _ => pts_one (pt_cmpR op_ne (pe_callB (r := rRep2 K) (call_rep2 hg hr.units) (by rfl) W.rep boot_rep (pa_cons (pe_lstN (pa_cons (pe_ix (r := rIxT K) ix_tup (pv 10) pe_int (fun _ _ => rfl)) (pa_cons (pe_ix (r := rIxT K) ix_tup (pv 10) pe_int (fun _ _ => rfl)) pa_nil))) pa_nil))
              (pe_callB (r := rRep2 K) (call_rep2 hg hr.units) (by rfl) W.rep boot_rep (pa_cons (pe_lstN (pa_cons (pv 3) (pa_cons (pv 3) pa_nil))) pa_nil)) (nomark _)))
            (fun _ _ _ _ _ => pe_int)) (pe_lst pa_nil) (nomark _)) (pss_one (ps_ret pe_bl)) pss_nil)
      (pss_cons (ps_for PassesOwn.never rfl (pi_range1 rfl W.rng (pa_cons pe_int pa_nil)) (pg_name (i := 5) nd rfl (Or.inr rfl))
        (pss_cons (ps_set (i := 6) nd rfl (Or.inl rfl) (pe_op op_cat (pe_call GN hr1 rfl W.gN W.kN bN .nil pass0 (pa_cons (pv 2) pa_nil))
            (pe_lc (own := [("item", 10)]) (g := gName 10) rfl nd (pi_list (pv 4)) (blkOk_by (own := [("item", 10)]) (N := NL) (sc := defScope sLaw) (by decide +kernel)) (fun _ _ _ _ _ => pg_name (i := 10) nd rfl (Or.inl rfl)) (fun _ _ _ _ _ => pts_nil)
              (fun _ _ _ _ _ => pe_ix (r := rIxT K) ix_tup (pv 10) (pv 5) (fun _ _ => rfl)))))
        (pss_one (ps_for PassesOwn.never rfl (pi_enum rfl W.enu (pa_cons (pv 6) pa_nil)) (pg_tup rfl (pgs_cons (pg_name (i := 7) nd rfl (Or.inr rfl)) (pgs_cons (pg_name (i := 8) nd rfl (Or.inl rfl)) pgs_nil)))
          (pss_cons (ps_if (pt_cmpR (op_neD hr.units) (pe_call GK hr1 rfl W.gK W.kK bK .nil pass0 (pa_cons (pv 8) pa_nil))
              (pe_lc (own := [("k", 11)]) (g := gName 11) rfl nd (pi_range1 rfl W.rng (pa_cons (pe_callB call_len (by rfl) U.len PySem.boot_len (pa_cons (pv 6) pa_nil)) pa_nil)) (blkOk_by (own := [("k", 11)]) (N := NL) (sc := defScope sLaw) (by decide +kernel))
                (fun _ _ _ _ _ => pg_name (i := 11) nd rfl (Or.inl rfl)) (fun _ _ _ _ _ => pts_nil) (fun _ _ _ _ _ => pe_cmpR op_eq (pv 11) (pv 7) (nomark _))) (nomark _)) (pss_one (ps_ret pe_bl)) pss_nil)
          (pss_one (ps_if (PW.pt (pw_or (pt_not (pt_val (pe_callB call_isErr (by rfl) T.isi boot_isinstance (pa_cons (pv 8) (pa_cons (pe_glob (v := .ref (ca 37)) rfl (T.gl 37 (by decide)) rfl) pa_nil)))))
              (pw_or1 (pt_not (pt_val (pe_callB call_isErr (by rfl) T.isi boot_isinstance (pa_cons (pv 8) (pa_cons (pe_bltn (v := .ty "ValueError") rfl W.ve boot_ValueError rfl) pa_nil)))))))) (pss_one (ps_ret pe_bl)) pss_nil)))))))
      (pss_cons (ps_set (i := 9) nd rfl (Or.inl rfl) (pe_exc1 PySem.F.excBase_ValueError (T.xc 37 (by decide) (by decide)).1 (T.gl 37 (by decide)) (T.xc 37 (by decide) (by decide)).2 rfl pe_str))
      (pss_one (ps_ret (pe_and (pe_cmpR op_notIn_seq pe_bl (pe_call GK hr1 rfl W.gK W.kK bK .nil pass0 (pa_cons (pv 9) pa_nil)) (by rfl))
        (pe_one (pe_callB call_isErr (by rfl) T.isi boot_isinstance (pa_cons (pv 9) (pa_cons (pe_bltn (v := .ty "ValueError") rfl W.ve boot_ValueError rfl) pa_nil))))))))))))), ?_⟩
    -- draw = _law_begun(script)
    refine ⟨_, rfl, a, ns, rfl, hS, hlen, fun d l H1 hd hl s1 D1 => ?_⟩
    -- words, thing = ..
    refine ⟨_, rfl, (by show 3 ≤ sizeLine; decide), fun pw hpw => ?_⟩
    have D2 := D1.same (same_new (o := .lst [.str "", .str "w", .str "nothing of the kind"]) hpw)
    have ew : (upd H1 pw (.lst [.str "", .str "w", .str "nothing of the kind"])) pw = some (.lst [.str "", .str "w", .str "nothing of the kind"]) := upd_same
    generalize upd H1 pw (.lst [.str "", .str "w", .str "nothing of the kind"]) = H2 at D2 ew
    obtain ⟨c1, ls1, cs1, r1, t1, DD1⟩ := id D1
    have nwd : pw ≠ d := (ne_of_none DD1.dd hpw).symm
    have nwl : pw ≠ l := (ne_of_none DD1.dl hpw).symm
    refine ⟨d, l, pw, _, rfl, D2, fun H' s' => SqL.of (s' _ _ ew nwd nwl), (fun z => by cases z), (by show 3 ≤ 1000; decide), fun wv H3 hw D3 s3 => ?_⟩
    refine ⟨_, rfl, d, l, rfl, D3, fun th H4 hT D4 s4 => ?_⟩
    refine ⟨(by show 2 ≤ sizeLine; decide), fun pt hpt => ?_⟩
    refine ⟨pt, _, rfl, SqT.of upd_same, rfl, _, _, rfl, _, _, rfl, rfl, ?_⟩
    replace hT := hT.same (same_new (o := .tup [wv, th]) hpt)
    generalize upd H4 pt (.tup [wv, th]) = H5 at hT
    clear s4 D4 D3 s3 D2 ew hpw nwd nwl DD1 hpt
    -- told = ..
    refine ⟨_, rfl, th, rfl, fun lt t e1 e2 H6 s6 elt et er1 er2 => ?_⟩
    replace hT := hT.same s6
    -- if [1 for item in told if ..] != []
    refine ⟨_, rfl, lt, rfl, ⟨_, SqL.of elt⟩, fun D hD => lc_list (K := K) (a := lt) (xs := [.ref t]) (fun i H' => H' D = some (.lst []) ∧ Same H6 H')
      ⟨upd_same, same_new hD⟩ (fun i H' _ ⟨_, s'⟩ => SqL.of (s' _ _ elt)) ?_ ?_⟩
    · rintro i x H' hi ⟨eD, s'⟩
      have ex : x = .ref t := by
        rcases i with _ | i
        · cases hi
          rfl
        · cases hi
      subst ex
      obtain ⟨dt, g, kT⟩ := hT
      have et' := s' _ _ et
      refine ⟨rfl, _, rfl, t, _, _, th, rfl, rfl, SqT.of et', rfl, _, rfl, t, _, _, th, rfl, rfl, SqT.of et', rfl, (by show 2 ≤ sizeLine; decide), fun p hp np => ?_⟩
      have s1p := same_new (o := .lst [th, th]) hp
      refine ⟨p, th, dt, rfl, upd_same, np, kT _ (s'.trans s1p), g.1, g.2.1, g.2.2, ?_⟩
      refine ⟨_, rfl, _, rfl, (by show 2 ≤ sizeLine; decide), fun p2 hp2 np2 => ?_⟩
      have s2p := same_new (o := .lst [th, th]) hp2
      refine ⟨p2, th, dt, rfl, upd_same, np2, kT _ (s'.trans (s1p.trans s2p)), g.1, g.2.1, g.2.2, rfl, _, rfl, ?_⟩
      refine iteNS rfl ?_
      exact ⟨s2p _ _ (s1p _ _ eD), s'.trans (s1p.trans s2p)⟩
    · rintro H7 ⟨eD, s7⟩
      refine ⟨(by show 0 ≤ sizeLine; decide), fun p hp => ?_⟩
      have s7p := same_new (o := .lst []) hp
      refine ⟨.list [], .list [], .lst (SqL.of (s7p _ _ eD)) .nil, .lst (SqL.of upd_same) .nil, rfl, rfl, _, rfl, ?_⟩
      refine iteF ?_
      replace s7 := s7.trans s7p
      generalize upd H7 p (.lst []) = H8 at s7
      -- for turn in range(2)
      refine ⟨2, rfl, by decide, by decide, for_range (lo := 0) (n := 2) (fun i σ H' => ∃ x5 x6 x7 x8 : Option V, σ = [some (.ref a), some (.ref d), some wv, some th, some (.ref lt), x5, x6, x7, x8, none, none, none] ∧ Same H6 H') ⟨none, none, none, none, rfl, s7⟩ ?_ ?_⟩
      · rintro i σ H9 hi ⟨x5, x6, x7, x8, rfl, s9⟩
        refine ⟨_, rfl, wv, rfl, fun l1 H10 xs s10 el1 lx E10 => ?_⟩
        have s10' := s9.trans s10
        obtain ⟨ei, hei⟩ : ∃ e, atI [V.ref e1, .ref e2, th, th] (0 + (i : Int)) = some (.ref e) ∧ ErrAt H6 e (ca 36) := by
          rcases i with _ | _ | i
          · exact ⟨e1, rfl, er1⟩
          · exact ⟨e2, rfl, er2⟩
          · omega
        refine ⟨_, rfl, lt, rfl, ⟨_, SqL.of (s10' _ _ elt)⟩, fun D2 hD2 => lc_list (K := K) (a := lt) (xs := [.ref t]) (fun j H' => H' D2 = some (.lst (if j = 0 then [] else [.ref ei])) ∧ Same H10 H')
          ⟨upd_same, same_new hD2⟩ (fun j H' _ ⟨_, s'⟩ => SqL.of (s' _ _ (s10' _ _ elt))) ?_ ?_⟩
        · rintro j x H' hj ⟨eD2, s'⟩
          have ej : j = 0 ∧ x = .ref t := by
            rcases j with _ | j
            · cases hj
              exact ⟨rfl, rfl⟩
            · cases hj
          obtain ⟨rfl, rfl⟩ := ej
          refine ⟨rfl, yesT ?_⟩
          exact ⟨_, rfl, _, rfl, t, _, _, _, rfl, rfl, SqT.of (s' _ _ (s10' _ _ et)), hei.1, [], eD2, (by show 0 < sizeLine; decide), upd_same, fun b o e => by
            rw [upd_ne (ne_of_none e hD2)]
            exact s' _ _ e⟩
        · rintro H11 ⟨eD2, s11⟩
          have eD2' : H11 D2 = some (.lst [.ref ei]) := eD2
          have nz : xs.length = 36 := lx
          refine ⟨l1, D2, xs, _, rfl, rfl, s11 _ _ el1, eD2', ?_, fun p hp => ?_⟩
          · show xs.length + 1 ≤ sizeLine
            rw [nz]
            decide
          · have s12 := same_new (o := .lst (xs ++ [.ref ei])) hp
            have ep : (upd H11 p (.lst (xs ++ [.ref ei]))) p = some (.lst (xs ++ [.ref ei])) := upd_same
            have E12 : Errs ca (upd H11 p (.lst (xs ++ [.ref ei]))) (xs ++ [.ref ei]) := ((E10.same s11).same s12).snoc nz (errAt_same hei.2 (s10'.trans (s11.trans s12)))
            have s12' := s10'.trans (s11.trans s12)
            generalize upd H11 p (.lst (xs ++ [.ref ei])) = H12 at ep E12 s12'
            have nz37 : (xs ++ [V.ref ei]).length = 37 := by
              rw [List.length_append, nz]
              rfl
            generalize xs ++ [V.ref ei] = ys at ep E12 nz37
            -- for spot, error in enumerate(found)
            refine ⟨_, rfl, p, ys, rfl, SqL.of ep, for_it (walk_enum (K := K) (a := p) (xs := ys)) (fun j σ H' => ∃ x7 x8 : Option V, σ = [some (.ref a), some (.ref d), some wv, some th, some (.ref lt), some (.int (0 + (i : Int))), some (.ref p), x7, x8, none, none, none] ∧ Same H12 H')
              ⟨x7, x8, rfl, Same.refl _⟩ (fun j σ H' _ ⟨_, _, _, s'⟩ => SqL.of (s' _ _ ep)) ?_ ?_⟩
            · rintro j x σ H' H13 hj ⟨y7, y8, rfl, s'⟩ ⟨Tp, xj, yj, rfl, hTp, rfl, exj, eyj⟩
              obtain ⟨er, rfl, hE⟩ := E12 j yj eyj
              have exj' : xj = .int (j : Int) := (Option.some.inj exj).symm
              subst exj'
              have hj37 : j < 37 := by omega
              refine ⟨Tp, _, rfl, SqT.of upd_same, rfl, _, _, rfl, _, _, rfl, rfl, ?_⟩
              have s13 := s'.trans (same_new (o := .tup [.int (j : Int), .ref er]) hTp)
              generalize upd H' Tp (.tup [.int (j : Int), .ref er]) = H13 at s13
              replace hE := errAt_same hE s13
              refine ⟨_, rfl, er, j, rfl, by omega, hE, fun lk H14 s14 e14 => ?_⟩
              have ep14 := s14 _ _ (s13 _ _ ep)
              refine ⟨_, rfl, _, ys.length, rfl, .inl ⟨_, SqL.of ep14, rfl⟩, (ys.length : Int), rfl, by omega, by omega, fun D3 hD3 => lc_range (lo := 0) (n := ((ys.length : Int)).toNat) (fun m H' => H' D3 = some (.lst ((eqb j m).map V.bl)) ∧ Same H14 H')
                ⟨upd_same, same_new hD3⟩ ?_ ?_⟩
              · rintro m H' hm ⟨eD3, sm⟩
                refine ⟨rfl, yesT ?_⟩
                have em : (decide (V.int (0 + (m : Int)) = V.int (j : Int))) = decide (j = m) := by
                  by_cases e : j = m
                  · rw [decide_eq_true e, e]
                    exact decide_eq_true (by rw [Int.zero_add])
                  · rw [decide_eq_false e]
                    refine decide_eq_false fun z => e ?_
                    have z2 := V.int.inj z
                    omega
                refine ⟨_, rfl, _, rfl, rfl, _, eD3, ?_, ?_, ?_⟩
                · have hz : (List.map V.bl (eqb j m)).length = m := by
                    unfold eqb
                    rw [List.length_map, List.length_map, List.length_range]
                  rw [hz, sizeLine_eq]
                  omega
                · rw [upd_same, eqb_succ, em]
                · intro b o e
                  rw [upd_ne (ne_of_none e hD3)]
                  exact sm b o e
              · rintro H15 ⟨eD3, s15⟩
                have e37 : ((ys.length : Int)).toNat = 37 := by omega
                rw [e37] at eD3
                have e14' := s15 _ _ e14
                rw [eqs_eqb] at e14'
                refine ⟨.list (bols (eqb j 37)), .list (bols (eqb j 37)), .lst (SqL.of e14') (bols_dp _), .lst (SqL.of eD3) (bols_dp _), bols_shaped _, bols_shaped _, _, rfl, ?_⟩
                have ev : PyData.eqv (.list (bols (eqb j 37))) (.list (bols (eqb j 37))) = true := bols_eqv _
                rw [ev]
                refine iteF ?_
                replace hE := errAt_same hE (s14.trans s15)
                refine ⟨_, rfl, er, ca j, .ref (ca 37), .ref (ca 37), true, rfl, hE, T.ec j (by omega), fun u r => r, T.kitS j (by omega), true, rfl, ?_⟩
                refine iteF ⟨_, rfl, er, ca j, .ty "ValueError", .type "ValueError", true, rfl, hE, T.ec j (by omega), fun u r => r, T.kitV j (by omega), true, rfl, iteF ?_⟩
                exact ⟨_, _, rfl, s13.trans (s14.trans s15)⟩
            · rintro σ H' ⟨y7, y8, rfl, s'⟩
              exact ⟨_, _, _, _, rfl, s12'.trans s'⟩
      · rintro σ H9 ⟨x5, x6, x7, x8, rfl, s9⟩
        refine fun b hb => ?_
        have k9 := same_new (o := ExO (.ref (ca 37)) b) hb
        have eb : ErrAt (upd H9 b (ExO (.ref (ca 37)) b)) b (ca 37) := .inl upd_same
        refine ⟨_, rfl, b, 37, rfl, by decide, eb, fun lk H10 s10 e10 => ?_⟩
        refine ⟨lk, _, rfl, .inl (SqL.of e10), rfl, by decide, true, rfl, ?_⟩
        refine iteT ?_
        exact ⟨_, rfl, b, ca 37, .ty "ValueError", .type "ValueError", true, rfl, errAt_same eb s10, T.ec 37 (by decide), fun u r => r, T.kitV 37 (by decide), q _⟩
end
end K96

set_option Elab.async false
set_option linter.all false
set_option maxRecDepth 100000
set_option maxHeartbeats 0
namespace K96
open PySem PySem.Spec PyProof.Rows L2 Dr Xv
/-! ### the head: facts by names, the run -/
def dd (x : Str) (st : Stmt) : He.DefD := ⟨(x, none), x, x, defArgs st, defBody st, defScope st, [], []⟩
def fn : List He.DefD := [dd "law" sLaw, dd "_law_begun" sBegun, dd "_law_blend" sBlend, dd "_law_take" sTake, dd "_law_pick" sPick, dd "_law_kinds" sKinds, dd "_law_plain_errors" sPlain, dd "_law_told_errors" sTold, dd "_law_any" sAny,
  ⟨("TooMany", some "__init__"), "__init__", "TooMany.__init__", defArgs sInit, defBody sInit, defScope sInit, [], []⟩]
def fa : List He.Fa := [.glo "law", .glo "_law_begun", .glo "_law_blend", .glo "_law_take", .glo "_law_pick", .glo "_law_kinds", .glo "_law_plain_errors", .glo "_law_told_errors", .glo "_law_any", .free "abs", .free "int", .free "len", .free "isinstance", .free "repr", .free "range", .free "enumerate", .free "ValueError"]
abbrev R : PySem.W.OpenRow := PySem.W.OpenLaw.row PySem.Challenge.rw_etasure_k96_errors_of_all_parts
/-! the classes' facts, asked of the written part -/
def veT : List Value := [.type "ValueError", .type "Exception", .type "BaseException", .type "object"]
def oexB (K : PySem.W.Frag) (C : Addr) : Bool := match K.lookup C with
  | some ⟨.type "type", _, .cls cd, sl⟩ => (match cd.mro, sl.toList with
    | .ref C' :: bm, [_, _, _, _, some (.builtin n), _] => decide (C' = C) && (decide (n = "ValueError.__new__") && (!cd.hasDel && (PySem.HandSPX.refsVE bm && cd.hasDict)))
    | _, _ => false)
  | _ => false
theorem oexB_ok {K : PySem.W.Frag} {C : Addr} (h : oexB K C = true) : ∃ nm q N bs bm sn sub ab col dd k0 k1 k2 k3 k5, K.lookup C = some (excClassObj nm q C N bs bm true sn sub ab col dd k0 k1 k2 k3 k5 "ValueError.__new__") ∧ PySem.HandSPX.refsVE bm = true := by
  unfold oexB at h
  split at h
  · rename_i dx cd sl ho
    split at h
    · rename_i C' bm k0 k1 k2 k3 n k5 hm hs
      simp only [Bool.and_eq_true, decide_eq_true_eq, Bool.not_eq_true'] at h
      obtain ⟨rfl, rfl, hd, hr, hh⟩ := h
      obtain ⟨nm, bs, mro, ns, qn, hdc, sn, sub, ab, col, del⟩ := cd
      dsimp only at hm hd hh
      subst hm hd hh
      obtain ⟨l⟩ := sl
      have hs' : l = [k0, k1, k2, k3, some (.builtin "ValueError.__new__"), k5] := hs
      subst hs'
      exact ⟨nm, qn, ns, bs, bm, sn, sub, ab, col, dx, k0, k1, k2, k3, k5, ho, hr⟩
    · cases h
  · cases h
def eqV2 (a b : Option Value) : Bool := decide (a = b)
/-- a class of errors whose way up is l -/
def clsB (K : PySem.W.Frag) (C : Addr) (l : List Value) : Bool := (match PySem.W.clsIn K C with
  | some cd => decide (cd.mro = l) && cd.hasDict
  | none => false) && (eqV2 (PySem.W.typeIn K (.ref C)) (some (.type "type")) && (He.eqO (PySem.W.findIn K (.ref C) "__getattribute__") (some (some (.builtin "BaseException.__getattribute__"))) && (He.eqO (PySem.W.findIn K (.ref C) "__getattr__") (some none) &&
    (He.eqO (PySem.W.findIn K (.ref C) "__class__") (some (some (.builtin "object.__class__"))) && PySem.W.keepIn K (.ref C)))))
structure ClsOk (K : PySem.W.Frag) (C : Addr) (l : List Value) : Prop where
  cl : ∃ cd, PySem.W.clsIn K C = some cd ∧ cd.mro = l ∧ cd.hasDict = true
  ty : PySem.W.typeIn K (.ref C) = some (.type "type")
  ga : PySem.W.findIn K (.ref C) "__getattribute__" = some (some (.builtin "BaseException.__getattribute__"))
  gg : PySem.W.findIn K (.ref C) "__getattr__" = some none
  gc : PySem.W.findIn K (.ref C) "__class__" = some (some (.builtin "object.__class__"))
  kp : PySem.W.keepIn K (.ref C) = true
theorem clsB_ok {K : PySem.W.Frag} {C : Addr} {l : List Value} (h : clsB K C l = true) : ClsOk K C l := by
  unfold clsB at h
  simp only [Bool.and_eq_true] at h
  obtain ⟨h1, h2, h3, h4, h5, h6⟩ := h
  refine ⟨?_, of_decide_eq_true h2, He.eqO_ok h3, He.eqO_ok h4, He.eqO_ok h5, h6⟩
  cases e : PySem.W.clsIn K C with
  | none =>
    rw [e] at h1
    cases h1
  | some cd =>
    rw [e] at h1
    have h1' : (decide (cd.mro = l) && cd.hasDict) = true := h1
    rw [Bool.and_eq_true] at h1'
    exact ⟨cd, rfl, of_decide_eq_true h1'.1, h1'.2⟩
theorem ClsOk.sub {K : PySem.W.Frag} {C : Addr} {l : List Value} (h : ClsOk K C l) (hl : l ≠ []) (b : Value) : PySem.W.subIn K (.ref C) b = some (l.contains b) := by
  obtain ⟨cd, e, rfl, _⟩ := h.cl
  show (PySem.W.clsIn K C).bind (fun cd => if cd.mro.isEmpty then none else some (cd.mro.contains b)) = _
  rw [e]
  show (if cd.mro.isEmpty = true then none else some (cd.mro.contains b)) = _
  rw [if_neg (by cases q : cd.mro with
    | nil => exact absurd q hl
    | cons _ _ => exact Bool.false_ne_true)]
theorem ClsOk.excC {K : PySem.W.Frag} {C : Addr} {l : List Value} (h : ClsOk K C l) (hl : l ≠ []) (h1 : l.contains (.type "BaseException") = true) (h2 : l.contains (.type "object") = true) (hn : PySem.W.specialIn K (.builtin "object.__class__") "__get__" = some (some (.builtin "getset_descriptor.__get__")))
    (ht : PySem.W.takesIn K (.builtin "object.__class__") = some true) : ExcC K C where
  hg := h.ga
  hk := h.gg
  hs := by rw [h.sub hl, h1]
  hd := by
    obtain ⟨cd, e, _, hd⟩ := h.cl
    show (PySem.W.clsIn K C).any (·.hasDict) = true
    rw [e]
    exact hd
  ha := h.gc
  hn := hn
  ht := ht
  hm := by
    have z := h.sub hl (.type "object")
    rw [h2] at z
    exact z
theorem ClsOk.kit {K : PySem.W.Frag} {C D : Addr} {l m : List Value} (h : ClsOk K C l) (hl : l ≠ []) (hD : ClsOk K D m) {b : Bool} (e : (decide (C = D) || l.contains (.ref D)) = b) : PySem.W.kitOne K (.ref C) (.ref D) = some b := by
  unfold PySem.W.kitOne
  by_cases q : C = D
  · subst q
    rw [if_pos (by simp)]
    rw [decide_eq_true rfl] at e
    exact congrArg some e
  · rw [if_neg (by simpa using q)]
    show (if ((PySem.W.clsIn K D).isSome && PySem.W.typeIn K (.ref D) == some (.type "type")) = true then PySem.W.subIn K (.ref C) (.ref D) else none) = some b
    obtain ⟨cd, ed, _⟩ := hD.cl
    rw [ed, hD.ty, if_pos (by rfl), h.sub hl]
    rw [decide_eq_false q, Bool.false_or] at e
    exact congrArg some e
theorem ClsOk.kitT {K : PySem.W.Frag} {C : Addr} {l : List Value} (h : ClsOk K C l) (hl : l ≠ []) {T : String} (hT : PySem.W.kitMeta T = true) (e : l.contains (.type T) = true) : PySem.W.kitOne K (.ref C) (.type T) = some true := by
  unfold PySem.W.kitOne
  rw [if_neg (by simp)]
  show (if PySem.W.kitMeta T = true then PySem.W.subIn K (.ref C) (.type T) else none) = some true
  rw [if_pos hT, h.sub hl, e]
def eqB (a b : Option Bool) : Bool := decide (a = b)
def cfB (r : Option PySem.W.CFound) : Bool := match r with
  | some (.val v) => decide (v = .builtin "ValueError.__init__")
  | _ => false
theorem cfB_ok {r : Option PySem.W.CFound} (h : cfB r = true) : r = some (.val (.builtin "ValueError.__init__")) := by
  unfold cfB at h
  split at h
  · rw [of_decide_eq_true h]
  · cases h
def ca (K : PySem.W.Frag) (i : Nat) : Addr := He.ga K (names.getD i "")
def up (K : PySem.W.Frag) (i : Nat) : List Value := if i = 37 then .ref (ca K 37) :: veT else .ref (ca K i) :: .ref (ca K 37) :: veT
def is38 : List Nat := List.range 38
def ext (K : PySem.W.Frag) : Bool := (is38.all fun i => (He.Fa.glo (names.getD i "")).ok K && clsB K (ca K i) (up K i)) && ((is38.all fun i => decide (i = 36) || PySem.W.excIn K (ca K i) veT "ValueError.__new__") && (decide (is38.map (ca K)).Nodup &&
  (He.eqO (PySem.W.specialIn K (.builtin "object.__class__") "__get__") (some (some (.builtin "getset_descriptor.__get__"))) && (eqB (PySem.W.takesIn K (.builtin "object.__class__")) (some true) && (oexB K (ca K 36) &&
  (He.eqO (PySem.W.findIn K (.ref (ca K 36)) "__setattr__") (some (some (.builtin "object.__setattr__"))) && (He.eqO (PySem.W.findIn K (.ref (ca K 36)) "__init__") (some (some (.ref (He.ma K (ca K 36) "__init__")))) && (eqV2 (PySem.W.typeIn K (.ref (He.ma K (ca K 36) "__init__"))) (some (.type "function")) &&
  (He.eqO (PySem.W.findIn K (.ref (ca K 36)) "most") (some none) && (PySem.W.readsIn K (ca K 37) (.type "type") && (He.eqO (PySem.W.specialIn K (.ref (ca K 37)) "__getattribute__") (some (some (.builtin "type.__getattribute__"))) && cfB (PySem.W.findCls K (.ref (ca K 37)) (.type "type") "__init__"))))))))))))
abbrev AlE : Type := He.AlD × Bool
def asE (g : Addr → Option Obj) (n : Nat) : List Addr := cStatics :: He.asD g n
def obsE (n : Nat) (g : Addr → Option Obj) : AlE := (He.obsD fa fn (He.frG g (asE g n)), ext (He.frG g (asE g n)))
def hookE (n : Nat) : PySem.W.Hook where
  α := AlE
  obs := fun s => obsE n s.heap.get?
  val := fun _ => (He.valD fn, true)
  says := fun _ h => ∃ K : PySem.W.Frag, K.In h ∧ He.SaysD fa fn K ∧ ext K = true
  of := fun _ _ e => ⟨_, He.frG_in, congrArg (fun z : AlE => z.1) e, congrArg (fun z : AlE => z.2) e⟩
  keeps := fun _ _ _ ⟨K, hK, c⟩ k => ⟨K, PySem.W.Frag.In.keeps hK k, c⟩
def ob (s : PySem.W.SharedT) : AlE := obsE 4 (HandSHeadRun.getT s)
theorem ob_eq (s : PySem.W.SharedT) : ob s = (hookE 4).obs s.abs := by
  have e : HandSHeadRun.getT s = s.abs.heap.get? := funext (HandSHeadRun.getT_eq s)
  show obsE 4 (HandSHeadRun.getT s) = obsE 4 s.abs.heap.get?
  rw [e]
def loose : List PySem.Str := (List.map Str.ofString ["SeriesError", "BadCusp", "BadFamily", "BadForm", "BadLevel", "BadMatrix", "BadMost", "BadNumber", "BadOrders", "BadPair", "BadPartition", "BadPath", "BadPeriod", "BadPiece", "BadPower", "BadPrime", "BadProduct", "BadQuotient", "BadRatio", "BadRow", "BadStep", "BadSum", "BadTerm", "BadText", "BadTwice", "BadWeight", "BadWord"]) ++ (List.map Str.ofString ["NotApart", "NotCuspidal", "NotDivided", "NotFit", "NotOne", "NotPaired", "NotProduct", "NotSquare", "NotStraight", "NotUnit", "TooMany", "_law_begun", "_law_blend", "_law_take", "_law_pick", "_law_kinds", "_law_plain_errors", "_law_told_errors", "_law_any"])
theorem txt_of {K : PySem.W.Frag} {h : Heap} {mg : Str → Option Value} (X : K.In h) (G : h.Ns mainGlobals mg) (e : ext K = true) (isi0 : mg "isinstance" = none) (len0 : mg "len" = none) : Txt K mg (ca K) ∧ Txt2 K mg (ca K) (He.ma K (ca K 36) "__init__") := by
  unfold ext at e
  simp only [Bool.and_eq_true] at e
  obtain ⟨e1, e2, e3, e4, e5, e6, e7, e8, e9, e10, e11, e12, e13⟩ := e
  have nd : (is38.map (ca K)).Nodup := of_decide_eq_true e3
  have c1 : ∀ i, i < 38 → (He.Fa.glo (names.getD i "")).ok K = true ∧ clsB K (ca K i) (up K i) = true := fun i hi => by
    have z := List.all_eq_true.mp e1 i (List.mem_range.mpr hi)
    exact Bool.and_eq_true_iff.mp z
  have cl : ∀ i, i < 38 → ClsOk K (ca K i) (up K i) := fun i hi => clsB_ok (c1 i hi).2
  have ne : ∀ i, up K i ≠ [] := fun i => by
    unfold up
    split <;> exact fun z => by cases z
  have hasT : ∀ (i : Nat) (v : Value), veT.contains v = true → (up K i).contains v = true := fun i v hv => by
    unfold up
    split
    · rw [List.contains_cons, hv, Bool.or_true]
    · rw [List.contains_cons, List.contains_cons, hv, Bool.or_true, Bool.or_true]
  have e4' := He.eqO_ok e4
  have e5' : PySem.W.takesIn K (.builtin "object.__class__") = some true := of_decide_eq_true e5
  have nd' : (List.range 38).Pairwise (fun a b => ¬ ca K a = ca K b) := List.pairwise_map.mp (show ((List.range 38).map (ca K)).Pairwise (· ≠ ·) from nd)
  have inj0 : ∀ i j, i < j → j < 38 → ¬ ca K i = ca K j := fun i j hij hj q => by
    have z := List.pairwise_iff_getElem.mp nd' i j (by rw [List.length_range]; omega) (by rw [List.length_range]; exact hj) hij
    rw [List.getElem_range, List.getElem_range] at z
    exact z q
  have inj : ∀ i j, i < 38 → j < 38 → ca K i = ca K j → i = j := fun i j hi hj q => by
    rcases Nat.lt_trichotomy i j with z | z | z
    · exact absurd q (inj0 i j z hj)
    · exact z
    · exact absurd q.symm (inj0 j i z hi)
  have kitIJ : ∀ i j, i < 38 → j < 38 → PySem.W.kitOne K (.ref (ca K i)) (.ref (ca K j)) = some (decide (i = j) || decide (j = 37)) := fun i j hi hj => by
    refine (cl i hi).kit (ne i) (cl j hj) ?_
    by_cases q : i = j
    · subst q
      rw [decide_eq_true rfl, decide_eq_true rfl, Bool.true_or, Bool.true_or]
    · have nq : ¬ ca K i = ca K j := fun z => q (inj i j hi hj z)
      rw [decide_eq_false q, decide_eq_false nq, Bool.false_or, Bool.false_or]
      have v0 : veT.contains (.ref (ca K j)) = false := rfl
      by_cases q7 : j = 37
      · subst q7
        have ni : ¬ i = 37 := q
        unfold up
        rw [if_neg ni, List.contains_cons, List.contains_cons]
        simp
      · rw [decide_eq_false q7]
        have n7 : ¬ ca K 37 = ca K j := fun z => q7 (inj 37 j (by decide) hj z).symm
        unfold up
        split
        · rw [List.contains_cons, v0]
          simp
          exact fun z => n7 z.symm
        · rw [List.contains_cons, List.contains_cons, v0]
          simp
          exact ⟨fun z => nq z.symm, fun z => n7 z.symm⟩
  have ec : ∀ i, i < 38 → ExcC K (ca K i) := fun i hi => (cl i hi).excC (ne i) (hasT i _ rfl) (hasT i _ rfl) e4' e5'
  refine ⟨⟨fun i hi => He.glo_ok X G (c1 i hi).1, fun i hi n => ⟨?_, (cl i hi).kp⟩, ec, fun i j hi hj => ?_, fun i hi => ?_, fun i hi => (cl i hi).kitT (ne i) (by decide +kernel) (hasT i _ rfl), isi0⟩, ?_⟩
  · have z := List.all_eq_true.mp e2 i (List.mem_range.mpr hi)
    rw [decide_eq_false n, Bool.false_or] at z
    exact z
  · rw [kitIJ i j hi (by omega), decide_eq_false (by omega : ¬ j = 37), Bool.or_false]
  · rw [kitIJ i 37 hi (by decide), decide_eq_true (rfl : 37 = 37), Bool.or_true]
  · have k36 := ec 36 (by decide)
    have s36 : PySem.W.subIn K (.ref (ca K 36)) (.type "BaseException") = some true := k36.hs
    exact ⟨⟨oexB_ok e6, He.eqO_ok e7, s36, (cl 36 (by decide)).ty, (cl 36 (by decide)).kp⟩, He.eqO_ok e8, of_decide_eq_true e9, ⟨k36.hg, k36.hk, s36, k36.hd, He.eqO_ok e10⟩, (cl 37 (by decide)).kp, e11, He.eqO_ok e12, cfB_ok e13, len0⟩
theorem run (w : World) : HandSHeadRun.RunEq R (PySem.W.view R.prog [48]) (hookE 4) ob 20000 loose w := by
  intro os
  kernel_rfl
theorem facts {P : Program} {w : World} {K : PySem.W.Frag} {h : Heap} {mg : Str → Option Value} {f : Addr} (X : K.In h) (G : h.Ns mainGlobals mg) (hfa : mg ("law" : Str) = some (.ref f)) (c : He.SaysD fa fn K) (ex : ext K = true) :
    ∃ fd : FuncData, (∀ (s : Shared) (v : Value), BindsTo s fd ⟨[v], []⟩ [("script", v)]) ∧ ∀ base : Heap, K.In base → base.Ns mainGlobals mg → FnG P w K mg base 5 f fd ["script"] (spLaw K) := by
  obtain ⟨fd, F⟩ := c.def_ 0 (d := dd "law" sLaw) rfl
  obtain ⟨fdB, FB⟩ := c.def_ 1 (d := dd "_law_begun" sBegun) rfl
  obtain ⟨fdL, FL⟩ := c.def_ 2 (d := dd "_law_blend" sBlend) rfl
  obtain ⟨fdT, FT⟩ := c.def_ 3 (d := dd "_law_take" sTake) rfl
  obtain ⟨fdP, FP⟩ := c.def_ 4 (d := dd "_law_pick" sPick) rfl
  obtain ⟨fdK, FK⟩ := c.def_ 5 (d := dd "_law_kinds" sKinds) rfl
  obtain ⟨fdN, FN⟩ := c.def_ 6 (d := dd "_law_plain_errors" sPlain) rfl
  obtain ⟨fdD, FD⟩ := c.def_ 7 (d := dd "_law_told_errors" sTold) rfl
  obtain ⟨fdA, FA⟩ := c.def_ 8 (d := dd "_law_any" sAny) rfl
  obtain ⟨fdI, FI⟩ := c.def_ 9 rfl
  have e := hfa.symm.trans (He.glo_ok X G (c.fact 0 (f := .glo "law") rfl))
  cases e
  have gB := He.glo_ok X G (c.fact 1 (f := .glo "_law_begun") rfl)
  have gL := He.glo_ok X G (c.fact 2 (f := .glo "_law_blend") rfl)
  have gT := He.glo_ok X G (c.fact 3 (f := .glo "_law_take") rfl)
  have gP := He.glo_ok X G (c.fact 4 (f := .glo "_law_pick") rfl)
  have gK := He.glo_ok X G (c.fact 5 (f := .glo "_law_kinds") rfl)
  have gN := He.glo_ok X G (c.fact 6 (f := .glo "_law_plain_errors") rfl)
  have gD := He.glo_ok X G (c.fact 7 (f := .glo "_law_told_errors") rfl)
  have gA := He.glo_ok X G (c.fact 8 (f := .glo "_law_any") rfl)
  have abs0 := He.free_ok X G (c.fact 9 (f := .free "abs") rfl)
  have int0 := He.free_ok X G (c.fact 10 (f := .free "int") rfl)
  have len0 := He.free_ok X G (c.fact 11 (f := .free "len") rfl)
  have isi0 := He.free_ok X G (c.fact 12 (f := .free "isinstance") rfl)
  have rep0 := He.free_ok X G (c.fact 13 (f := .free "repr") rfl)
  have rng0 := He.free_ok X G (c.fact 14 (f := .free "range") rfl)
  have enu0 := He.free_ok X G (c.fact 15 (f := .free "enumerate") rfl)
  have ve0 := He.free_ok X G (c.fact 16 (f := .free "ValueError") rfl)
  obtain ⟨T, U⟩ := txt_of X G ex isi0 len0
  have b := FunD.bindsA (ps := ["script"]) F fun _ _ _ _ _ _ us hl => match us, hl with | [_], _ => rfl
  have b1 : ∀ {x : Str} {st : Stmt} {g : Addr} {gd : FuncData} {y : Str} (G1 : FnP K x st g gd) (h1 : ∀ (kV doc pm : Value) (an : Option Addr) (cdv ct : Value) (us : List Value), us.length = [y].length → bindArgs (PySem.W.fnOf x x (defArgs st) (defBody st) (defScope st) .none kV doc pm an cdv ct) ⟨us, []⟩ = pure ([y].zip us)), L2.Binds K gd [y] [] := fun G1 h1 => G1.bindsN h1
  have bB : L2.Binds K fdB ["script"] [] := FB.bindsN fun _ _ _ _ _ _ us hl => match us, hl with | [_], _ => rfl
  have bT : L2.Binds K fdT ["draw", "size"] [] := FT.bindsN fun _ _ _ _ _ _ us hl => match us, hl with | [_, _], _ => rfl
  have bP : L2.Binds K fdP ["draw", "some"] [] := FP.bindsN fun _ _ _ _ _ _ us hl => match us, hl with | [_, _], _ => rfl
  have bK : L2.Binds K fdK ["error"] [] := FK.bindsN fun _ _ _ _ _ _ us hl => match us, hl with | [_], _ => rfl
  have bN : L2.Binds K fdN ["words"] [] := FN.bindsN fun _ _ _ _ _ _ us hl => match us, hl with | [_], _ => rfl
  have bD : L2.Binds K fdD ["thing"] [] := FD.bindsN fun _ _ _ _ _ _ us hl => match us, hl with | [_], _ => rfl
  have bA : L2.Binds K fdA ["draw"] [] := FA.bindsN fun _ _ _ _ _ _ us hl => match us, hl with | [_], _ => rfl
  refine ⟨fd, fun s v => b s [v] rfl, fun base _ _ => ?_⟩
  have GT : FnOk P w K mg base CX0 2 _ fdT ["draw", "size"] spTake := ok_take FT int0 FL gL
  have GP : FnOk P w K mg base CX0 3 _ fdP ["draw", "some"] (spPick K) := ok_pick FP len0 GT bT gT FT.kp
  exact ok_law F T U ⟨gB, gP, gA, gD, gN, gK, FB.kp, FP.kp, FA.kp, FD.kp, FN.kp, FK.kp, rep0, rng0, enu0, ve0⟩ (ok_begun FB abs0) bB GP bP (ok_any FA GP bP gP FP.kp) bA (ok_told FD FI T U) bD (ok_plain FN T) bN (ok_kinds FK T) bK
end K96
open PySem PySem.W PySem.Calls PyProof.Rows
theorem PySem.Challenge.cw_etasure_k96_errors_of_all_parts_holds : PySem.Challenge.rw_etasure_k96_errors_of_all_parts.Holds := by
  w_on; o_law
  refine HandSHeadRun.head_any (r := OpenLaw.row PySem.Challenge.rw_etasure_k96_errors_of_all_parts) (q := view (OpenLaw.row PySem.Challenge.rw_etasure_k96_errors_of_all_parts).prog [48]) (H := K96.hookE 4) (ob := K96.ob) (M := 20000) (loose := K96.loose) (d := HandSHeadRun.topDef (OpenLaw.row PySem.Challenge.rw_etasure_k96_errors_of_all_parts).prog 48) (kwd := []) K96.ob_eq
    (by kernel_rfl) (fun s => by kernel_rfl) K96.run (by kernel_rfl) (by kernel_rfl) (by kernel_rfl) (by rfl) (by first | assumption | decide +kernel) (by decide +kernel) ⟨rfl, rfl, rfl, rfl, rfl, by decide +kernel⟩ ?hw ?hc
  case hw => w_witness2
  case hc =>
    refine Xv.walkG (l := PySem.Challenge.rw_etasure_k96_errors_of_all_parts) (n := 63) (k := 5) (x := "script") rfl (by decide) (by kernel_rfl) ⟨rfl, by decide, by decide⟩ ?F
    intro w mg fa h Y G hmg0
    obtain ⟨K, KX, c, ex⟩ := Y
    have hmg : mg ("law" : PySem.Str) = some (.ref fa) := by
      have e : (HandSHeadRun.topDef (OpenLaw.row PySem.Challenge.rw_etasure_k96_errors_of_all_parts).prog 48).name = ("law" : PySem.Str) := by kernel_rfl
      rw [← e]
      exact hmg0
    obtain ⟨fd, hb, hF⟩ := K96.facts (P := (PySem.Challenge.rw_etasure_k96_errors_of_all_parts).prog) (w := w) KX G hmg c ex
    exact ⟨K, fd, K96.spLaw K, KX, hb, fun H a ns hl _ hS => ⟨a, ns, rfl, hS, by omega, fun _ => rfl⟩, hF⟩
