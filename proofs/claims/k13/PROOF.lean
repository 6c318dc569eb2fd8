import PyProof.Rows.All
import Wide.All
import OpenK.AllK
import Wide.FinOn
import HandS.ForMost
import HandS.Wide
import HandS.Defaults
import KE.KExcIs
import HandS.ForExc
import HandS.IsInst
import HandS.ExcIs
import HandS.ExcOwn
import HandS.ExcValue
import HandS.ExcInit
import HandS.MakeKw
import HandS.MakeKwOnly
import HandS.Lambda
import HandS.TryOnly
import HandS.ClsMeth
import HandS.HeadWalk
import HandS.ExcField
import KE.GoesEnum
import HandS.Walk
import KE.GoesEnumKw
import KE.GoesMore
import HandS.SortKw
import HandS.Zip
import HandS.ExcBuiltin
import HandS.EndOwn
import HandS.Small
import HandS.Style
import HandS.TupAny
import HandS.TupLe
import Lean
import KE.KStateDown
import HandS.More
import HandS.Words
import HandS.WordsExc
import HandS.Head0
import HandS.Head1
import HandS.Head2
import HandS.HeadEnd
import HandS.HeadHook1
import HandS.HeadHook2
import HandS.HeadHook4
import HandS.Conv
import HandS.Deep
import KE.DataMinMax
import HandS.DictComp
import HandS.Gcd
import Flt.RightSqrt
import HandS.Iter
import HandS.Dict
import KE.KDictPairs
import KE.DatumOrd
import HandS.SetFor
import HandS.Head3
import PySem.Challenge.RW_etasure_k13_genus_by_formulas_and_by_cou
set_option Elab.async false
set_option linter.all false
set_option maxRecDepth 100000
set_option maxHeartbeats 4000000
set_option pp.deepTerms false
set_option pp.maxSteps 3000
namespace Dr
open PySem PySem.Spec PyProof.Rows L2
abbrev FnP (K : PySem.W.Frag) (x : Str) (st : Stmt) (f : Addr) (fd : FuncData) : Prop := FunD K x x (defArgs st) (defBody st) (defScope st) [] [] f fd
/-! ### the draw: a dict of four entries, two lists -/
def kLarge : Key := Sum.inr "large"
def kCells : Key := Sum.inr "cells"
def kRest : Key := Sum.inr "rest"
def kTurn : Key := Sum.inr "turn"
def drK (l c : Addr) (r t : Int) : List (Key × V) := [(kLarge, .ref l), (kCells, .ref c), (kRest, .int r), (kTurn, .int t)]
theorem k12 : ¬ kLarge = kCells := by decide +kernel
theorem k13 : ¬ kLarge = kRest := by decide +kernel
theorem k14 : ¬ kLarge = kTurn := by decide +kernel
theorem k23 : ¬ kCells = kRest := by decide +kernel
theorem k24 : ¬ kCells = kTurn := by decide +kernel
theorem k34 : ¬ kRest = kTurn := by decide +kernel
section
variable {l c : Addr} {r t z : Int}
theorem get_large : valV (drK l c r t) kLarge = some (.ref l) := valV_pos rfl
theorem get_cells : valV (drK l c r t) kCells = some (.ref c) := (valV_neg k12).trans (valV_pos rfl)
theorem get_rest : valV (drK l c r t) kRest = some (.int r) := (valV_neg k13).trans ((valV_neg k23).trans (valV_pos rfl))
theorem get_turn : valV (drK l c r t) kTurn = some (.int t) := (valV_neg k14).trans ((valV_neg k24).trans ((valV_neg k34).trans (valV_pos rfl)))
theorem put_rest : putK (drK l c r t) kRest (.int z) = drK l c z t := by
  have h1 := k13
  have h2 := k23
  have h3 : ¬ kTurn = kRest := fun e => k34 e.symm
  simp [putK, drK, h1, h2, h3]
theorem put_turn : putK (drK l c r t) kTurn (.int z) = drK l c r z := by
  have h1 := k14
  have h2 := k24
  have h3 := k34
  simp [putK, drK, h1, h2, h3]
end
/-- the draw at d, its lists at l and c -/
structure DrawAt (H : Hp) (d l c : Addr) (ls cs : List Int) (r t : Int) : Prop where
  dd : H d = some (.dK (drK l c r t))
  dl : H l = some (.lst (ls.map V.int))
  dc : H c = some (.lst (cs.map V.int))
  lc : l ≠ c
/-- all but d and l stays -/
def SameX (d l : Addr) (H H' : Hp) : Prop := ∀ b o, H b = some o → b ≠ d → b ≠ l → H' b = some o
/-- a draw at d (its list at l): what the callers keep -/
def Draw (H : Hp) (d l c : Addr) : Prop := ∃ ls cs r t, DrawAt H d l c ls cs r t
theorem SameX.refl (d l : Addr) (H : Hp) : SameX d l H H := fun _ _ e _ _ => e
theorem SameX.trans {d l : Addr} {H H1 H2 : Hp} (a : SameX d l H H1) (b : SameX d l H1 H2) : SameX d l H H2 := fun c o e n1 n2 => b c o (a c o e n1 n2) n1 n2
theorem SameX.of {d l : Addr} {H H' : Hp} (a : Same H H') : SameX d l H H' := fun c o e _ _ => a c o e
theorem DrawAt.nl {H : Hp} {d l c : Addr} {ls cs : List Int} {r t : Int} (D : DrawAt H d l c ls cs r t) : d ≠ l := ne_of D.dd D.dl (fun z => by cases z)
theorem DrawAt.nc {H : Hp} {d l c : Addr} {ls cs : List Int} {r t : Int} (D : DrawAt H d l c ls cs r t) : d ≠ c := ne_of D.dd D.dc (fun z => by cases z)
theorem DrawAt.same {H H' : Hp} {d l c : Addr} {ls cs : List Int} {r t : Int} (D : DrawAt H d l c ls cs r t) (s : Same H H') : DrawAt H' d l c ls cs r t := ⟨s _ _ D.dd, s _ _ D.dl, s _ _ D.dc, D.lc⟩
theorem Draw.same {H H' : Hp} {d l c : Addr} (D : Draw H d l c) (s : Same H H') : Draw H' d l c := by
  obtain ⟨ls, cs, r, t, D⟩ := D
  exact ⟨ls, cs, r, t, D.same s⟩
theorem Draw.put {H : Hp} {d l c p : Addr} {o : HO} (D : Draw H d l c) (h1 : p ≠ d) (h2 : p ≠ l) (h3 : p ≠ c) : Draw (upd H p o) d l c := by
  obtain ⟨ls, cs, r, t, D⟩ := D
  exact ⟨ls, cs, r, t, by rw [upd_ne h1.symm]; exact D.dd, by rw [upd_ne h2.symm]; exact D.dl, by rw [upd_ne h3.symm]; exact D.dc, D.lc⟩
theorem Draw.ne {H : Hp} {d l c p : Addr} (D : Draw H d l c) (n : H p = none) : p ≠ d ∧ p ≠ l ∧ p ≠ c := by
  obtain ⟨ls, cs, r, t, D⟩ := D
  exact ⟨(ne_of_none D.dd n).symm, (ne_of_none D.dl n).symm, (ne_of_none D.dc n).symm⟩
theorem DrawAt.rest {H : Hp} {d l c : Addr} {ls cs : List Int} {r t : Int} (D : DrawAt H d l c ls cs r t) (z : Int) : DrawAt (upd H d (.dK (drK l c z t))) d l c ls cs z t :=
  ⟨upd_same, by rw [upd_ne D.nl.symm]; exact D.dl, by rw [upd_ne D.nc.symm]; exact D.dc, D.lc⟩
theorem DrawAt.turn {H : Hp} {d l c : Addr} {ls cs : List Int} {r t : Int} (D : DrawAt H d l c ls cs r t) (z : Int) : DrawAt (upd H d (.dK (drK l c r z))) d l c ls cs r z :=
  ⟨upd_same, by rw [upd_ne D.nl.symm]; exact D.dl, by rw [upd_ne D.nc.symm]; exact D.dc, D.lc⟩
theorem DrawAt.pop {H : Hp} {d l c : Addr} {ls ls' cs : List Int} {r t : Int} (D : DrawAt H d l c ls cs r t) : DrawAt (upd H l (.lst (ls'.map V.int))) d l c ls' cs r t :=
  ⟨by rw [upd_ne D.nl]; exact D.dd, upd_same, by rw [upd_ne D.lc.symm]; exact D.dc, D.lc⟩
theorem sameX_d {H : Hp} {d l : Addr} {o : HO} : SameX d l H (upd H d o) := fun b o e n1 n2 => by rw [upd_ne n1]; exact e
theorem sameX_l {H : Hp} {d l : Addr} {o : HO} : SameX d l H (upd H l o) := fun b o e n1 n2 => by rw [upd_ne n2]; exact e
theorem sameX_new {H : Hp} {d l p : Addr} {o : HO} (n : H p = none) : SameX d l H (upd H p o) := fun b o e n1 n2 => by rw [upd_ne (ne_of_none e n)]; exact e
theorem same_new {H : Hp} {p : Addr} {o : HO} (n : H p = none) : Same H (upd H p o) := fun b o e => by rw [upd_ne (ne_of_none e n)]; exact e
theorem int_at {ns : List Int} {i : Nat} {x : V} (h : (ns.map V.int)[i]? = some x) : ∃ z, ns[i]? = some z ∧ x = .int z := by
  rw [List.getElem?_map] at h
  cases e : ns[i]? with
  | none =>
    rw [e] at h
    cases h
  | some z =>
    rw [e] at h
    exact ⟨z, rfl, (Option.some.inj h).symm⟩
theorem merge_dr {l c : Addr} {r t : Int} : mergeK [] (drK l c r t) = drK l c r t := by
  have h1 := k12
  have h2 := k13
  have h3 := k14
  have h4 := k23
  have h5 := k24
  have h6 := k34
  simp [mergeK, putK, drK, h1, h2, h3, h4, h5, h6]
theorem yesT {s : L2.St} {H : Hp} {A B : Hp → Prop} (h : A H) : tYes s H (fun b H3 => if b = true then A H3 else B H3) := by
  show if true = true then A H else B H
  rw [if_pos rfl]
  exact h
/-! ### lists of ints as data -/
def intsD (ls : List Int) : List PyData := ls.map PyData.int
theorem ints_lay : ∀ ls : List Int, PyData.canLayAll0 (intsD ls) = true
  | [] => rfl
  | z :: r => by
    show (PyData.canLay0 (.int z) && PyData.canLayAll0 (intsD r)) = true
    rw [ints_lay r]
    rfl
theorem ints_depth : ∀ ls : List Int, PyData.depthAll (intsD ls) = 0
  | [] => rfl
  | z :: r => by
    show max (PyData.depth (.int z)) (PyData.depthAll (intsD r)) = 0
    rw [ints_depth r]
    rfl
theorem ints_shaped (ls : List Int) : SeqAt.shaped (.list (intsD ls)) = true := by
  show (PyData.canLayAll0 (intsD ls) && decide (PyData.depthAll (intsD ls) + 1 ≤ 64)) = true
  rw [ints_lay, ints_depth]
  rfl
theorem ints_dp {K : PySem.W.Frag} {H : Hp} : ∀ ls : List Int, DpAll K H (ls.map V.int) (intsD ls)
  | [] => .nil
  | z :: r => .cons (.int z) (ints_dp r)
def spBegun (K : PySem.W.Frag) : Sp := fun vs H Q _ => ∃ (a : Addr) (ns : List Int), vs = [.ref a] ∧ SqL K H a (ns.map V.int) ∧ ns.length ≤ 1000 ∧
  ∀ (d l c : Addr) (H' : Hp), H d = none → H l = none → H c = none → Same H H' → Draw H' d l c → Q (.ref d) H'
section
variable {H : Hp} {d l c : Addr} {ls cs : List Int} {r t : Int}
theorem DrawAt.gLarge (D : DrawAt H d l c ls cs r t) : DGet H d (.str "large") (some (.ref l)) := by
  have z := DGet.k (k := kLarge) D.dd
  rw [get_large] at z
  exact z
theorem DrawAt.gCells (D : DrawAt H d l c ls cs r t) : DGet H d (.str "cells") (some (.ref c)) := by
  have z := DGet.k (k := kCells) D.dd
  rw [get_cells] at z
  exact z
theorem DrawAt.gRest (D : DrawAt H d l c ls cs r t) : DGet H d (.str "rest") (some (.int r)) := by
  have z := DGet.k (k := kRest) D.dd
  rw [get_rest] at z
  exact z
theorem DrawAt.gTurn (D : DrawAt H d l c ls cs r t) : DGet H d (.str "turn") (some (.int t)) := by
  have z := DGet.k (k := kTurn) D.dd
  rw [get_turn] at z
  exact z
theorem DrawAt.pRest (D : DrawAt H d l c ls cs r t) (z : Int) : DPut H d (.str "rest") (.int z) (upd H d (.dK (drK l c z t))) := by
  have q := DPut.k (k := kRest) (v := .int z) D.dd (by show 4 < sizeLine; decide)
  rw [put_rest] at q
  exact q
theorem DrawAt.pTurn (D : DrawAt H d l c ls cs r t) (z : Int) : DPut H d (.str "turn") (.int z) (upd H d (.dK (drK l c r z))) := by
  have q := DPut.k (k := kTurn) (v := .int z) D.dd (by show 4 < sizeLine; decide)
  rw [put_turn] at q
  exact q
end
def spBlend : Sp := fun vs H Q _ => ∃ (d l c : Addr) (ls cs : List Int) (r t : Int), vs = [.ref d] ∧ DrawAt H d l c ls cs r t ∧
  ∀ (v t' : Int) (H' : Hp), DrawAt H' d l c ls cs r t' → SameX d l H H' → Q (.int v) H'
def spTake : Sp := fun vs H Q _ => ∃ (d l c : Addr) (n : Int), vs = [.ref d, .int n] ∧ Draw H d l c ∧ 0 < n ∧ n.natAbs.log2 < 9000 ∧
  ∀ (v : Int) (H' : Hp), 0 ≤ v → v < n → Draw H' d l c → SameX d l H H' → Q (.int v) H'
theorem pow_small {z q : Int} (h0 : 0 ≤ z) (h1 : z < q) (hq : q ≤ 2147483648) : CPow z 5 := ⟨by decide, by decide, by
  have e : (2 : Nat) ^ 64 = 18446744073709551616 := by decide
  omega⟩
theorem pop_ix (n : Nat) : seqIndex? 0 (n + 1) = some 0 := by
  unfold seqIndex?
  simp
def spPick (K : PySem.W.Frag) : Sp := fun vs H Q _ => ∃ (d l c a : Addr) (xs : List V), vs = [.ref d, .ref a] ∧ Draw H d l c ∧ (∀ H', SameX d l H H' → SqL K H' a xs) ∧ xs ≠ [] ∧ xs.length ≤ 1000 ∧
  ∀ (v : V) (H' : Hp), v ∈ xs → Draw H' d l c → SameX d l H H' → Q v H'
theorem log_small {n : Nat} (h : n ≤ 1000) : ((n : Int)).natAbs.log2 < 9000 := by
  have e : ((n : Int)).natAbs = n := by omega
  rw [e]
  by_cases z : n = 0
  · rw [z]
    decide
  · have k : n.log2 < 10 := (Nat.log2_lt z).mpr (by omega)
    omega
end Dr

set_option Elab.async false
set_option linter.all false
set_option maxRecDepth 100000
set_option maxHeartbeats 4000000
set_option pp.deepTerms false
set_option pp.maxSteps 3000
namespace Dr
open PySem PySem.Spec PyProof.Rows L2
def top (i : Nat) : Stmt := PySem.Challenge.pw_etasure_k13_genus_by_formulas_and_by_cou.main.body.getD i (.Pass ⟨0, 0, 0, 0⟩)
abbrev sBegun : Stmt := top 21
abbrev sBlend : Stmt := top 22
abbrev sTake : Stmt := top 23
abbrev sPick : Stmt := top 24
section
variable {P : Program} {w : World} {K : PySem.W.Frag} {mg : Str → Option Value} {base : Heap} {f fB fT : Addr} {fd fdB fdT : FuncData}
theorem scBegun : FnScope ["script", "large", "cell"] ["script"] (defScope sBegun) := ⟨rfl, rfl, rfl, by decide +kernel, rfl, by decide +kernel, by decide +kernel⟩
theorem ok_begun (F : FnP K "_law_begun" sBegun f fd) (abs0 : mg "abs" = none) : FnOk P w K mg base CX0 1 f fd ["script"] (spBegun K) := by
  refine F.ok scBegun (fun vs H Q E h => ?_) (fun cdv A outer s H vs Q E hr h => ?_)
  · obtain ⟨a, ns, rfl, _⟩ := h
    rfl
  · obtain ⟨a, ns, rfl, hS, hlen, k⟩ := h
    refine ⟨_, PSs.nox (pss_cons (ps_setLc (i := 1) (own := [("cell", 2)]) (g := gName 2) rfl scBegun.nd rfl rfl (sw_true rfl rfl rfl (by decide +kernel)) (pi_list (pv 0)) (blkOk_by (own := [("cell", 2)]) (N := ["script", "large", "cell"]) (sc := defScope sBegun) (by decide +kernel))
        (fun _ _ _ _ _ => pg_name (i := 2) scBegun.nd rfl (Or.inl rfl)) (fun _ _ _ _ _ => pts_one (pt_cmpR op_ge (pe_callB call_abs (by rfl) abs0 boot_abs (pa_cons (pv 2) pa_nil)) (pe_op op_pow pe_int pe_int) (nomark _)))
        (fun _ _ _ _ _ => pe_op op_sub (pe_callB call_abs (by rfl) abs0 boot_abs (pa_cons (pv 2) pa_nil)) (pe_op op_pow pe_int pe_int)))
      (pss_one (ps_ret (pe_disp (pps_cons pe_str (pv 1) (pps_cons pe_str (pe_lc (own := [("cell", 2)]) (g := gName 2) rfl scBegun.nd (pi_list (pv 0)) (blkOk_by (own := [("cell", 2)]) (N := ["script", "large", "cell"]) (sc := defScope sBegun) (by decide +kernel))
        (fun _ _ _ _ _ => pg_name (i := 2) scBegun.nd rfl (Or.inl rfl)) (fun _ _ _ _ _ => pts_nil) (fun _ _ _ _ _ => pe_callB call_abs (by rfl) abs0 boot_abs (pa_cons (pv 2) pa_nil)))
        (pps_cons pe_str pe_int (pps_cons pe_str pe_int pps_nil)))) (by rfl) (by rfl) (fun z => by cases z) (by decide))))), ?_⟩
    refine ⟨_, rfl, a, rfl, ⟨_, hS⟩, fun D hD => lc_list (K := K) (a := a) (xs := ns.map V.int) (fun i H' => ∃ out : List Int, H' D = some (.lst (out.map V.int)) ∧ out.length ≤ i ∧ Same H H')
      ⟨[], upd_same, Nat.le_refl _, same_new hD⟩ (fun i H' _ ⟨_, _, _, s⟩ => s.seq hS) ?_ ?_⟩
    · rintro i x H' hi ⟨out, h1, h2, s⟩
      obtain ⟨z, hz, rfl⟩ := int_at hi
      have hlt : i < ns.length := by
        by_cases q : i < ns.length
        · exact q
        · rw [List.getElem?_eq_none (by omega)] at hz
          cases hz
      refine ⟨rfl, _, rfl, _, rfl, _, _, rfl, rfl, ⟨by decide, by decide, by decide⟩, _, _, rfl, rfl, _, rfl, ?_⟩
      refine ite2 (fun _ => ?_) (fun _ => ?_)
      · refine ⟨_, rfl, _, rfl, _, _, rfl, rfl, ⟨by decide, by decide, by decide⟩, _, _, rfl, rfl, _, h1, ?_, ?_⟩
        · rw [List.length_map]
          exact small1000 (by omega)
        · exact ⟨out ++ [(if z < 0 then -z else z) - 10 ^ (18 : Int).toNat], by rw [upd_same, List.map_append]; rfl, by rw [List.length_append]; show out.length + 1 ≤ i + 1; omega, fun b o e => by rw [upd_ne (ne_of_none e hD)]; exact s b o e⟩
      · exact ⟨out, h1, by omega, s⟩
    · rintro H1 ⟨out, h1, h2, s⟩
      intro p hp
      refine ⟨_, rfl, _, rfl, a, rfl, ⟨ns.map V.int, ?_⟩, fun D2 hD2 => lc_list (K := K) (a := a) (xs := ns.map V.int) (fun i H' => ∃ out : List Int, H' D2 = some (.lst (out.map V.int)) ∧ out.length ≤ i ∧ Same (upd H1 p (.dK [])) H')
        ⟨[], upd_same, Nat.le_refl _, same_new hD2⟩ (fun i H' _ ⟨_, _, _, s2⟩ => (s.trans ((same_new hp).trans s2)).seq hS) ?_ ?_⟩
      · exact ((same_new hp).seq (s.seq hS))
      · rintro i x H' hi ⟨out2, g1, g2, s2⟩
        obtain ⟨z, hz, rfl⟩ := int_at hi
        have hlt : i < ns.length := by
          by_cases q : i < ns.length
          · exact q
          · rw [List.getElem?_eq_none (by omega)] at hz
            cases hz
        refine ⟨rfl, yesT ?_⟩
        refine ⟨_, rfl, _, rfl, _, g1, ?_, ?_⟩
        · rw [List.length_map]
          exact small1000 (by omega)
        · exact ⟨out2 ++ [(if z < 0 then -z else z)], by rw [upd_same, List.map_append]; rfl, by rw [List.length_append]; show out2.length + 1 ≤ i + 1; omega, fun b o e => by rw [upd_ne (ne_of_none e hD2)]; exact s2 b o e⟩
      · rintro H2 ⟨out2, g1, g2, s2⟩
        have hp2 : H2 p = some (.dK []) := s2 _ _ upd_same
        refine ⟨hp2, drK D D2 0 0, rfl, (by show 4 ≤ 15; decide), ?_⟩
        have nD : D ≠ p := ne_of_none h1 hp
        have nD2 : D2 ≠ p := (ne_of_none upd_same hD2).symm
        have e1 : H2 D = some (.lst (out.map V.int)) := s2 _ _ (by rw [upd_ne nD]; exact h1)
        have nDD : D ≠ D2 := ne_of_none (o := .lst (out.map V.int)) (by rw [upd_ne nD]; exact h1) hD2
        have em : mergeK [] (drK D D2 0 0) = drK D D2 0 0 := merge_dr
        rw [em]
        refine k p D D2 _ (s.free hp) hD ((s.trans (same_new hp)).free hD2) (fun b o e => ?_) ⟨out, out2, 0, 0, upd_same, by rw [upd_ne nD]; exact e1, by rw [upd_ne nD2]; exact g1, nDD⟩
        have nb : b ≠ p := ne_of_none (s b o e) hp
        rw [upd_ne nb]
        exact s2 b o (by rw [upd_ne nb]; exact s b o e)
theorem scBlend : FnScope ["draw", "turn", "found", "prime", "stirred", "cell"] ["draw"] (defScope sBlend) := ⟨rfl, rfl, rfl, by decide +kernel, rfl, by decide +kernel, by decide +kernel⟩
theorem ok_blend (F : FnP K "_law_blend" sBlend f fd) (int0 : mg "int" = none) : FnOk P w K mg base CX0 1 f fd ["draw"] spBlend := by
  refine F.ok scBlend (fun vs H Q E h => ?_) (fun cdv A outer s H vs Q E hr h => ?_)
  · obtain ⟨d, l, c, ls, cs, r, t, rfl, _⟩ := h
    rfl
  · obtain ⟨d, l, c, ls, cs, r, t, rfl, D, k⟩ := h
    have hu := hu_of hr
    refine ⟨_, PSs.nox (pss_cons (ps_par (i := 1) (j := 2) (by rfl) scBlend.nd rfl rfl (by decide) rfl rfl (pa_cons (pe_op op_add (pe_dget hu (pv 0) pe_str (fun _ _ => rfl)) pe_int) (pa_cons pe_int pa_nil)) (by rfl))
      (pss_cons (ps_dput hu (pv 0) pe_str (pv 1) rfl)
      (pss_cons (ps_for PassesOwn.never rfl (pi_list (pe_lst (pa_cons pe_int (pa_cons pe_int (pa_cons pe_int pa_nil))))) (pg_name (i := 3) scBlend.nd rfl (Or.inl rfl))
        (pss_cons (ps_set (i := 4) scBlend.nd rfl (Or.inl rfl) (pe_op op_mod (pe_callTy call_int1 (by rfl) int0 boot_int (pa_cons (pe_op op_add (pe_op op_mul (pv 1) pe_int) (pe_op op_fdiv (pv 3) pe_int)) pa_nil)) (pv 3)))
        (pss_cons (ps_for PassesOwn.never rfl (pi_list (pe_dget hu (pv 0) pe_str (fun _ _ => rfl))) (pg_name (i := 5) scBlend.nd rfl (Or.inl rfl))
          (pss_one (ps_set (i := 4) scBlend.nd rfl (Or.inl rfl) (pe_op op_mod (pe_callTy call_int1 (by rfl) int0 boot_int (pa_cons (pe_op op_add (pe_op op_add (pe_op op_mul (pv 4) pe_int) (pe_callTy call_int1 (by rfl) int0 boot_int (pa_cons (pv 5) pa_nil))) pe_int) pa_nil)) (pv 3)))))
        (pss_one (ps_set (i := 2) scBlend.nd rfl (Or.inl rfl) (pe_op op_add (pe_op op_mul (pv 2) pe_int) (pe_op op_mod (pe_callTy call_int1 (by rfl) int0 boot_int (pa_cons (pe_op op_pow (pv 4) pe_int) pa_nil)) (pv 3))))))))
      (pss_one (ps_ret (pv 2)))))), ?_⟩
    refine ⟨_, rfl, d, _, rfl, D.gTurn, _, _, rfl, rfl, _, _, rfl, ?_⟩
    refine ⟨_, rfl, _, rfl, d, _, rfl, D.pTurn _, ?_⟩
    have D1 := D.turn (t + 1)
    refine ⟨(by show 3 ≤ sizeLine; decide), fun p hp => ?_⟩
    have D2 := D1.same (same_new (o := .lst ([2147483629, 2147483587, 2147483579].map V.int)) hp)
    refine ⟨p, rfl, ⟨[2147483629, 2147483587, 2147483579].map V.int, SqL.of upd_same⟩, for_list (K := K) (a := p) (xs := [2147483629, 2147483587, 2147483579].map V.int)
      (fun i σ H2 => ∃ (v : Int) (x3 x4 x5 : Option V), σ = [some (.ref d), some (.int (t + 1)), some (.int v), x3, x4, x5] ∧ H2 = upd (upd H d (.dK (drK l c r (t + 1)))) p (.lst ([2147483629, 2147483587, 2147483579].map V.int)))
      ⟨0, none, none, none, rfl, rfl⟩ (fun i σ H2 _ ⟨_, _, _, _, _, e⟩ => by rw [e]; exact SqL.of upd_same) ?_ ?_⟩
    · rintro i x σ H2 hi ⟨v, x3, x4, x5, rfl, rfl⟩
      obtain ⟨q, hq, rfl⟩ := int_at hi
      have hq2 : 0 < q ∧ q ≤ 2147483648 := by
        rcases i with _ | _ | _ | i
        · cases hq; exact ⟨by decide, by decide⟩
        · cases hq; exact ⟨by decide, by decide⟩
        · cases hq; exact ⟨by decide, by decide⟩
        · cases hq
      refine ⟨_, rfl, _, _, rfl, rfl, .inr ⟨by decide, by decide⟩, _, rfl, _, _, rfl, rfl, ⟨by decide, by decide⟩, _, _, rfl, rfl, .inl ⟨_, rfl, _, rfl, _, _, rfl, rfl, hq2.1, ?_⟩⟩
      refine ⟨_, rfl, d, _, rfl, D2.gCells, c, rfl, ⟨cs.map V.int, SqL.of D2.dc⟩, for_list (K := K) (a := c) (xs := cs.map V.int)
        (fun j σ H2 => ∃ (z : Int) (y5 : Option V), σ = [some (.ref d), some (.int (t + 1)), some (.int v), some (.int q), some (.int z), y5] ∧ 0 ≤ z ∧ z < q ∧ H2 = upd (upd H d (.dK (drK l c r (t + 1)))) p (.lst ([2147483629, 2147483587, 2147483579].map V.int)))
        ⟨_, x5, rfl, Int.emod_nonneg _ (by omega), Int.emod_lt_of_pos _ hq2.1, rfl⟩ (fun j σ H2 _ ⟨_, _, _, _, _, e⟩ => by rw [e]; exact SqL.of D2.dc) ?_ ?_⟩
      · rintro j x σ H2 hj ⟨z, y5, rfl, z0, z1, rfl⟩
        obtain ⟨u, hu2, rfl⟩ := int_at hj
        refine ⟨_, rfl, _, _, rfl, rfl, .inr ⟨by decide, by decide⟩, _, rfl, .inl ⟨_, rfl, _, _, rfl, rfl, _, _, rfl, rfl, .inl ⟨_, rfl, _, rfl, _, _, rfl, rfl, hq2.1, ?_⟩⟩⟩
        exact ⟨_, some (.int u), rfl, Int.emod_nonneg _ (by omega), Int.emod_lt_of_pos _ hq2.1, rfl⟩
      · rintro σ H2 ⟨z, y5, rfl, z0, z1, rfl⟩
        refine ⟨_, rfl, _, _, rfl, rfl, .inr ⟨by decide, by decide⟩, _, rfl, _, _, rfl, rfl, pow_small z0 z1 hq2.2, .inl ⟨_, rfl, _, rfl, _, _, rfl, rfl, hq2.1, _, _, rfl, rfl, ?_⟩⟩
        exact ⟨_, some (.int q), some (.int z), y5, rfl, rfl⟩
    · rintro σ H2 ⟨v, x3, x4, x5, rfl, rfl⟩
      exact ⟨_, rfl, k v (t + 1) _ D2 (sameX_d.trans (sameX_new hp))⟩
theorem scTake : FnScope ["draw", "size", "found"] ["draw", "size"] (defScope sTake) := ⟨rfl, rfl, rfl, by decide +kernel, rfl, by decide +kernel, by decide +kernel⟩
theorem ok_take (F : FnP K "_law_take" sTake f fd) (int0 : mg "int" = none) (FB : FnP K "_law_blend" sBlend fB fdB) (gB : mg "_law_blend" = some (.ref fB)) : FnOk P w K mg base CX0 2 f fd ["draw", "size"] spTake := by
  have GB : FnOk P w K mg base CX0 1 fB fdB ["draw"] spBlend := ok_blend FB int0
  have bB : Binds K fdB ["draw"] [] := FB.bindsN fun _ _ _ _ _ _ us hl => match us, hl with | [_], _ => rfl
  refine F.ok scTake (fun vs H Q E h => ?_) (fun cdv A outer s H vs Q E hr h => ?_)
  · obtain ⟨d, l, c, n, rfl, _⟩ := h
    rfl
  · obtain ⟨d, l, c, n, rfl, ⟨ls, cs, r, t, D⟩, n0, n1, k⟩ := h
    have hu := hu_of hr
    refine ⟨_, PSs.nox (pss_cons (ps_while PassesOwn.never (PW.pt (pw_and (pt_cmpR op_eq (pe_dget hu (pv 0) pe_str (fun _ _ => rfl)) pe_int (nomark _)) (pw_and1 (pt_cmpR (op_neD hr.units) (pe_dget hu (pv 0) pe_str (fun _ _ => rfl)) (pe_lst pa_nil) (nomark _)))))
        (pss_one (ps_dput hu (pv 0) pe_str (pe_bm PySem.F.plainAttrs_list PySem.F.slot_list_pop PySem.F.type_list_pop mt_popAt (pe_dget hu (pv 0) pe_str (fun _ _ => rfl)) (pa_cons pe_int pa_nil)) rfl)))
      (pss_cons (ps_if (pt_cmpR op_eq (pe_dget hu (pv 0) pe_str (fun _ _ => rfl)) pe_int (nomark _))
          (pss_one (ps_dput hu (pv 0) pe_str (pe_call GB hr rfl gB FB.kp bB .nil pass0 (pa_cons (pv 0) pa_nil)) rfl)) pss_nil)
      (pss_cons (ps_set (i := 2) scTake.nd rfl (Or.inl rfl) (pe_op op_mod (pe_callTy call_int1 (by rfl) int0 boot_int (pa_cons (pe_dget hu (pv 0) pe_str (fun _ _ => rfl)) pa_nil)) (pv 1)))
      (pss_cons (ps_dput hu (pv 0) pe_str (pe_op op_fdivW (pe_callTy call_int1 (by rfl) int0 boot_int (pa_cons (pe_dget hu (pv 0) pe_str (fun _ _ => rfl)) pa_nil)) (pv 1)) rfl)
      (pss_one (ps_ret (pv 2))))))), ?_⟩
    refine ⟨fun m σ H' => ∃ (ls' : List Int) (r' : Int), σ = [some (.ref d), some (.int n), none] ∧ DrawAt H' d l c ls' cs r' t ∧ SameX d l H H' ∧ m = ls'.length, ⟨_, ls, r, rfl, D, SameX.refl _ _ _, rfl⟩, ?_⟩
    rintro m σ H1 ⟨ls1, r1, rfl, D1, s1, rfl⟩
    refine ⟨_, rfl, d, _, rfl, D1.gRest, rfl, _, rfl, ?_⟩
    refine ite2 (fun e0 => ?_) (fun e0 => ?_)
    · refine ⟨_, rfl, d, _, rfl, D1.gLarge, ?_⟩
      refine ⟨(by show 0 ≤ sizeLine; decide), fun p hp => ?_⟩
      have D2 := D1.same (same_new (o := .lst []) hp)
      have s2 := s1.trans (sameX_new (o := .lst []) hp)
      refine ⟨.list (intsD ls1), .list [], .lst (SqL.of D2.dl) (ints_dp _), .lst (SqL.of upd_same) .nil, ints_shaped _, rfl, _, rfl, ?_⟩
      cases ls1 with
      | nil =>
        refine iteF ?_
        have D1 := D2
        have s1 := s2
        refine ⟨_, rfl, d, _, rfl, D1.gRest, rfl, _, rfl, ?_⟩
        refine ite2 (fun _ => ?_) (fun _ => ?_)
        · refine ⟨_, rfl, d, l, c, _, cs, _, t, rfl, D1, fun v t' H2 D2 s2 => ?_⟩
          have DD := D2.rest v
          have SS := (s1.trans s2).trans (sameX_d (o := .dK (drK l c v t')))
          refine ⟨_, rfl, d, _, rfl, D2.pRest v, ?_⟩
          refine ⟨_, rfl, d, _, rfl, DD.gRest, .inl ⟨_, rfl, _, rfl, _, _, rfl, rfl, n0, ?_⟩⟩
          refine ⟨_, rfl, d, _, rfl, DD.gRest, .inl ⟨_, rfl, _, rfl, _, _, rfl, rfl, ⟨n0, n1⟩, _, rfl, d, _, rfl, DD.pRest _, _, rfl, ?_⟩⟩
          exact k _ _ (Int.emod_nonneg _ (by omega)) (Int.emod_lt_of_pos _ n0) ⟨_, cs, _, _, DD.rest _⟩ (SS.trans sameX_d)
        · have DD := D1
          have SS := s1
          refine ⟨_, rfl, d, _, rfl, DD.gRest, .inl ⟨_, rfl, _, rfl, _, _, rfl, rfl, n0, ?_⟩⟩
          refine ⟨_, rfl, d, _, rfl, DD.gRest, .inl ⟨_, rfl, _, rfl, _, _, rfl, rfl, ⟨n0, n1⟩, _, rfl, d, _, rfl, DD.pRest _, _, rfl, ?_⟩⟩
          exact k _ _ (Int.emod_nonneg _ (by omega)) (Int.emod_lt_of_pos _ n0) ⟨_, cs, _, _, DD.rest _⟩ (SS.trans sameX_d)
      | cons z zs =>
        refine iteT ⟨_, fun σ' H' e => e, ?_⟩
        refine ⟨_, rfl, d, _, rfl, D2.gLarge, .inl ⟨rfl, _, SqL.of D2.dl⟩, ?_⟩
        refine ⟨l, _, _, 0, V.int z, rfl, rfl, D2.dl, by decide, by decide, pop_ix _, rfl, ?_⟩
        have D3 := D2.pop (ls' := zs)
        refine ⟨_, rfl, d, _, rfl, D3.pRest _, ?_⟩
        exact ⟨zs.length, Nat.lt_succ_self _, zs, z, rfl, D3.rest z, (s2.trans sameX_l).trans sameX_d, rfl⟩
    · refine iteF ?_
      refine ⟨_, rfl, d, _, rfl, D1.gRest, rfl, _, rfl, ?_⟩
      refine ite2 (fun _ => ?_) (fun _ => ?_)
      · refine ⟨_, rfl, d, l, c, _, cs, _, t, rfl, D1, fun v t' H2 D2 s2 => ?_⟩
        have DD := D2.rest v
        have SS := (s1.trans s2).trans (sameX_d (o := .dK (drK l c v t')))
        refine ⟨_, rfl, d, _, rfl, D2.pRest v, ?_⟩
        refine ⟨_, rfl, d, _, rfl, DD.gRest, .inl ⟨_, rfl, _, rfl, _, _, rfl, rfl, n0, ?_⟩⟩
        refine ⟨_, rfl, d, _, rfl, DD.gRest, .inl ⟨_, rfl, _, rfl, _, _, rfl, rfl, ⟨n0, n1⟩, _, rfl, d, _, rfl, DD.pRest _, _, rfl, ?_⟩⟩
        exact k _ _ (Int.emod_nonneg _ (by omega)) (Int.emod_lt_of_pos _ n0) ⟨_, cs, _, _, DD.rest _⟩ (SS.trans sameX_d)
      · have DD := D1
        have SS := s1
        refine ⟨_, rfl, d, _, rfl, DD.gRest, .inl ⟨_, rfl, _, rfl, _, _, rfl, rfl, n0, ?_⟩⟩
        refine ⟨_, rfl, d, _, rfl, DD.gRest, .inl ⟨_, rfl, _, rfl, _, _, rfl, rfl, ⟨n0, n1⟩, _, rfl, d, _, rfl, DD.pRest _, _, rfl, ?_⟩⟩
        exact k _ _ (Int.emod_nonneg _ (by omega)) (Int.emod_lt_of_pos _ n0) ⟨_, cs, _, _, DD.rest _⟩ (SS.trans sameX_d)
/-! ### _law_pick -/
theorem scPick : FnScope ["draw", "some"] ["draw", "some"] (defScope sPick) := ⟨rfl, rfl, rfl, by decide +kernel, rfl, by decide +kernel, by decide +kernel⟩
theorem ok_pick (F : FnP K "_law_pick" sPick f fd) (len0 : mg "len" = none) (GT : FnOk P w K mg base CX0 2 fT fdT ["draw", "size"] spTake) (bT : Binds K fdT ["draw", "size"] []) (gT : mg "_law_take" = some (.ref fT)) (kT : PySem.W.keepIn K (.ref fT) = true) :
    FnOk P w K mg base CX0 3 f fd ["draw", "some"] (spPick K) := by
  refine F.ok scPick (fun vs H Q E h => ?_) (fun cdv A outer s H vs Q E hr h => ?_)
  · obtain ⟨d, l, c, a, xs, rfl, _⟩ := h
    rfl
  · obtain ⟨d, l, c, a, xs, rfl, D, hA, hne, hlen, q⟩ := h
    refine ⟨_, PSs.nox (pss_one (ps_ret (pe_ix ix_list (pv 1) (pe_call GT hr rfl gT kT bT .nil pass0 (pa_cons (pv 0) (pa_cons (pe_callB call_len (by rfl) len0 PySem.boot_len (pa_cons (pv 1) pa_nil)) pa_nil))) (fun _ _ => rfl)))), ?_⟩
    have h0 : 0 < xs.length := List.length_pos_iff.mpr hne
    refine ⟨_, rfl, _, rfl, _, rfl, _, xs.length, rfl, .inl ⟨_, hA H (SameX.refl _ _ _), rfl⟩, d, l, c, _, rfl, D, by omega, log_small hlen, fun v H' v0 v1 D' s' => ?_⟩
    obtain ⟨i, rfl⟩ : ∃ i : Nat, v = (i : Int) := ⟨v.toNat, by omega⟩
    have hi : i < xs.length := by omega
    refine ⟨a, xs, _, xs[i], rfl, rfl, hA H' s', atI_nat (by simp [hi]), ?_⟩
    exact q _ _ (List.getElem_mem hi) D' s'
end
end Dr

set_option Elab.async false
set_option linter.all false
set_option maxRecDepth 100000
set_option maxHeartbeats 4000000
set_option pp.maxSteps 3000
namespace Xv
open PySem PySem.Spec PyProof.Rows L2
/-! ### errors of own classes as values -/
/-- at a an error of the class at C: without a dict, or with its dict at d -/
def ErrAt (H : Hp) (a C : Addr) : Prop := H a = some (ExO (.ref C) a) ∨ ∃ d fs, H a = some (exo a C (some d)) ∧ H d = some (exd d fs)
section
variable {X : Cx} {pins : List (Addr × Obj)} {σ : L2.St} {H : Hp} {s : Shared} {a C : Addr}
theorem errAt_inst (I : Inv X pins σ H s) (h : ErrAt H a C) : ∃ ox od, PySem.W.InstAt s.heap a ox C od := by
  rcases h with h | ⟨d, fs, h, hd⟩
  · have q : ObjOk X.prog X.w H s.heap a (ExO (.ref C) a) := I.hok a _ h
    obtain ⟨⟨oe, vs, e, z, dt, _⟩, _⟩ := q
    obtain ⟨oc, od, oda, osl⟩ := oe
    obtain ⟨z1, z2⟩ := z
    dsimp only at z1 z2 dt
    subst z1 z2 dt
    exact ⟨_, none, e, rfl, rfl, trivial⟩
  · obtain ⟨t1, ho⟩ := exo_at I.hok h
    obtain ⟨mA, ⟨od, es, ep, e2, _⟩, _⟩ := exd_at I.hok hd
    exact ⟨_, some od, ho, rfl, rfl, e2⟩
/-- isinstance(e, c), e such an error -/
def rIsErr (K : PySem.W.Frag) : List V → Hp → VK → Prop := fun xs H Q => ∃ (a C : Addr) (c : V) (cv : Value) (b : Bool), xs = [.ref a, c] ∧ ErrAt H a C ∧ ExcC K C ∧ (∀ u, RelV c u → u = cv) ∧ PySem.W.kitOne K (.ref C) cv = some b ∧ Q (.bl b) H
theorem call_isErr : CallR X (.builtin "isinstance") (rIsErr X.K) := by
  intro pins s σ H xs us Q I r h
  obtain ⟨a, C, c, cv, b, rfl, he, T, hc, hk, q⟩ := h
  obtain ⟨u1, u2, rfl, r1, r2⟩ := vals2 r
  cases (show u1 = Value.ref a from r1)
  have e2 := hc _ r2
  subst e2
  obtain ⟨ox, od, J⟩ := errAt_inst I he
  obtain ⟨cd, hcd, _⟩ := PySem.W.any_some T.hd
  exact PySem.W.kia_one (PySem.W.kitx_exc (by rw [hcd]; rfl) T.hg T.hk T.hs T.ha T.hn T.ht T.hm) I.kIn J hk (fun z => nomatch z) fun tk => ⟨.bl b, H, I.tok tk, rfl, q⟩
end
/-! ### e.f of an error that holds its fields -/
structure ErrRd (K : PySem.W.Frag) (C : Addr) (f : Str) : Prop where
  ga : PySem.W.findIn K (.ref C) "__getattribute__" = some (some (.builtin "BaseException.__getattribute__"))
  gg : PySem.W.findIn K (.ref C) "__getattr__" = some none
  sub : PySem.W.subIn K (.ref C) (.type "BaseException") = some true
  hd : PySem.W.hasDictIn K C = true
  no : PySem.W.findIn K (.ref C) f = some none
def tErrF (K : PySem.W.Frag) (f : Str) (te : TE) : TE := fun σ H Q => te σ H fun x H1 => ∃ (a C d : Addr) (fs : List (Str × V)) (v : V), x = .ref a ∧ H1 a = some (exo a C (some d)) ∧ H1 d = some (exd d fs) ∧ ErrRd K C f ∧ fs.lookup f = some v ∧ Q v H1
section
variable {X : Cx}
theorem pe_errF {e : Expr} {te : TE} {f : Str} {pos : Pos} (he : PE X e te) (hb : attributeBase e f X.env (eval e X.env) = eval e X.env := by rfl) : PE X (.Attribute e f pos) (tErrF X.K f te) := by
  refine ⟨fun pins s σ H Q I h => attr_of hb (thn (he.run pins s σ H _ I h) fun u s1 hh => ?_)⟩
  obtain ⟨x, H1, I1, rx, a, C, d, fs, v, ex, ha, hd, T, hl, q⟩ := hh
  subst ex
  cases (show u = Value.ref a from rx)
  obtain ⟨t1, ho⟩ := exo_at I1.hok ha
  obtain ⟨mA, hns, hr⟩ := exd_at I1.hok hd
  obtain ⟨od, hod, hlk⟩ := lookIn_ns hns
  obtain ⟨u, hu, ru⟩ := RelO.some_of (v := v) (o := mA f) (by rw [← hl]; exact hr f)
  have J : PySem.W.InstAt s1.heap a _ C (some od) := ⟨ho, rfl, rfl, hod⟩
  exact PySem.HandSPX.exc_get I1.kIn J T.ga T.gg T.sub (PySem.W.findObj_own T.hd T.no rfl (by rw [hlk, hu])) (handed_of ru) ⟨v, H1, I1.tok _, ru, q⟩
end
/-! ### S.__init__(self, ..), S an own class over ValueError without an __init__ of its own -/
section
variable {X : Cx} {o e : Expr} {es : List Expr} {ta : TA} {x : Str} {p1 p2 pos : Pos}
theorem pe_sinit {S : Addr} {mc : Value} {pl : Sem Bool} (hg : Gl X x) (hm : X.mg x = some (.ref S)) (kS : PySem.W.keepIn X.K (.ref S) = true) (rd : PySem.W.readsIn X.K S mc = true) (sg : PySem.W.specialIn X.K (.ref S) "__getattribute__" = some (some (.builtin "type.__getattribute__")))
    (vV : PySem.W.findCls X.K (.ref S) mc "__init__" = some (.val (.builtin "ValueError.__init__"))) (ha : PA X (e :: es) ta) (hdb : (x == ("__debug__" : Str)) = false := by decide)
    (hc : eval (.Call (.Attribute (.Name x p1) "__init__" p2) (e :: es) [] pos) X.env = (do
      let ov ← eval (.Name x p1) X.env
      standAt p2.atName
      let (f, first) ← holding [ov] (getMethod ov "__init__" pl)
      callWith pos f first (backTo pos (starEach (e :: es) X.env)) (backToKw pos (keywordEach [] X.env))) := by rfl)
    (he : starEach (e :: es) X.env = (false, eval e X.env) :: starEach es X.env := by rfl) (hpl : (backTo pos (starEach es X.env)).any (·.1) = false := by rfl) :
    PE X (.Call (.Attribute (.Name x p1) "__init__" p2) (e :: es) [] pos) (tVeI X.K ta) := by
  refine ⟨fun pins s σ H Q I h => PySem.W.methodCall_KW (ld_glob I hg hm ?_ hdb) hc⟩
  refine PySem.W.method_cls I.kIn sg (PySem.W.cls_value I.kIn rd vV (by decide +kernel) ?_)
  show wpAny _ _ (callWith pos (Value.builtin "ValueError.__init__") [] (backTo pos (starEach (e :: es) X.env)) []) _ _ _
  refine PyProof.Rows.callWith_method1 (thn (ha.run pos pins _ σ H _ (I.tok _) h) fun us s1 hh => ?_) he hpl
  obtain ⟨vs, H1, I1, r1, a, C, ws, ev, hl, T, ea, q⟩ := hh
  subst ev
  cases r1 with
  | @cons _ u0 _ ur ra rw' =>
    cases (show u0 = Value.ref a from ra)
    have hlen : ur.length ≤ sizeLine := by
      have e1 := Paired.length rw'
      rw [sizeLine_eq]
      omega
    exact oinit_ok T I1 ea hlen fun s' J => ⟨.non, H1, J, rfl, q⟩
end
/-! ### C(e, ..) of such a class as a value, its own __init__ walked as a def -/
def tErrV (C : Addr) (sp : Sp) (E : XK) (ta : TA) : TE := fun σ H Q => ta σ H fun vs H1 => vs.length ≤ 1000 ∧ ∀ a, H1 a = none → sp (.ref a :: vs) (upd H1 a (exo a C none)) (fun v H2 => v = .non ∧ Q (.ref a) H2) E
section
variable {X : Cx} {e : Expr} {es : List Expr} {ta : TA} {x : Str} {p pos : Pos}
theorem pe_errV {CX : CXT} {C fI : Addr} {k : Nat} {fd : FuncData} {ps : List Str} {sp : Sp} {E : XK} (T : OexC X.K C) (iC : PySem.W.findIn X.K (.ref C) "__init__" = some (some (.ref fI))) (tI : PySem.W.typeIn X.K (.ref fI) = some (.type "function"))
    (F1 : FnOk X.prog X.w X.K X.mg X.base CX k fI fd ps sp) (hr : Room (k + 1) X.A) (hb : Binds X.K fd ps []) (hx : Passes CX X E) (hg : Gl X x) (hm : X.mg x = some (.ref C)) (ha : PA X (e :: es) ta)
    (hdb : (x == ("__debug__" : Str)) = false := by decide) (he : starEach (e :: es) X.env = (false, eval e X.env) :: starEach es X.env := by rfl) (hpl : (backTo pos (starEach es X.env)).any (·.1) = false := by rfl) :
    PE X (.Call (.Name x p) (e :: es) [] pos) (tErrV C sp E ta) := by
  refine ⟨fun pins s σ H Q I h => wpAny_Call_Name_kw (ld_glob I hg hm ?_ hdb)⟩
  obtain ⟨nm, q, N, bs, bm, sn, sub, ab, col, dd, k0, k1, k2, k3, k5, hC, hbm⟩ := T.cls
  refine PySem.W.callWith_K (h₀ := X.base) I.ok.mod.kin T.kC (thn (ha.run pos pins s σ H _ I h) fun us s1 hh => ?_) he hpl
  obtain ⟨vs, H1, I1, r1, hz, q1⟩ := hh
  refine ⟨I1.kIn, ?_⟩
  show wpAny _ _ (call (.ref C) us) _ _ _
  obtain ⟨hp, g, dr, tk, os⟩ := s1
  have hq := q1 (hp.objs.size + 1) (I1.hok.fresh (Nat.le_succ _))
  have I2 : Inv X pins σ (upd H1 (hp.objs.size + 1) (exo (hp.objs.size + 1) C none)) ⟨(hp.push (PySem.W.kdv_tup us)).push (PySem.HandSPX.excO C hp.objs.size), g, dr, tk, os⟩ :=
    I1.laid (t' := tk) (fun b o z => Heap.get?_push_of_some _ (Heap.get?_push_of_some _ z)) (Nat.le_succ _) (L2.exo_ok (by heap_get))
  have r2 : Vals (V.ref (hp.objs.size + 1) :: vs) (Value.ref (hp.objs.size + 1) :: us) := .cons rfl r1
  have hl : (Value.ref (hp.objs.size + 1) :: us).length = ps.length := by rw [← r2.length]; exact F1.len _ _ _ _ hq
  have hb2 := hb _ (Value.ref (hp.objs.size + 1) :: us) I2.kIn (by simpa using hl)
  rw [List.append_nil] at hb2
  have hus : us.length ≤ sizeLine := by
    have e1 := Paired.length r1
    rw [sizeLine_eq]
    omega
  refine wpAny_call (PySem.HandSPX.call_own F.excBase_ValueError (fun Y => PySem.HandSPX.refsVE_contains Y bm hbm) (I1.kIn _ _ hC) (PySem.W.looks_findIn I1.kIn iC) (fun self => PySem.W.bind_fn I1.kIn self tI) hus (codeAny_mono
    (F1.run _ X.stack _ _ ⟨_, []⟩ _ _ _ E (hr.make C us []) (I2.env0.make C us []) hb2 r2 hq) fun r s' hq' => ?_))
  rcases r with er | fl
  · exact hx pins σ _ _ er s' I2 hq'
  · cases fl with
    | ret u =>
      obtain ⟨v, H', I3, rv, ev, q3⟩ := I2.after hq'
      subst ev
      exact ⟨rv, ⟨V.ref (hp.objs.size + 1), H', I3, rfl, q3⟩⟩
    | next => exact hq'.elim
    | brk => exact hq'.elim
    | cont => exact hq'.elim
end
end Xv

set_option Elab.async false
set_option linter.all false
set_option maxRecDepth 100000
set_option maxHeartbeats 4000000
set_option pp.maxSteps 3000
/-! try: .. except x as n: suite, the exception known behind the try -/
namespace Xv
open PySem PySem.Spec PyProof.Rows L2
/-- at a an exception of the class cls, its dict d -/
def ErX (cls : Value) (d : Option Addr) (a : Addr) : HO := .ext fun h => ∃ (oe : Obj) (vs : Array Value), h.get? a = some oe ∧ Zc cls d oe ∧ oe.data = .fields vs
section
variable {X : Cx} {pins : List (Addr × Obj)} {σ : L2.St} {H : Hp} {s : Shared} {a : Addr} {oe : Obj} {vs : Array Value} {cls : Value} {d : Option Addr}
/-- a pinned exception that was not there at the entry is tracked -/
theorem track (I : Inv X ((a, oe) :: pins) σ H s) (hex : X.ex = []) (n0 : X.s_0.heap.get? a = none) (hz : Zc cls d oe) (hd : oe.data = .fields vs) (hA : ∀ p ∈ X.pn ++ pins, p.1 ≠ a) : Inv X pins σ (upd H a (ErX cls d a)) s := by
  obtain ⟨ha, hn, nL, nF, _⟩ := I.pin (a, oe) (List.mem_append_right _ List.mem_cons_self)
  have old : ∀ b o, X.s_0.heap.get? b = some o → b ≠ a := fun b o e z => by
    rw [z, n0] at e
    cases e
  have nl : X.env.locals ≠ a := fun z => nL z.symm
  have cl : ∀ x c, X.env.cells.lookup x = some c → c ≠ a := fun x c e z => by
    obtain ⟨v, o, q1, q2⟩ := I.cell x c e
    rw [z] at q1
    have ha' : s.heap.get? a = some oe := ha
    rw [ha'] at q1
    cases q1
    rw [hd] at q2
    cases q2
  have J : Inv X pins σ H s := ClX.unpin I
  refine ⟨J.ok, J.os, J.bare, ⟨J.base.keep, J.base.slot, fun b o e n hx => ?_, J.base.there, fun b xs e => ?_, fun b o u e => ?_, fun b ps e => ?_⟩, J.loc, J.cell, ?_, fun x c e => ?_, fun p hp => ?_, fun b o e => ?_, J.len⟩
  · rw [upd_ne (old b o e)]
    exact J.base.free b o e n hx
  · have q := J.base.tups b xs e
    rw [upd_ne (ne_of_none q hn)]
    exact q
  · have q := J.base.frzs b o u e
    rw [upd_ne (ne_of_none q hn)]
    exact q
  · obtain ⟨more, q⟩ := J.base.tbls b ps e
    exact ⟨more, by rw [upd_ne (ne_of_none q hn)]; exact q⟩
  · rw [upd_ne nl]
    exact J.free
  · rw [upd_ne (cl x c e)]
    exact J.freeC x c e
  · obtain ⟨e1, e2, e3, e4, e5⟩ := J.pin p hp
    exact ⟨e1, by rw [upd_ne (hA p hp)]; exact e2, e3, e4, e5⟩
  · by_cases hb : b = a
    · subst hb
      rw [upd_same] at e
      cases e
      exact ⟨⟨oe, vs, ha, hz, hd⟩, ⟨oe, ha⟩, fun h1 h2 q k => by
        obtain ⟨o, w, q1, q2⟩ := q
        exact ⟨o, w, k o q1, q2⟩⟩
    · rw [upd_ne hb] at e
      exact (J.hok b o e).stay (fun c v _ q => q) (fun c q => by rw [upd_ne (ne_of_none q hn)]; exact q) fun c xs q => by rw [upd_ne (ne_of_none q hn)]; exact q
end
/-- what the clause wishes of an exception of the body: behind the suite the exception is known -/
def wKeep (K : PySem.W.Frag) (len : Nat) (c : Value) (i : Nat) (ts : TS) (Wout : WX) (D : Ends) : WX := fun cls d σ H => σ.length = len → ∃ b, PySem.W.exmOne K cls c = some b ∧
  (b = true → ∀ a, H a = none → ts { nx := fun σ' H' => D.nx (σ'.set i none) (upd H' a (ErX cls d a)), rt := fun _ _ => False, bk := fun _ _ => False, ct := fun _ _ => False } (σ.set i (some (.ref a))) H) ∧ (b = false → Wout cls d σ H)
section
variable {X : Cx} {x n : Str} {c : Value} {i : Nat} {body suite : List Stmt} {b0 : Stmt} {np pos pos' : Pos} {tb : WX → TS} {ts : TS} {Wout : WX}
theorem ps_try_keep (hs : X.stack = X.env :: X.outer) (hf : X.env.frame = some X.env.locals) (hN : X.N.Nodup) (hex : X.ex = []) (hi : X.N[i]? = some n) (hln : X.env.kindOf n = some .local) (hc : Names X x c) (tk : Takes X Wout)
    (hb : ∀ (W : WX) (pn : List (Addr × Obj)) (xe : Value → Shared → Prop), Takes (X.tr pn xe) W → PSs (X.tr pn xe) body (tb W)) (hsu : ∀ (a : Addr) (oe : Obj) (pn : List (Addr × Obj)), PSs (X.suite a ((a, oe) :: pn)) (b0 :: suite) ts) :
    PS X (.Try body [.ExceptHandler (some (.Name x np)) (some n) (b0 :: suite) pos'] [] [] pos) (fun D σ H => tb (wKeep X.K X.N.length c i ts Wout D) D σ H) := by
  refine ⟨fun pins s σ H D I h => ?_⟩
  have ok := I.ok
  have frm : X.A.frames = some (X.env :: X.outer) := by
    rw [ok.frames, hs]
  refine wpAny_Try_except (wpAny_mono ((hb (wKeep X.K X.N.length c i ts Wout D) (X.pn ++ pins) (fun e s1 => wpAny (model X.prog X.w) X.A (noteFrame e X.env) (fun _ s2 => wpAny (model X.prog X.w) X.A (setFlight e none) (fun _ s3 => wpAny (model X.prog X.w) X.A
    (handleBy e X.env [.ExceptHandler (some (.Name x np)) (some n) (b0 :: suite) pos']) (SP X pins D) X.xe s3) X.xe s2) X.xe s1) (fun u s' xx => ?_)).run [] s σ H D (I.toTry _) h) (fun f s1 hsp => ?_) (fun _ _ he => he))
  · obtain ⟨a, B, sI, pins', σ', H', cls, d, rfl, J', nb, up, sky, na, os, ag, hw⟩ := xx
    obtain ⟨b, hb1, hyes, hno⟩ := hw J'.len
    have J : Inv X pins σ' H' sI := J'.ofTry ok
    rw [hs] at sky
    refine Sky.land Zc.steady frm hf sky fun h3 fl3 up3 => ?_
    have J3 : Inv X pins σ' H' { s' with heap := h3 } := J.landed nb fl3.1 (up.trans up3) os ag
    obtain ⟨oe3, vs3, he3, hz3, hd3⟩ := fl3.there
    have nfr : a ∉ frs (X.env :: X.outer) := fun hm => by
      obtain ⟨_, o', e', hnf⟩ := fl3.2.2.1.mem hm
      rw [he3] at e'
      cases e'
      exact hnf _ hd3
    have nL : a ≠ X.env.locals := fun z => nfr (List.mem_filterMap.mpr ⟨X.env, List.mem_cons_self, by rw [hf, z]⟩)
    have nF : a ∉ X.fs := fun hm => by
      obtain ⟨e, he, q⟩ := List.mem_filterMap.mp hm
      exact nfr (List.mem_filterMap.mpr ⟨e, List.mem_cons_of_mem _ he, q⟩)
    have notB : B.get? a = none := fl3.2.1
    have onB : ∀ b o, sI.heap.get? b = some o → b ∉ frs (X.env :: X.outer) → b ≠ a := fun b o e hm z => by
      have q := nb b o e (by rw [hs]; exact hm)
      rw [z, notB] at q
      cases q
    have n0 : X.s_0.heap.get? a = none := by
      cases e : X.s_0.heap.get? a with
      | none => rfl
      | some o =>
        obtain ⟨o', q⟩ := J.base.there a o e (by rw [hex]; exact fun z => nomatch z)
        exact absurd rfl (onB a o' q nfr)
    have nP : ∀ p ∈ X.pn ++ pins, p.1 ≠ a := fun p hp => by
      obtain ⟨e1, _, e3, e4, _⟩ := J.pin p hp
      refine onB p.1 p.2 e1 fun hm => ?_
      rcases List.mem_cons.mp (show p.1 ∈ X.env.locals :: frs X.outer from by
        have q : frs (X.env :: X.outer) = X.env.locals :: frs X.outer := by
          show (X.env :: X.outer).filterMap (·.frame) = _
          rw [List.filterMap_cons, hf]
          rfl
        rw [← q]
        exact hm) with z | z
      · exact e3 z
      · exact e4 z
    have S3 := J3.suite he3 hd3 na nL nF
    refine wpAny_handleBy_cons (codeAny_handlers_test ?_) (by intro q; cases q)
    have LT : PySem.W.Looks (model X.prog X.w) h3 (typeOf (.ref a)) cls := fun A Q E s k q => wpAny_typeOf_ref (k _ _ he3) (by rw [hz3.1]; exact q)
    have LM := PySem.W.exm_one (M := model X.prog X.w) (J3.kIn) LT hb1
    have test : ∀ {Q : Value → Shared → Prop} {E : Value → Shared → Prop}, Q c { s' with heap := h3 } → wpAny (model X.prog X.w) (X.A.mark (some (.ref a))) (eval (.Name x np) X.env) Q E { s' with heap := h3 } := by
      intro Q E q
      obtain ⟨hg, hdbg, hm | ⟨hm, hv, hnn⟩⟩ := hc
      · exact ld_glob (X := X.suite a ((a, oe3) :: (X.pn ++ pins))) S3 hg hm q hdbg
      · exact ld_blt (X := X.suite a ((a, oe3) :: (X.pn ++ pins))) S3 hg hm hv q hnn hdbg
    refine test (LM.here ?_)
    cases b with
    | true =>
      refine codeAny_handlers_suite_as (HandSPX.lands_againZ fl3 fun h4 fl4 up4 => ?_)
      have J4 : Inv X pins σ' H' { s' with heap := h4 } := J.landed nb fl4.1 ((up.trans up3).trans up4) os ag
      obtain ⟨oe4, vs4, he4, hz4, hd4⟩ := fl4.there
      refine store_ok (X := X.suite a ((a, oe4) :: (X.pn ++ pins))) (v := .ref a) (J4.suite he4 hd4 na nL nF) hN hi (.inl hln) rfl (fun s5 S5 => ?_) (.inr hln)
      refine wpAny_mono ((hsu a oe4 (X.pn ++ pins)).run [] s5 _ H' _ S5 (hyes rfl a na)) (fun f s6 hsp => ?_) (fun _ _ z => False.elim z)
      cases f with
      | next =>
        obtain ⟨σ6, H6, S6, q6⟩ := hsp
        have P6 : Inv X ((a, oe4) :: pins) σ6 H6 s6 := (S6.unsuite ok).pins_of fun p hp => by
          rcases List.mem_cons.mp hp with z | z
          · rw [z]
            exact S6.pin (a, oe4) (List.mem_append_left _ List.mem_cons_self)
          · exact S6.pin p (List.mem_append_left _ (List.mem_cons_of_mem _ (List.mem_append_right _ z)))
        exact gone_ok P6 hN hi hln fun s7 J7 => ⟨_, _, track J7 hex n0 hz4 hd4 nP, q6⟩
      | brk =>
        obtain ⟨_, _, _, q6⟩ := hsp
        exact q6.elim
      | cont =>
        obtain ⟨_, _, _, q6⟩ := hsp
        exact q6.elim
      | ret u =>
        obtain ⟨_, _, _, _, _, q6⟩ := hsp
        exact q6.elim
    | false =>
      show wpAny _ X.A (handleBy (.ref a) X.env []) _ _ _
      refine wpAny_handleBy_nil ?_
      obtain ⟨k1, k2, k3, oe, vs, T, oT, ts', he, hz, hd, h1, hr⟩ := id fl3
      unfold PySem.passOn
      refine wpAny_bind (wpAny_field he hd h1 ?_)
      rw [if_neg (show ¬ ((Value.ref T == Value.none) = true) from by simp)]
      have fin : wpAny (model X.prog X.w) X.A (setFlight (.ref a) X.env.frame) (fun _ s4 => wpAny (model X.prog X.w) X.A (throw (.ref a) : Sem Flow) (SP X pins D) X.xe s4) X.xe { s' with heap := h3 } := by
        rw [hf]
        exact HandSPX.setFlight_upZ fl3 fun h4 hh4 up4 => wpAny_throw (tk _ _ ⟨a, B, sI, pins, σ', H', cls, d, rfl, J, nb, (up.trans up3).trans up4, .inr (.inr (by rw [hs]; exact hh4)), na, os, ag, hno rfl⟩)
      first
        | exact wpAny_bind (wpAny_pure (wpAny_bind fin))
        | exact wpAny_bind fin
  · cases f with
    | next =>
      obtain ⟨σ', H', J', q⟩ := hsp
      exact wpAny_execs_nil ⟨σ', H', J'.ofTry ok, q⟩
    | brk =>
      obtain ⟨σ', H', J', q⟩ := hsp
      exact ⟨σ', H', J'.ofTry ok, q⟩
    | cont =>
      obtain ⟨σ', H', J', q⟩ := hsp
      exact ⟨σ', H', J'.ofTry ok, q⟩
    | ret u =>
      obtain ⟨v, σ', H', J', r, q⟩ := hsp
      exact ⟨v, σ', H', J'.ofTry ok, r, q⟩
end
end Xv

set_option Elab.async false
set_option linter.all false
set_option maxRecDepth 100000
set_option maxHeartbeats 4000000
set_option pp.maxSteps 3000
/-! _law_caught: work() is called, its exception is handed back -/
namespace Xv
open PySem PySem.Spec PyProof.Rows L2 LamX
abbrev caughtBody (p1 p2 p3 p4 p5 p6 p7 p8 p9 pa pb pc pd pe : Pos) (j : Nat) : List Stmt := [.Assign [.Name "caught" p1] (.Constant .none j p2) p3,
  .Try [.Expr (.Call (.Name "work" p4) [] [] p5) p6] [.ExceptHandler (some (.Name "SeriesError" p7)) (some "error") [.Assign [.Name "caught" p8] (.Name "error" p9) pa] pb] [] [] pc, .Return (some (.Name "caught" pd)) pe]
/-- what is asked: work() gives whatever, or raises an exception that is caught -/
def TCaught (K : PySem.W.Frag) (CS : Addr) : (XK → Hp → VK → Prop) → Hp → VK → Prop := fun tl H Q =>
  tl (fun cls d H' => PySem.W.exmOne K cls (.ref CS) = some true ∧ ∀ a, H' a = none → Q (.ref a) (upd H' a (ErX cls d a))) H (fun _ H' => ∃ v, some (some V.non) = some (some v) ∧ Q v H')
theorem caught_gives {X : Cx} {sg : Scope} {g CS : Addr} {cdg : Value} {q : Str} {p1 p2 p3 p4 p5 p6 p7 p8 p9 pa pb pc pd pe : Pos} {j : Nat} (Sg : FnScope ["work", "caught", "error"] ["work"] sg) (v0 : sg.names.lookup ("work" : Str) = some NameKind.local) (v1 : sg.names.lookup ("caught" : Str) = some NameKind.local) (v2 : sg.names.lookup ("error" : Str) = some NameKind.local)
    (hge : sg.names.lookup ("SeriesError" : Str) = some NameKind.globalImplicit) (hme : X.mg "SeriesError" = some (.ref CS)) : GivesTo X ["work", "caught", "error"] "_law_caught" sg g cdg (caughtBody p1 p2 p3 p4 p5 p6 p7 p8 p9 pa pb pc pd pe j) "work" q (TCaught X.K CS) := by
  intro f c' s H Q tl act hc h
  have hgl : Gl (cxOf C8.CX0 X.prog X.w X.K X.mg X.base ["work", "caught", "error"] "_law_caught" sg g cdg X.A X.stack s H C8.E0).nox "SeriesError" := hge
  refine ⟨_, pss_cons (ps_set (i := 1) Sg.nd rfl (Or.inl v1) pe_non) (pss_cons (ps_try_keep (X := (cxOf C8.CX0 X.prog X.w X.K X.mg X.base ["work", "caught", "error"] "_law_caught" sg g cdg X.A X.stack s H C8.E0).nox) (c := .ref CS) (i := 2)
      (tb := fun W D σ H => ∃ Ech : XK, (∀ cls d σ' H', Ech cls d H' → W cls d σ' H') ∧ σ[0]? = some (some (.ref f)) ∧ H c' = some (CodeO c' q) ∧ tl Ech H (fun _ H' => D.nx σ H'))
      rfl rfl Sg.nd rfl rfl v2 ⟨hgl, by decide, .inl hme⟩ L2.takes0 (fun W pn xe tk => ?_) (fun a oe pn => pss_one (ps_set (i := 1) Sg.nd rfl (Or.inl v1) (pe_var (i := 2) rfl (Or.inl v2))))) (pss_one (ps_ret (pe_var (i := 1) rfl (Or.inl v1))))), ?_⟩
  · refine ⟨fun pins s' σ H' D I h' => ?_⟩
    obtain ⟨Ech, hW, h1, h2, h3⟩ := h'
    have hp := act W pn xe Ech p4 p5 tk hW
    have hq := pss_one (ps_expr (pos := p6) hp)
    exact hq.run pins s' σ H' D I ⟨h1, h2, h3⟩
  · refine ⟨fun cls d H' => PySem.W.exmOne X.K cls (.ref CS) = some true ∧ ∀ a, H' a = none → Q (.ref a) (upd H' a (ErX cls d a)), fun cls d σ' H' hE => ?_, rfl, hc, ?_⟩
    · obtain ⟨e1, e2⟩ := hE
      intro hl
      match σ', hl with
      | [s0, s1, s2], _ => exact ⟨true, e1, fun _ a ha => ⟨_, rfl, _, rfl, e2 a ha⟩, fun z => nomatch z⟩
    · exact h
/-- a caught exception of the class at C at a, its fields fs, if it has a dict -/
def ErC (H : Hp) (a C : Addr) (fs : Option (List (Str × V))) : Prop := (fs = none ∧ H a = some (ErX (.ref C) none a)) ∨ ∃ d xs, fs = some xs ∧ H a = some (ErX (.ref C) (some d) a) ∧ H d = some (.xd xs)
section
variable {X : Cx} {pins : List (Addr × Obj)} {σ : L2.St} {H : Hp} {s : Shared} {a C : Addr} {fs : Option (List (Str × V))}
theorem erC_same {H H' : Hp} (h : ErC H a C fs) (k : Same H H') : ErC H' a C fs := by
  rcases h with ⟨e, h⟩ | ⟨d, xs, e, h, hd⟩
  · exact .inl ⟨e, k _ _ h⟩
  · exact .inr ⟨d, xs, e, k _ _ h, k _ _ hd⟩
theorem erC_inst (I : Inv X pins σ H s) (h : ErC H a C fs) : ∃ ox od, PySem.W.InstAt s.heap a ox C od := by
  rcases h with ⟨_, h⟩ | ⟨d, xs, _, h, hd⟩
  · have q : ObjOk X.prog X.w H s.heap a (ErX (.ref C) none a) := I.hok a _ h
    obtain ⟨⟨oe, vs, e, z, dt⟩, _⟩ := q
    obtain ⟨oc, od, oda, osl⟩ := oe
    obtain ⟨z1, z2⟩ := z
    dsimp only at z1 z2 dt
    subst z1 z2 dt
    exact ⟨_, none, e, rfl, rfl, trivial⟩
  · have q : ObjOk X.prog X.w H s.heap a (ErX (.ref C) (some d) a) := I.hok a _ h
    obtain ⟨⟨oe, vs, e, z, dt⟩, _⟩ := q
    have hx : ObjOk X.prog X.w H s.heap d (.xd xs) := I.hok d _ hd
    obtain ⟨mA, hns, hr⟩ := hx
    obtain ⟨od, ho, hl⟩ := lookIn_ns hns
    exact ⟨oe, some od, e, z.1, by unfold PySem.W.notCls; rw [dt] <;> rfl, by rw [z.2]; exact ho⟩
/-- isinstance(e, c), e a caught exception -/
def rIsC (K : PySem.W.Frag) : List V → Hp → VK → Prop := fun xs H Q => ∃ (a C : Addr) (fs : Option (List (Str × V))) (c : V) (cv : Value) (b : Bool), xs = [.ref a, c] ∧ ErC H a C fs ∧ ExcC K C ∧ (∀ u, RelV c u → u = cv) ∧ PySem.W.kitOne K (.ref C) cv = some b ∧ Q (.bl b) H
theorem call_isC : CallR X (.builtin "isinstance") (rIsC X.K) := by
  intro pins s σ H xs us Q I r h
  obtain ⟨a, C, fs, c, cv, b, rfl, he, T, hc, hk, q⟩ := h
  obtain ⟨u1, u2, rfl, r1, r2⟩ := vals2 r
  cases (show u1 = Value.ref a from r1)
  have e2 := hc _ r2
  subst e2
  obtain ⟨ox, od, J⟩ := erC_inst I he
  obtain ⟨cd, hcd, _⟩ := PySem.W.any_some T.hd
  exact PySem.W.kia_one (PySem.W.kitx_exc (by rw [hcd]; rfl) T.hg T.hk T.hs T.ha T.hn T.ht T.hm) I.kIn J hk (fun z => nomatch z) fun tk => ⟨.bl b, H, I.tok tk, rfl, q⟩
end
/-- e.f, e a caught exception with fields -/
def tErC (K : PySem.W.Frag) (f : Str) (te : TE) : TE := fun σ H Q => te σ H fun x H1 => ∃ (a C : Addr) (fs : List (Str × V)) (v : V), x = .ref a ∧ ErC H1 a C (some fs) ∧ XfC K C ∧ PySem.W.findIn K (.ref C) f = some none ∧ fs.lookup f = some v ∧ Q v H1
theorem pe_erC {X : Cx} {e : Expr} {te : TE} {pos : Pos} {n : Str} (he : PE X e te) (hb : attributeBase e n X.env (eval e X.env) = eval e X.env := by rfl) : PE X (.Attribute e n pos) (tErC X.K n te) := by
  refine ⟨fun pins s σ H Q I h => attr_of hb (thn (he.run pins s σ H _ I h) fun u s1 hh => ?_)⟩
  obtain ⟨x, H1, I1, rx, a, C, fs, v, rfl, he, T, hno, l, q⟩ := hh
  obtain rfl : u = Value.ref a := rx
  rcases he with ⟨z, _⟩ | ⟨d, xs, z, h, hd⟩
  · cases z
  · cases z
    have qo : ObjOk X.prog X.w H1 s1.heap a (ErX (.ref C) (some d) a) := I1.hok a _ h
    obtain ⟨⟨oe, vs, e, z, dt⟩, _⟩ := qo
    have hx : ObjOk X.prog X.w H1 s1.heap d (.xd fs) := I1.hok d _ hd
    obtain ⟨mA, hns, hr⟩ := hx
    obtain ⟨od, ho, hl⟩ := lookIn_ns hns
    obtain ⟨u, hu, ru⟩ := RelO.some_of (v := v) (o := mA n) (by rw [← l]; exact hr n)
    have J : PySem.W.InstAt s1.heap a oe C (some od) := ⟨e, z.1, by unfold PySem.W.notCls; rw [dt] <;> rfl, by rw [z.2]; exact ho⟩
    exact HandSPX.exc_get I1.kIn J T.ga T.gg T.exC (PySem.W.findObj_own T.hdC hno rfl (by rw [hl, hu])) (handed_of ru) ⟨v, H1, I1.tok _, ru, q⟩
end Xv

set_option Elab.async false
set_option linter.all false
set_option maxRecDepth 100000
set_option maxHeartbeats 4000000
set_option pp.maxSteps 3000
namespace PySem
theorem meets_enumerate_new1 {v : Value} {o : Obj} {H : Heap → Prop} (B : Begins v o H) :
    Meets (Builtin.«enumerate.__new__» ⟨[.type "enumerate", v], []⟩) (fun _ R s => H s.heap ∧
      R (.ok (.ret (.ref (s.heap.push o).objs.size))) { s with heap := (s.heap.push o).push { cls := .type "enumerate", data := .fields #[.none, .bool false, .ref s.heap.objs.size, rawInt 0, .none, .none] } }) :=
  .of_wp fun prog w A R s h => by
    obtain ⟨hp, g, d, tk, os⟩ := s; obtain ⟨h1, h⟩ := h
    have hsub := sub_enumerate
    have q1 : ∀ {A' : Around} {E : Value → Shared → Prop} {Q : Value → Shared → Prop}, Q (.ref hp.objs.size) ⟨hp.push o, g, d, tk, os⟩ → wpAny (model prog w) A' (pyIter v) Q E ⟨hp, g, d, tk, os⟩ :=
      fun q => B.iter prog w _ _ ⟨hp, g, d, tk, os⟩ _ h1 q
    wp_walk using q1
    refine wpAny_stack_any fun st => wpAny_pure ?_
    split
    · rename_i c _ _ _ _ _
      cases (c == Value.type "enumerate")
      · wp_walk using q1
        exact ⟨_, rfl, h⟩
      · wp_walk using q1
        exact ⟨_, rfl, h⟩
    · wp_walk using q1
      exact ⟨_, rfl, h⟩
section
variable {prog : Program} {w : World} {A : Around} {E : Value → Shared → Prop} {s : Shared}
theorem enum_begins1 {v : Value} {o : Obj} {H : Heap → Prop} {Q : Value → Shared → Prop} (B : Begins v o H) (h1 : H s.heap)
    (h : ∀ h', IsEnum h' (s.heap.objs.size + 1) s.heap.objs.size 0 .none → h'.get? s.heap.objs.size = some o → h'.objs.size = s.heap.objs.size + 2 →
      (∀ b o, s.heap.get? b = some o → h'.get? b = some o) → Q (.ref (s.heap.objs.size + 1)) { s with heap := h' }) :
    wpAny (model prog w) A (call (.type "enumerate") [v]) Q E s := by
  refine callType_new F.called_enumerate (by decide) (F.typeCall_enumerate_1 _) (F.newCall_enumerate_1 _) (fun obj => F.args_object_init_2 obj _) F.entry_enumerate_new
    (meets_enumerate_new1 B) ⟨h1, ?_⟩
  have hz : (s.heap.push o).objs.size = s.heap.objs.size + 1 := Heap.size_push ..
  show _ ∧ _
  rw [hz]
  have he : IsEnum ((s.heap.push o).push { cls := .type "enumerate", data := .fields #[.none, .bool false, .ref s.heap.objs.size, rawInt 0, .none, .none] }) (s.heap.objs.size + 1) s.heap.objs.size 0 .none := by
    have := Heap.get?_push_size (s.heap.push o) (o := { cls := .type "enumerate", data := .fields #[.none, .bool false, .ref s.heap.objs.size, rawInt 0, .none, .none] }) rfl
    rw [hz] at this; exact this
  refine ⟨⟨_, he, rfl⟩, h _ he (Heap.get?_push_of_some _ (Heap.get?_push_size _ B.free)) (by rw [Heap.size_push, hz]) fun b o x => Heap.get?_push_of_some _ (Heap.get?_push_of_some _ x)⟩
end
end PySem
namespace Xv
open PySem PySem.Spec PyProof.Rows L2
/-- enumerate of a tuple -/
def IteT (K : PySem.W.Frag) (a : Addr) : It :=
  ⟨fun i H => ∃ (xs : List V) (x : V), SqT K H a xs ∧ xs[i]? = some x, fun i H v H' => ∃ T x, v = .ref T ∧ H T = none ∧ H' = upd H T (.tup [.int (i : Nat), x]) ∧ ∀ xs, SqT K H a xs → xs[i]? = some x, fun i H => ∃ xs : List V, SqT K H a xs ∧ xs.length = i⟩
theorem turn_enumT {P : Program} {w : World} {K : PySem.W.Frag} {elts : List Expr} {kk : Nat} {tpos : Pos} (a e it : Addr) (hat : a ≠ it) :
    Turn P w K (.Tuple elts kk tpos) (IteT K a) [e, it] e (fun i h => (∃ old, IsEnum h e it ((i : Nat) : Int) old) ∧ h.IsTupleIter it a i ∧ e ≠ it ∧ e ≠ a) where
  mem := by simp
  obj := fun i h st b hb => by
    obtain ⟨⟨old, he⟩, ⟨o, ho, hc, hd⟩, _⟩ := st
    have e' : b = e ∨ b = it := by simpa using hb
    rcases e' with z | z
    · rw [z]; exact ⟨_, he, fun v q => nomatch q⟩
    · rw [z]; exact ⟨o, ho, fun v q => by rw [hd] at q; cases q⟩
  keep := fun i h h' st k => let ⟨⟨old, he⟩, hi, hne, hea⟩ := st; ⟨⟨old, k e (by simp) _ he⟩, hi.at fun o q => k it (by simp) o q, hne, hea⟩
  item := by
    intro X hP hw hK hc i pins s σ H E I hf st hg
    subst hP hw hK
    obtain ⟨⟨old, he⟩, hit, hne, hea⟩ := st
    obtain ⟨xs, x, hq, hx⟩ := hg
    obtain ⟨its, rv, p, hz⟩ := I.tuple hq
    obtain ⟨u, hu, ru⟩ := rv.get hx
    have hel : e < s.heap.objs.size := Heap.lt_size he
    have hil : it < s.heap.objs.size := by obtain ⟨_, q, _⟩ := hit; exact Heap.lt_size q
    have hlt : i < its.toArray.size := by
      have := (List.getElem?_eq_some_iff.mp hu).1
      simpa using this
    refine wpAny_pyNext_enum_itemD (Draws.tuple (prog := X.prog) (w := X.w) (A := X.A.in1) (I.ok.hd hc) it a hat its.toArray) he ⟨hit, p⟩ hlt hne (by simp [hne, hea]) fun y h' tk hy ho hst' hT hsz hk => ?_
    obtain ⟨hit', _⟩ := hst'
    have ey : y = u := by
      have e1 : its.toArray[i]? = some u := by simpa using hu
      rw [e1] at hy
      exact (Option.some.inj hy).symm
    subst ey
    refine ⟨_, rfl, wpAny_letOwnedTupleGo_enum (s := { s with heap := h', toks := tk + 1 }) ho fun h'' he' sb => ?_⟩
    have hT2 : h''.get? s.heap.objs.size = some { cls := .type "tuple", data := .seq #[.int i tk, y] } := (sb.2 _ (Nat.ne_of_gt hel)).trans hT
    have new : ObjOk X.prog X.w (upd H s.heap.objs.size (.tup [.int (i : Nat), x])) h'' s.heap.objs.size (.tup [.int (i : Nat), x]) :=
      ⟨by show 2 ≤ sizeLine; decide, [.int i tk, y], .cons ⟨_, rfl⟩ (.cons ru .nil), ⟨_, hT2, rfl, _, rfl⟩⟩
    have I1 : Inv X pins σ (upd H s.heap.objs.size (.tup [.int (i : Nat), x])) { s with heap := h'', toks := tk + 1 } :=
      I.turnedNew (ch := [e, it]) (fun b ob hb q => (sb.2 b (fun z => hb (by simp [z]))).trans (hk b ob (fun z => hb (by simp [z])) (fun z => hb (by simp [z])) q)) hf (Nat.le_refl _) new
    refine ⟨.ref s.heap.objs.size, _, I1, rfl, ⟨_, x, rfl, I.hok.fresh (Nat.le_refl _), rfl, fun ys hy => by rw [I.tuple_inj hy hq]; exact hx⟩, ⟨⟨y, ?_⟩, hit'.at fun o q => (sb.2 it (Ne.symm hne)).trans q, hne, hea⟩, fun b hb => ?_⟩
    · have e1 : ((i + 1 : Nat) : Int) = (i : Int) + 1 := by omega
      rw [e1]; exact he'
    · have hb' : b < s.heap.objs.size := by
        have e' : b = e ∨ b = it := by simpa using hb
        rcases e' with z | z
        · rw [z]; exact hel
        · rw [z]; exact hil
      rw [upd_ne (Nat.ne_of_lt hb')]
      exact (hf b hb).1
  done := by
    intro X hP hw hK hc i pins s σ H E I hf st hg
    subst hP hw hK
    obtain ⟨⟨old, he⟩, hit, hne, hea⟩ := st
    obtain ⟨xs, hq, hx⟩ := hg
    obtain ⟨its, rv, p, hz⟩ := I.tuple hq
    obtain ⟨f0, f1, f2, f3, f4, f5⟩ := hf it (by simp)
    have hl := rv.length
    have en : i = its.toArray.size := by
      rw [List.size_toArray]
      omega
    subst en
    have D := Draws.tuple (prog := X.prog) (w := X.w) (A := X.A.in1) (I.ok.hd hc) it a hat its.toArray
    exact wpAny_pyNext_enum_endD D he ⟨hit, p⟩ fun h' eb => ⟨rfl, I.turned (t' := s.toks) (fun b o hb q => eb b o hb q) f0 f1 f3 f4 f5⟩
  self := fun A i s Q E st h => let ⟨⟨_, he⟩, _⟩ := st; wpAny_pyIter_enum he h
/-- enumerate of a list or a tuple -/
def iEnumT (K : PySem.W.Frag) (ta : TA) : TI := fun σ H R => ta σ H fun vs H1 => ∃ a xs, vs = [.ref a] ∧ ((SqL K H1 a xs ∧ R (Ite K a) H1) ∨ (SqT K H1 a xs ∧ R (IteT K a) H1))
theorem pi_enumT {X : Cx} {e : Expr} {ta : TA} {p pos tpos : Pos} {elts : List Expr} {kk : Nat} (hg : Gl X "enumerate") (hm : X.mg "enumerate" = none) (ha : PA X [e] ta) (hs : starEach [e] X.env = [(false, eval e X.env)] := by rfl) :
    PI X (.Tuple elts kk tpos) (.Call (.Name "enumerate" p) [e] [] pos) (iEnumT X.K ta) := by
  refine ⟨fun pins s σ H R I h => ?_⟩
  refine Call_ (ld_blt I hg hm boot_enumerate (PyProof.Rows.callWith_type1 (thn (ha.run pos pins s σ H _ I h) fun us s1 ⟨vs, H1, I1, r1, q1⟩ => ?_) hs rfl))
  obtain ⟨a, xs, ex, q⟩ := q1
  subst ex
  cases r1 with
  | cons r rr =>
    cases rr
    cases r
    rcases q with ⟨hq, q⟩ | ⟨hq, q⟩
    · obtain ⟨its, rv, p', hz⟩ := I1.list hq
      refine call_enumerate_list p'.isList fun h' he hit hsz hk => wpAny_pyIter_enum he ?_
      have I2 : Inv X pins σ H1 { s1 with heap := h' } := I1.kept (t' := s1.toks) hk
      refine ⟨s1.heap.objs.size + 1, [s1.heap.objs.size + 1, s1.heap.objs.size], _, _, H1, rfl, I2, turn_enum a (s1.heap.objs.size + 1) s1.heap.objs.size, ⟨⟨.none, he⟩, hit, Nat.succ_ne_self _⟩, fun b hb => ?_, q⟩
      have e' : b = s1.heap.objs.size + 1 ∨ b = s1.heap.objs.size := by simpa using hb
      have hle : s1.heap.objs.size ≤ b := by
        rcases e' with z | z
        · rw [z]; exact Nat.le_add_right _ _
        · rw [z]; exact Nat.le_refl _
      exact I1.fpOk hle (I1.hok.fresh hle)
    · obtain ⟨its, rv, p', hz⟩ := I1.tuple hq
      have p2 : s1.heap.IsTuple a its.toArray := p'
      have hal : a < s1.heap.objs.size := by
        obtain ⟨o, ho, _⟩ := p2
        exact Heap.lt_size ho
      refine enum_begins1 (begins_tuple a its.toArray) p2 fun h' he hit hsz hk => wpAny_pyIter_enum he ?_
      have I2 : Inv X pins σ H1 { s1 with heap := h' } := I1.kept (t' := s1.toks) hk
      refine ⟨s1.heap.objs.size + 1, [s1.heap.objs.size + 1, s1.heap.objs.size], _, _, H1, rfl, I2, turn_enumT a (s1.heap.objs.size + 1) s1.heap.objs.size (Nat.ne_of_lt hal),
        ⟨⟨.none, he⟩, ⟨_, hit, rfl, rfl⟩, Nat.succ_ne_self _, Nat.ne_of_gt (Nat.lt_succ_of_lt hal)⟩, fun b hb => ?_, q⟩
      have e' : b = s1.heap.objs.size + 1 ∨ b = s1.heap.objs.size := by simpa using hb
      have hle : s1.heap.objs.size ≤ b := by
        rcases e' with z | z
        · rw [z]; exact Nat.le_add_right _ _
        · rw [z]; exact Nat.le_refl _
      exact I1.fpOk hle (I1.hok.fresh hle)
theorem walk_enumT {K : PySem.W.Frag} {a : Addr} {xs : List V} : Walk (IteT K a) xs.length (fun H => SqT K H a xs) (YPair (fun i => some (.int (i : Nat))) (fun i => xs[i]?)) := by
  refine ⟨fun i _ hi q => ⟨xs, xs[i], q, by simp [hi]⟩, fun _ q => ⟨xs, q, rfl⟩, fun i H v H' _ q y => ?_⟩
  obtain ⟨T, x, h1, h2, h3, h4⟩ := y
  exact ⟨T, .int (i : Nat), x, h1, h2, h3, rfl, h4 xs q⟩
/-- a list or a tuple walked -/
def iSeq (K : PySem.W.Frag) (tl : TE) : TI := fun σ H R => tl σ H fun x H1 => ∃ a, x = .ref a ∧ (((∃ xs, SqL K H1 a xs) ∧ R (Itl K a) H1) ∨ ((∃ xs, SqT K H1 a xs) ∧ R (Itt K a) H1))
theorem pi_seq {X : Cx} {tg l : Expr} {tl : TE} (hl : PE X l tl) : PI X tg l (iSeq X.K tl) := by
  refine ⟨fun pins s σ H R I h => ?_⟩
  refine thn (hl.run pins s σ H _ I h) fun v s1 ⟨x, H1, I1, r1, q1⟩ => ?_
  obtain ⟨a, e, q⟩ := q1
  subst e
  cases r1
  rcases q with ⟨⟨xs, hq⟩, q⟩ | ⟨⟨xs, hq⟩, q⟩
  · obtain ⟨its, rv, p, hz⟩ := I1.list hq
    refine wpAny_pyIter_list p.isList ?_
    refine ⟨s1.heap.objs.size, [s1.heap.objs.size], _, _, H1, rfl, I1.kept (t' := s1.toks) fun b o e => Heap.get?_push_of_some _ e, turn_list a _, ⟨_, Heap.get?_push_size _ rfl, rfl, rfl⟩, fun b hb => ?_, q⟩
    have e : b = s1.heap.objs.size := by simpa using hb
    subst e
    exact I1.fpOk (Nat.le_refl _) (I1.hok.fresh (Nat.le_refl _))
  · obtain ⟨its, rv, p, hz⟩ := I1.tuple hq
    refine wpAny_pyIter_tuple (show s1.heap.IsTuple a its.toArray from p) ?_
    refine ⟨s1.heap.objs.size, [s1.heap.objs.size], _, _, H1, rfl, I1.kept (t' := s1.toks) fun b o e => Heap.get?_push_of_some _ e, turn_tuple a _, ⟨_, Heap.get?_push_size _ rfl, rfl, rfl⟩, fun b hb => ?_, q⟩
    have e : b = s1.heap.objs.size := by simpa using hb
    subst e
    exact I1.fpOk (Nat.le_refl _) (I1.hok.fresh (Nat.le_refl _))
/-! ### f(k = v, ..): keywords alone -/
section
variable {X : Cx} {p pos : Pos} {x : Str} {kws : List Keyword} {tk : TA} {CX : CXT} {k : Nat} {f : Addr} {fd : FuncData} {ps ks : List Str} {sp : Sp} {E : XK} {g : List Value → List Value → List Value} {gV : List V → List V → List V}
theorem pe_callK0 (F : FnOk X.prog X.w X.K X.mg X.base CX k f fd ps sp) (hr : Room k X.A) (hg : Gl X x) (hm : X.mg x = some (.ref f)) (hk : PySem.W.keepIn X.K (.ref f) = true) (hb : KBinds X.K fd ps ks g gV) (hx : Passes CX X E)
    (hkw : PK X kws tk) (hall : (backToKw pos (keywordEach kws X.env)).all (·.1.isSome) = true := by rfl) (hks : (backToKw pos (keywordEach kws X.env)).filterMap (·.1) = ks := by rfl)
    (hdb : (x == ("__debug__" : Str)) = false := by decide)
    (hpl : ((backTo pos (starEach [] X.env)).any (·.1) || (backToKw pos (keywordEach kws X.env)).any (·.1.isNone)) = false := by rfl) :
    PE X (.Call (.Name x p) [] kws pos) (tCallK sp gV E tNil tk) := by
  refine ⟨fun pins s σ H Q I h => ?_⟩
  refine wpAny_Call_Name_kw (ld_glob I hg hm ?_ hdb)
  refine PySem.W.callWith_KW0 (h₀ := X.base) I.ok.mod.kin hk hall (thn (hkw.run pos pins s σ H _ I h) fun ws s2 ⟨zs, H2, I2, rz, q2⟩ => ⟨I2.kIn, ?_⟩) hpl
  rw [hks]
  exact run_fnk (us := []) (vs := []) F hr hb hx I2 .nil rz q2
end
/-! ### xs[t::m] of a list, 0 ≤ t, 0 < m -/
/-- the items at lo, lo + m, .. -/
def stepV (xs : List V) (t m : Nat) : List V := (List.range ((xs.length - t + m - 1) / m)).filterMap fun k => xs[t + m * k]?
def tStepL (K : PySem.W.Frag) (te : TE) (tl ts : TO) : TE := fun σ H Q => te σ H fun x H1 => tl σ H1 fun l H2 => ts σ H2 fun u H3 => ∃ a xs, ∃ t m : Nat, x = .ref a ∧ l = some (t : Int) ∧ u = some (m : Int) ∧ 0 < m ∧ t ≤ xs.length ∧ SqL K H3 a xs ∧ ∀ p, H3 p = none → Q (.ref p) (upd H3 p (.lst (stepV xs t m)))
theorem pick_step {its : List Value} {t m : Nat} (hm : 0 < m) (ht : t ≤ its.length) : slicePick its.toArray (some (t : Int)) none (some (m : Int)) = ((List.range ((its.length - t + m - 1) / m)).filterMap fun k => its[t + m * k]?).toArray := by
  have hm' : (m : Int) > 0 := by omega
  have hm2 : ¬ ((t : Int) < 0) := by omega
  have e1 : max 0 (min (t : Int) (its.length : Int)) = (t : Int) := by omega
  unfold slicePick sliceBounds
  simp only [Option.getD_some, List.size_toArray, hm', if_true, hm2, if_false, e1]
  unfold sliceRange
  simp only [hm', if_true]
  congr 1
  have e2 : (if (t : Int) < (its.length : Int) then ((its.length : Int) - t + m - 1) / m else 0).toNat = (its.length - t + m - 1) / m := by
    by_cases h : (t : Int) < (its.length : Int)
    · rw [if_pos h]
      have e3 : ((its.length : Int) - t + m - 1) = ((its.length - t + m - 1 : Nat) : Int) := by omega
      rw [e3]
      rw [← Int.natCast_ediv]
      exact Int.toNat_natCast _
    · rw [if_neg h]
      have e3 : its.length - t + m - 1 = m - 1 := by omega
      rw [e3, Nat.div_eq_of_lt (by omega)]
      rfl
  rw [e2, List.filterMap_map]
  congr 1
  funext k
  have e4 : ((t : Int) + (m : Int) * (k : Int)).toNat = t + m * k := by
    rw [← Int.natCast_mul]
    omega
  show its.toArray[((t : Int) + (m : Int) * (k : Int)).toNat]? = _
  rw [e4]
  simp
theorem stepV_vals {xs : List V} {its : List Value} (r : Vals xs its) (t m : Nat) : ∀ n : Nat, Vals ((List.range n).filterMap fun k => xs[t + m * k]?) ((List.range n).filterMap fun k => its[t + m * k]?)
  | 0 => .nil
  | n + 1 => by
    rw [List.range_succ, List.filterMap_append, List.filterMap_append]
    refine (stepV_vals r t m n).append ?_
    show Vals (List.filterMap _ [n]) (List.filterMap _ [n])
    rw [List.filterMap_cons, List.filterMap_cons]
    cases e : xs[t + m * n]? with
    | none =>
      have e2 : its[t + m * n]? = none := by
        have hl := r.length
        rw [List.getElem?_eq_none_iff] at e ⊢
        omega
      rw [e2]
      exact .nil
    | some v =>
      obtain ⟨u, hu, ru⟩ := r.get e
      rw [hu]
      exact .cons ru .nil
theorem filterMap_range_le {f : Nat → Option V} : ∀ n : Nat, ((List.range n).filterMap f).length ≤ n
  | 0 => Nat.le_refl _
  | n + 1 => by
    rw [List.range_succ, List.filterMap_append, List.length_append]
    have h1 := filterMap_range_le (f := f) n
    have h2 : ([n].filterMap f).length ≤ 1 := by
      rw [List.filterMap_cons]
      cases f n <;> simp
    omega
theorem stepV_length {xs : List V} {t m : Nat} (hm : 0 < m) (ht : t ≤ xs.length) : (stepV xs t m).length ≤ xs.length := by
  refine Nat.le_trans (filterMap_range_le _) ?_
  refine Nat.le_trans (m := xs.length - t) ?_ (Nat.sub_le _ _)
  by_cases h : xs.length - t = 0
  · rw [h, Nat.div_eq_of_lt (by omega)]
    exact Nat.le_refl _
  · refine Nat.div_le_of_le_mul ?_
    generalize xs.length - t = d at *
    have h1 : 0 ≤ (d - 1) * (m - 1) := Nat.zero_le _
    obtain ⟨d', rfl⟩ : ∃ d', d = d' + 1 := ⟨d - 1, by omega⟩
    obtain ⟨m', rfl⟩ : ∃ m', m = m' + 1 := ⟨m - 1, by omega⟩
    have e : (m' + 1) * (d' + 1) = m' * d' + m' + d' + 1 := by
      rw [Nat.add_mul, Nat.mul_add]
      omega
    rw [e]
    omega
theorem pe_stepL {X : Cx} {e lo st : Expr} {te : TE} {tl ts : TO} {p3 pos : Pos} (he : PE X e te) (hl : PO X (some lo) tl) (hst : PO X (some st) ts) : PE X (.Subscript e (.Slice (some lo) none (some st) p3) pos) (tStepL X.K te tl ts) := by
  refine ⟨fun pins s σ H Q I h => ?_⟩
  refine Subscript_ (thn (he.run pins s σ H _ I h) fun v s1 ⟨x, H1, I1, r1, q1⟩ => ?_)
  refine wpAny_Slice (thn (hl.run pins s1 σ H1 _ I1 q1) fun vl s2 ⟨l, H2, I2, pl, q2⟩ => ?_)
  refine thn (po_none.run pins s2 σ H2 (fun o H3 => o = none ∧ H3 = H2) I2 ⟨rfl, rfl⟩) fun vu s3 ⟨u, H3, I3, pu, eu, e3⟩ => ?_
  subst eu e3
  refine thn (hst.run pins s3 σ H3 _ I3 q2) fun vs s4 ⟨o, H4, I4, ps, q4⟩ => ?_
  obtain ⟨a, xs, t, m, rfl, rfl, rfl, hm, ht, hx, q⟩ := q4
  cases r1
  have I5 : Inv X pins σ H4 { s4 with heap := s4.heap.push { cls := .type "slice", data := .fields #[vl, vu, vs] } } := I4.kept (t' := s4.toks) fun b ob q => Heap.get?_push_of_some _ q
  obtain ⟨its, r, hT, hz⟩ := I5.list hx
  have hlen := r.length
  show wpAny (model X.prog X.w) X.A (subscriptTail e (.Slice (some lo) none (some st) p3) (.ref a) (.ref s4.heap.objs.size)) (EP X pins σ Q) X.xe { s4 with heap := s4.heap.push { cls := .type "slice", data := .fields #[vl, vu, vs] } }
  refine tail_any (ops := [.ref a, .ref s4.heap.objs.size]) hT.isList.typeIs (PySem.slot_list_getitem.lookup) ?_ (by with_unfolding_all rfl)
  refine wpAny_getItem_list_slice hT.isList (Heap.IsSliceOf.new _ vl vu vs) pl pu ps (by
    intro z
    have z2 := Option.some.inj z
    omega) ?_ (by rw [List.size_toArray]; omega)
  rw [pick_step hm (by omega)]
  refine ⟨.ref _, _, I5.laid (t' := s4.toks) (o := .lst (stepV xs t m)) (fun b ob q => Heap.get?_push_of_some _ q) (Nat.le_refl _) ?_, rfl, q _ (I5.hok.fresh (Nat.le_refl _))⟩
  refine ⟨Nat.le_trans (stepV_length hm ht) hz, _, 0, ?_, Heap.get?_push_size _ rfl⟩
  rw [← hlen]
  exact stepV_vals r t m _
end Xv

set_option Elab.async false
set_option linter.all false
set_option maxRecDepth 100000
set_option maxHeartbeats 4000000
set_option pp.maxSteps 3000
namespace Xv
open PySem PySem.Spec PyProof.Rows L2
/-! ### xs[i] of a list, for xs[i] += e -/
def rGetL (K : PySem.W.Frag) : V → V → Hp → VK → Prop := fun x y H Q => ∃ p xs i v, x = .ref p ∧ y = .int i ∧ SqL K H p xs ∧ atI xs i = some v ∧ Q v H
theorem get_list {X : Cx} : PGet X (rGetL X.K) := by
  intro pins s σ H x y v u Q I rx ry h
  obtain ⟨p, xs, i, z, rfl, rfl, hq, he, q⟩ := h
  cases rx
  obtain ⟨t, rfl⟩ := ry
  obtain ⟨its, r, pl, hz⟩ := I.list hq
  obtain ⟨j, h1, h2, h3, h4, h5⟩ := atI_get he
  obtain ⟨w, ew, rw'⟩ := r.get h2
  have hl := r.length
  have hn := line63
  have fin : EP X pins σ Q w s := ⟨z, H, I, rw', q⟩
  by_cases h0 : 0 ≤ i
  · have hj : i.toNat = j := by
      rw [seqIndex_of h0 h5] at h1
      exact Option.some.inj h1
    exact wpAny_getItem_list pl.isList h0 (by omega) (by rw [hj]; simpa using ew) fin
  · have hj : (i + (its.toArray.size : Int)).toNat = j := by
      rw [seqIndex_neg (by omega) h4] at h1
      rw [List.size_toArray, ← hl]
      exact Option.some.inj h1
    exact wpAny_getItem_list_neg pl.isList (by omega) (by rw [List.size_toArray] <;> omega) (by omega) (by rw [hj]; simpa using ew) fin
/-! ### xs[lo:hi:-1] of a list, hi ≤ lo < len(xs) -/
def downV (xs : List V) (lo hi : Nat) : List V := (List.range (lo - hi)).filterMap fun k => xs[lo - k]?
def tDownL (K : PySem.W.Frag) (te : TE) (tl tu ts : TO) : TE := fun σ H Q => te σ H fun x H1 => tl σ H1 fun l H2 => tu σ H2 fun u H3 => ts σ H3 fun st H4 => ∃ a xs, ∃ lo hi : Nat, x = .ref a ∧ l = some (lo : Int) ∧ u = some (hi : Int) ∧ st = some (-1) ∧ hi ≤ lo ∧ lo < xs.length ∧ SqL K H4 a xs ∧ ∀ p, H4 p = none → Q (.ref p) (upd H4 p (.lst (downV xs lo hi)))
theorem filterMap_eq {α β : Type} {f g : α → Option β} : ∀ {l : List α}, (∀ x ∈ l, f x = g x) → l.filterMap f = l.filterMap g
  | [], _ => rfl
  | x :: r, h => by
    rw [List.filterMap_cons, List.filterMap_cons, h x (List.mem_cons_self ..), filterMap_eq fun y hy => h y (List.mem_cons_of_mem _ hy)]
theorem pick_down {its : List Value} {lo hi : Nat} (h1 : hi ≤ lo) (h2 : lo < its.length) : slicePick its.toArray (some (lo : Int)) (some (hi : Int)) (some (-1)) = ((List.range (lo - hi)).filterMap fun k => its[lo - k]?).toArray := by
  unfold slicePick sliceBounds
  have c1 : ¬ ((-1 : Int) > 0) := by decide
  have c2 : ¬ ((lo : Int) < 0) := by omega
  have c3 : ¬ ((hi : Int) < 0) := by omega
  have e1 : max (-1) (min (lo : Int) ((its.length : Int) - 1)) = (lo : Int) := by omega
  have e2 : max (-1) (min (hi : Int) ((its.length : Int) - 1)) = (hi : Int) := by omega
  simp only [Option.getD_some, List.size_toArray, c1, if_false, c2, c3, e1, e2]
  unfold sliceRange
  simp only [c1, if_false]
  have e3 : (if (lo : Int) > (hi : Int) then ((lo : Int) - hi - -1 - 1) / (- -1) else 0).toNat = lo - hi := by
    have e4 : (- -1 : Int) = 1 := by decide
    rw [e4, Int.ediv_one]
    split <;> omega
  rw [e3, List.filterMap_map]
  congr 1
  refine filterMap_eq fun k hk => ?_
  have hk := List.mem_range.mp hk
  have e4 : ((lo : Int) + -1 * (k : Int)).toNat = lo - k := by omega
  show its.toArray[((lo : Int) + -1 * (k : Int)).toNat]? = _
  rw [e4]
  simp
theorem downV_vals {xs : List V} {its : List Value} (r : Vals xs its) (lo : Nat) : ∀ n : Nat, Vals ((List.range n).filterMap fun k => xs[lo - k]?) ((List.range n).filterMap fun k => its[lo - k]?)
  | 0 => .nil
  | n + 1 => by
    rw [List.range_succ, List.filterMap_append, List.filterMap_append]
    refine (downV_vals r lo n).append ?_
    show Vals (List.filterMap _ [n]) (List.filterMap _ [n])
    rw [List.filterMap_cons, List.filterMap_cons]
    cases e : xs[lo - n]? with
    | none =>
      have e2 : its[lo - n]? = none := by
        have hl := r.length
        rw [List.getElem?_eq_none_iff] at e ⊢
        omega
      rw [e2]
      exact .nil
    | some v =>
      obtain ⟨u, hu, ru⟩ := r.get e
      rw [hu]
      exact .cons ru .nil
theorem filterMap_range_len {f : Nat → Option V} : ∀ n : Nat, ((List.range n).filterMap f).length ≤ n
  | 0 => Nat.le_refl _
  | n + 1 => by
    rw [List.range_succ, List.filterMap_append, List.length_append]
    have h1 := filterMap_range_len (f := f) n
    have h2 : ([n].filterMap f).length ≤ 1 := by
      rw [List.filterMap_cons]
      cases f n <;> simp
    omega
theorem pe_stepDown {X : Cx} {e lo hi st : Expr} {te : TE} {tl tu ts : TO} {p3 pos : Pos} (he : PE X e te) (hl : PO X (some lo) tl) (hu : PO X (some hi) tu) (hst : PO X (some st) ts) : PE X (.Subscript e (.Slice (some lo) (some hi) (some st) p3) pos) (tDownL X.K te tl tu ts) := by
  refine ⟨fun pins s σ H Q I h => ?_⟩
  refine Subscript_ (thn (he.run pins s σ H _ I h) fun v s1 ⟨x, H1, I1, r1, q1⟩ => ?_)
  refine wpAny_Slice (thn (hl.run pins s1 σ H1 _ I1 q1) fun vl s2 ⟨l, H2, I2, pl, q2⟩ => ?_)
  refine thn (hu.run pins s2 σ H2 _ I2 q2) fun vu s3 ⟨u, H3, I3, pu, q3⟩ => ?_
  refine thn (hst.run pins s3 σ H3 _ I3 q3) fun vs s4 ⟨o, H4, I4, ps, q4⟩ => ?_
  obtain ⟨a, xs, lo, hi, rfl, rfl, rfl, rfl, h1, h2, hx, q⟩ := q4
  cases r1
  have I5 : Inv X pins σ H4 { s4 with heap := s4.heap.push { cls := .type "slice", data := .fields #[vl, vu, vs] } } := I4.kept (t' := s4.toks) fun b ob q => Heap.get?_push_of_some _ q
  obtain ⟨its, r, hT, hz⟩ := I5.list hx
  have hlen := r.length
  refine tail_any (ops := [.ref a, .ref s4.heap.objs.size]) hT.isList.typeIs (PySem.slot_list_getitem.lookup) ?_ (by with_unfolding_all rfl)
  refine wpAny_getItem_list_slice hT.isList (Heap.IsSliceOf.new _ vl vu vs) pl pu ps (by decide) ?_ (by rw [List.size_toArray]; omega)
  rw [pick_down h1 (by omega)]
  refine ⟨.ref _, _, I5.laid (t' := s4.toks) (o := .lst (downV xs lo hi)) (fun b ob q => Heap.get?_push_of_some _ q) (Nat.le_refl _) ?_, rfl, q _ (I5.hok.fresh (Nat.le_refl _))⟩
  refine ⟨Nat.le_trans (filterMap_range_len _) (by omega), _, 0, ?_, Heap.get?_push_size _ rfl⟩
  exact downV_vals r lo _
/-! ### enumerate(v, start=c) of a list or a tuple -/
section
variable {M : Model} {A : Around} {E : Value → Shared → Prop} {s : Shared} {env : Env}
theorem callWith_type_kwB {pos : Pos} {id : String} {first : List Value} {args : List (Bool × Sem Value)} {keywords : List (Option Str × Sem Value)} {Q : Value → Shared → Prop}
    (hplain : args.any (·.1) = false) (hkw : keywords.any (·.1.isNone) = false)
    (h : wpAny M A (evalArgs (.type id) true args keywords) (fun a s₁ => wpAny M A (call (.type id) (first ++ a.pos) a.kw) Q E s₁) E s) :
    wpAny M A (callWith pos (.type id) first args keywords) Q E s := by
  unfold callWith
  refine wpAny_bind (wpAny_holding (wpAny_mono h (fun a s₁ h₁ => wpAny_bind (wpAny_standAt ?_)) fun _ _ x => x))
  simp only [hplain, hkw, Bool.or_false]
  refine wpAny_bind (wpAny_pure ?_)
  exact wpAny_bind (wpAny_mono h₁ (fun r s₂ hr => wpAny_bind (wpAny_holding (wpAny_point (wpAny_pure hr)))) fun _ _ x => x)
theorem callWith_kwT {pos : Pos} {id : String} {e : Expr} {rest : List Expr} {kws : List Keyword} {Q : Value → Shared → Prop}
    (h : wpAny M A (spliced (backTo pos (starEach (e :: rest) env))) (fun vs s₁ => wpAny M A (evalAll ((backToKw pos (keywordEach kws env)).map (·.2)))
      (fun kvs s₂ => wpAny M A (call (.type id) vs (((backToKw pos (keywordEach kws env)).filterMap (·.1)).zip kvs)) Q E s₂) E s₁) E s)
    (he : backTo pos (starEach (e :: rest) env) = (false, eval e env) :: backTo pos (starEach rest env) := by rfl)
    (hplain : (backTo pos (starEach (e :: rest) env)).any (·.1) = false := by rfl)
    (hall : (backToKw pos (keywordEach kws env)).all (·.1.isSome) = true := by rfl)
    (hkw : (backToKw pos (keywordEach kws env)).any (·.1.isNone) = false := by rfl) :
    wpAny M A (callWith pos (.type id) [] (backTo pos (starEach (e :: rest) env)) (backToKw pos (keywordEach kws env))) Q E s := by
  refine callWith_type_kwB hplain hkw ?_
  rw [he] at h ⊢
  exact evalArgs_kwB hall h
end
/-- the items with their counts from c, each in a new pair -/
def IteS (K : PySem.W.Frag) (c : Int) (a : Addr) (tup : Bool) : It :=
  ⟨fun i H => ∃ (xs : List V) (x : V), (if tup then SqT K H a xs else SqL K H a xs) ∧ xs[i]? = some x, fun i H v H' => ∃ T x, v = .ref T ∧ H T = none ∧ H' = upd H T (.tup [.int (c + (i : Nat)), x]) ∧ ∀ xs, (if tup then SqT K H a xs else SqL K H a xs) → xs[i]? = some x, fun i H => ∃ xs : List V, (if tup then SqT K H a xs else SqL K H a xs) ∧ xs.length = i⟩
def StS (c : Int) (tup : Bool) (a e it : Addr) (i : Nat) (h : Heap) : Prop := (∃ old, IsEnum h e it (c + (i : Int)) old) ∧ (if tup then h.IsTupleIter it a i else h.IsListIter it a i) ∧ e ≠ it ∧ e ≠ a
theorem sq_vals {X : Cx} {pins : List (Addr × Obj)} {σ : L2.St} {H : Hp} {s : Shared} {a : Addr} {xs : List V} {tup : Bool} (I : Inv X pins σ H s) (h : if tup then SqT X.K H a xs else SqL X.K H a xs) :
    ∃ its : List Value, Vals xs its ∧ (if tup then s.heap.IsTuple a its.toArray else s.heap.IsList a its.toArray) := by
  cases tup with
  | true =>
    obtain ⟨its, rv, p, hz⟩ := I.tuple h
    exact ⟨its, rv, p⟩
  | false =>
    obtain ⟨its, rv, p, hz⟩ := I.list h
    exact ⟨its, rv, p.isList⟩
theorem draws_sq {prog : Program} {w : World} {A : Around} (hh : A.handled = none) (it a : Addr) (hne : a ≠ it) (items : Array Value) (tup : Bool) :
    Draws prog w A it [it, a] items.size (fun i v => items[i]? = some v) (fun i h => (if tup then h.IsTupleIter it a i else h.IsListIter it a i) ∧ (if tup then h.IsTuple a items else h.IsList a items)) := by
  cases tup with
  | true => exact Draws.tuple hh it a hne items
  | false => exact Draws.list hh it a hne items
theorem turn_enumS {P : Program} {w : World} {K : PySem.W.Frag} {elts : List Expr} {kk : Nat} {tpos : Pos} (c : Int) (tup : Bool) (a e it : Addr) (hat : a ≠ it) :
    Turn P w K (.Tuple elts kk tpos) (IteS K c a tup) [e, it] e (StS c tup a e it) where
  mem := by simp
  obj := fun i h st b hb => by
    obtain ⟨⟨old, he⟩, hit, _⟩ := st
    have e' : b = e ∨ b = it := by simpa using hb
    rcases e' with z | z
    · rw [z]; exact ⟨_, he, fun v q => nomatch q⟩
    · rw [z]
      cases tup with
      | true =>
        obtain ⟨o, ho, hc, hd⟩ := hit
        exact ⟨o, ho, fun v q => by rw [hd] at q; cases q⟩
      | false =>
        obtain ⟨o, ho, hc, hd⟩ := hit
        exact ⟨o, ho, fun v q => by rw [hd] at q; cases q⟩
  keep := fun i h h' st k => by
    obtain ⟨⟨old, he⟩, hi, hne, hea⟩ := st
    refine ⟨⟨old, k e (by simp) _ he⟩, ?_, hne, hea⟩
    cases tup with
    | true => exact hi.at fun o q => k it (by simp) o q
    | false => exact hi.at fun o q => k it (by simp) o q
  item := by
    intro X hP hw hK hc i pins s σ H E I hf st hg
    subst hP hw hK
    obtain ⟨⟨old, he⟩, hit, hne, hea⟩ := st
    obtain ⟨xs, x, hq, hx⟩ := hg
    obtain ⟨its, rv, p⟩ := sq_vals I hq
    obtain ⟨u, hu, ru⟩ := rv.get hx
    have hel : e < s.heap.objs.size := Heap.lt_size he
    have hil : it < s.heap.objs.size := by
      cases tup with
      | true => obtain ⟨_, q, _⟩ := hit; exact Heap.lt_size q
      | false => obtain ⟨_, q, _⟩ := hit; exact Heap.lt_size q
    have hlt : i < its.toArray.size := by
      have := (List.getElem?_eq_some_iff.mp hu).1
      simpa using this
    refine wpAny_pyNext_enum_itemC (draws_sq (prog := X.prog) (w := X.w) (A := X.A.in1) (I.ok.hd hc) it a hat its.toArray tup) he ⟨hit, p⟩ hlt hne (by simp [hne, hea]) fun y h' tk hy ho hst' hT hsz hk => ?_
    obtain ⟨hit', _⟩ := hst'
    have ey : y = u := by
      have e1 : its.toArray[i]? = some u := by simpa using hu
      rw [e1] at hy
      exact (Option.some.inj hy).symm
    subst ey
    refine ⟨_, rfl, wpAny_letOwnedTupleGo_enum (s := { s with heap := h', toks := tk + 1 }) ho fun h'' he' sb => ?_⟩
    have hT2 : h''.get? s.heap.objs.size = some { cls := .type "tuple", data := .seq #[.int (c + i) tk, y] } := (sb.2 _ (Nat.ne_of_gt hel)).trans hT
    have new : ObjOk X.prog X.w (upd H s.heap.objs.size (.tup [.int (c + (i : Nat)), x])) h'' s.heap.objs.size (.tup [.int (c + (i : Nat)), x]) :=
      ⟨by show 2 ≤ sizeLine; decide, [.int (c + i) tk, y], .cons ⟨_, rfl⟩ (.cons ru .nil), ⟨_, hT2, rfl, _, rfl⟩⟩
    have I1 : Inv X pins σ (upd H s.heap.objs.size (.tup [.int (c + (i : Nat)), x])) { s with heap := h'', toks := tk + 1 } :=
      I.turnedNew (ch := [e, it]) (fun b ob hb q => (sb.2 b (fun z => hb (by simp [z]))).trans (hk b ob (fun z => hb (by simp [z])) (fun z => hb (by simp [z])) q)) hf (Nat.le_refl _) new
    refine ⟨.ref s.heap.objs.size, _, I1, rfl, ⟨_, x, rfl, I.hok.fresh (Nat.le_refl _), rfl, fun ys hy => ?_⟩, ⟨⟨y, ?_⟩, ?_, hne, hea⟩, fun b hb => ?_⟩
    · cases tup with
      | true => rw [I.tuple_inj hy hq]; exact hx
      | false => rw [I.list_inj hy hq]; exact hx
    · have e1 : c + ((i + 1 : Nat) : Int) = c + (i : Int) + 1 := by omega
      rw [e1]; exact he'
    · cases tup with
      | true => exact hit'.at fun o q => (sb.2 it (Ne.symm hne)).trans q
      | false => exact hit'.at fun o q => (sb.2 it (Ne.symm hne)).trans q
    · have hb' : b < s.heap.objs.size := by
        have e' : b = e ∨ b = it := by simpa using hb
        rcases e' with z | z
        · rw [z]; exact hel
        · rw [z]; exact hil
      rw [upd_ne (Nat.ne_of_lt hb')]
      exact (hf b hb).1
  done := by
    intro X hP hw hK hc i pins s σ H E I hf st hg
    subst hP hw hK
    obtain ⟨⟨old, he⟩, hit, hne, hea⟩ := st
    obtain ⟨xs, hq, hx⟩ := hg
    obtain ⟨its, rv, p⟩ := sq_vals I hq
    obtain ⟨f0, f1, f2, f3, f4, f5⟩ := hf it (by simp)
    have hl := rv.length
    have en : i = its.toArray.size := by
      rw [List.size_toArray]
      omega
    subst en
    exact wpAny_pyNext_enum_endD (draws_sq (prog := X.prog) (w := X.w) (A := X.A.in1) (I.ok.hd hc) it a hat its.toArray tup) he ⟨hit, p⟩ fun h' eb => ⟨rfl, I.turned (t' := s.toks) (fun b o hb q => eb b o hb q) f0 f1 f3 f4 f5⟩
  self := fun A i s Q E st h => let ⟨⟨_, he⟩, _⟩ := st; wpAny_pyIter_enum he h
def iEnumS (K : PySem.W.Frag) (ta : TA) (tk : TA) : TI := fun σ H R => ta σ H fun vs H1 => tk σ H1 fun zs H2 => ∃ (a : Addr) (xs : List V) (c : Int) (tup : Bool), vs = [.ref a] ∧ zs = [.int c] ∧ -(2 ^ 63) ≤ c ∧ c < 2 ^ 63 ∧ (if tup then SqT K H2 a xs else SqL K H2 a xs) ∧ R (IteS K c a tup) H2
theorem pi_enumK {X : Cx} {e : Expr} {ta tk : TA} {p pos tpos : Pos} {kws : List Keyword} {elts : List Expr} {kk : Nat} (hg : Gl X "enumerate") (hm : X.mg "enumerate" = none) (ha : PA X [e] ta) (hk : PK X kws tk)
    (he : backTo pos (starEach [e] X.env) = (false, eval e X.env) :: backTo pos (starEach [] X.env) := by rfl) (hpl : (backTo pos (starEach [e] X.env)).any (·.1) = false := by rfl)
    (hall : (backToKw pos (keywordEach kws X.env)).all (·.1.isSome) = true := by rfl) (hnone : (backToKw pos (keywordEach kws X.env)).any (·.1.isNone) = false := by rfl) (hks : (backToKw pos (keywordEach kws X.env)).filterMap (·.1) = [Str.ofString "start"] := by rfl) :
    PI X (.Tuple elts kk tpos) (.Call (.Name "enumerate" p) [e] kws pos) (iEnumS X.K ta tk) := by
  refine ⟨fun pins s σ H R I h => ?_⟩
  refine wpAny_Call_Name_kw (ld_blt I hg hm boot_enumerate ?_)
  refine callWith_kwT (thn (ha.run pos pins s σ H _ I h) fun us s0 ⟨vs, H0, I0, r1, q1⟩ => thn (hk.run pos pins s0 σ H0 _ I0 q1) fun ws s1 ⟨zs, H1, I1, r2, q2⟩ => ?_) he hpl hall hnone
  rw [hks]
  obtain ⟨a, xs, c, tup, ex, ez, c0, c1, hq, q⟩ := q2
  subst ex ez
  cases r1 with
  | cons r rr =>
    cases rr
    cases r
    cases r2 with
    | cons r rr =>
      cases rr
      obtain ⟨t, rfl⟩ := r
      show wpAny (model X.prog X.w) X.A (call (.type "enumerate") [.ref a] [(Str.ofString "start", .int c t)]) _ X.xe s1
      have main : ∀ (tup : Bool) (its : List Value), (if tup then s1.heap.IsTuple a its.toArray else s1.heap.IsList a its.toArray) → R (IteS X.K c a tup) H1 →
          wpAny (model X.prog X.w) X.A (call (.type "enumerate") [.ref a] [(Str.ofString "start", .int c t)]) (fun v s1 => wpAny (model X.prog X.w) X.A (pyIter v) (PIE X pins σ (.Tuple elts kk tpos) R) X.xe s1) X.xe s1 := by
        intro tup its p2 q
        have hal : a < s1.heap.objs.size := by
          cases tup with
          | true => obtain ⟨o, ho, _⟩ := p2; exact Heap.lt_size ho
          | false => obtain ⟨o, ho, _⟩ := p2; exact Heap.lt_size ho
        have fin : ∀ (h' : Heap), IsEnum h' (s1.heap.objs.size + 1) s1.heap.objs.size c .none → (if tup then h'.IsTupleIter s1.heap.objs.size a 0 else h'.IsListIter s1.heap.objs.size a 0) → (∀ b o, s1.heap.get? b = some o → h'.get? b = some o) →
            wpAny (model X.prog X.w) X.A (pyIter (.ref (s1.heap.objs.size + 1))) (PIE X pins σ (.Tuple elts kk tpos) R) X.xe { s1 with heap := h' } := by
          intro h' he hit hk
          refine wpAny_pyIter_enum he ?_
          have I2 : Inv X pins σ H1 { s1 with heap := h' } := I1.kept (t' := s1.toks) hk
          refine ⟨s1.heap.objs.size + 1, [s1.heap.objs.size + 1, s1.heap.objs.size], _, _, H1, rfl, I2, turn_enumS c tup a (s1.heap.objs.size + 1) s1.heap.objs.size (Nat.ne_of_lt hal),
            ⟨⟨.none, by have e0 : c + ((0 : Nat) : Int) = c := by omega
                        rw [e0]; exact he⟩, hit, Nat.succ_ne_self _, Nat.ne_of_gt (Nat.lt_succ_of_lt hal)⟩, fun b hb => ?_, q⟩
          have e' : b = s1.heap.objs.size + 1 ∨ b = s1.heap.objs.size := by simpa using hb
          have hle : s1.heap.objs.size ≤ b := by
            rcases e' with z | z
            · rw [z]; exact Nat.le_add_right _ _
            · rw [z]; exact Nat.le_refl _
          exact I1.fpOk hle (I1.hok.fresh hle)
        cases tup with
        | true => exact enum_begins_start (begins_tuple a its.toArray) p2 c0 c1 fun h' he hit hsz hk => fin h' he ⟨_, hit, rfl, rfl⟩ hk
        | false => exact enum_begins_start (begins_list a its.toArray) p2 c0 c1 fun h' he hit hsz hk => fin h' he ⟨_, hit, rfl, rfl⟩ hk
      obtain ⟨its, rv, p'⟩ := sq_vals I1 hq
      exact main tup its p' q
theorem walk_enumS {K : PySem.W.Frag} {c : Int} {tup : Bool} {a : Addr} {xs : List V} : Walk (IteS K c a tup) xs.length (fun H => if tup then SqT K H a xs else SqL K H a xs) (YPair (fun i => some (.int (c + (i : Nat)))) (fun i => xs[i]?)) := by
  refine ⟨fun i _ hi q => ⟨xs, xs[i], q, by simp [hi]⟩, fun _ q => ⟨xs, q, rfl⟩, fun i H v H' _ q y => ?_⟩
  obtain ⟨T, x, h1, h2, h3, h4⟩ := y
  exact ⟨T, .int (c + (i : Nat)), x, h1, h2, h3, rfl, h4 xs q⟩
end Xv

set_option Elab.async false
set_option linter.all false
set_option maxRecDepth 100000
set_option maxHeartbeats 4000000
/-! power series with whole coefficients, as functions -/
namespace Ps
/-- f 0 + .. + f (n - 1) -/
def sm (f : Nat → Int) : Nat → Int
  | 0 => 0
  | n + 1 => sm f n + f n
theorem sm_congr {f g : Nat → Int} : ∀ n : Nat, (∀ i, i < n → f i = g i) → sm f n = sm g n
  | 0, _ => rfl
  | n + 1, h => by
    show sm f n + f n = sm g n + g n
    rw [sm_congr n fun i hi => h i (by omega), h n (by omega)]
theorem sm_add (f g : Nat → Int) : ∀ n, sm (fun i => f i + g i) n = sm f n + sm g n
  | 0 => rfl
  | n + 1 => by
    show sm (fun i => f i + g i) n + (f n + g n) = sm f n + f n + (sm g n + g n)
    rw [sm_add f g n]
    omega
theorem sm_mul (c : Int) (f : Nat → Int) : ∀ n, sm (fun i => c * f i) n = c * sm f n
  | 0 => by
    show (0 : Int) = c * 0
    rw [Int.mul_zero]
  | n + 1 => by
    show sm (fun i => c * f i) n + c * f n = c * (sm f n + f n)
    rw [sm_mul c f n, Int.mul_add]
theorem sm_mul' (c : Int) (f : Nat → Int) (n : Nat) : sm (fun i => f i * c) n = sm f n * c := by
  rw [Int.mul_comm (sm f n), ← sm_mul]
  exact sm_congr n fun i _ => Int.mul_comm _ _
theorem sm_zero : ∀ n, sm (fun _ => 0) n = 0
  | 0 => rfl
  | n + 1 => by
    show sm (fun _ => 0) n + 0 = 0
    rw [sm_zero n]
    rfl
theorem sm_first (f : Nat → Int) : ∀ n, sm f (n + 1) = f 0 + sm (fun i => f (i + 1)) n
  | 0 => by
    show 0 + f 0 = f 0 + 0
    omega
  | n + 1 => by
    show sm f (n + 1) + f (n + 1) = f 0 + (sm (fun i => f (i + 1)) n + f (n + 1))
    rw [sm_first f n]
    omega
theorem sm_rev (f : Nat → Int) : ∀ n, sm (fun i => f (n - 1 - i)) n = sm f n
  | 0 => rfl
  | n + 1 => by
    rw [sm_first]
    show f (n + 1 - 1 - 0) + sm (fun i => f (n + 1 - 1 - (i + 1))) n = sm f n + f n
    have e : sm (fun i => f (n + 1 - 1 - (i + 1))) n = sm (fun i => f (n - 1 - i)) n := sm_congr n fun i hi => by
      have e2 : n + 1 - 1 - (i + 1) = n - 1 - i := by omega
      rw [e2]
    rw [e, sm_rev f n]
    have e3 : n + 1 - 1 - 0 = n := by omega
    rw [e3]
    omega
/-- the triangle summed the other way -/
theorem sm_tri (F : Nat → Nat → Int) : ∀ n, sm (fun i => sm (fun j => F i j) (i + 1)) n = sm (fun j => sm (fun k => F (k + j) j) (n - j)) n
  | 0 => rfl
  | n + 1 => by
    show sm (fun i => sm (fun j => F i j) (i + 1)) n + (sm (fun j => F n j) n + F n n) = sm (fun j => sm (fun k => F (k + j) j) (n + 1 - j)) n + sm (fun k => F (k + n) n) (n + 1 - n)
    rw [sm_tri F n]
    have e1 : sm (fun j => sm (fun k => F (k + j) j) (n + 1 - j)) n = sm (fun j => sm (fun k => F (k + j) j) (n - j) + F n j) n := sm_congr n fun j hj => by
      have e2 : n + 1 - j = (n - j) + 1 := by omega
      rw [e2]
      show sm _ (n - j) + F (n - j + j) j = _
      have e3 : n - j + j = n := by omega
      rw [e3]
    have e4 : sm (fun k => F (k + n) n) (n + 1 - n) = F n n := by
      have e5 : n + 1 - n = 1 := by omega
      rw [e5]
      show 0 + F (0 + n) n = F n n
      rw [Nat.zero_add]
      omega
    have e9 : sm (F n) n = sm (fun j => F n j) n := rfl
    rw [e1, sm_add, e4]
    omega
abbrev S : Type := Nat → Int
/-- the product -/
def cv (f g : S) : S := fun n => sm (fun i => f i * g (n - i)) (n + 1)
def one : S := fun n => if n = 0 then 1 else 0
theorem cv_comm (f g : S) : cv f g = cv g f := by
  funext n
  unfold cv
  rw [← sm_rev (fun i => f i * g (n - i)) (n + 1)]
  refine sm_congr _ fun i hi => ?_
  have e1 : n + 1 - 1 - i = n - i := by omega
  have e2 : n - (n - i) = i := by omega
  show f (n + 1 - 1 - i) * g (n - (n + 1 - 1 - i)) = _
  rw [e1, e2, Int.mul_comm]
theorem cv_assoc (f g h : S) : cv (cv f g) h = cv f (cv g h) := by
  funext n
  unfold cv
  have e1 : sm (fun i => sm (fun j => f j * g (i - j)) (i + 1) * h (n - i)) (n + 1) = sm (fun i => sm (fun j => f j * g (i - j) * h (n - i)) (i + 1)) (n + 1) := sm_congr _ fun i hi => (sm_mul' _ _ _).symm
  rw [e1, sm_tri (fun i j => f j * g (i - j) * h (n - i))]
  refine sm_congr _ fun j hj => ?_
  have e2 : n + 1 - j = (n - j) + 1 := by omega
  rw [e2, ← sm_mul]
  refine sm_congr _ fun k hk => ?_
  have e3 : k + j - j = k := by omega
  have e4 : n - (k + j) = n - j - k := by omega
  rw [e3, e4, Int.mul_assoc]
theorem cv_one (f : S) : cv f one = f := by
  rw [cv_comm]
  funext n
  unfold cv
  rw [sm_first]
  have e : sm (fun i => one (i + 1) * f (n - (i + 1))) n = 0 := by
    rw [← sm_zero n]
    refine sm_congr _ fun i _ => ?_
    show (if i + 1 = 0 then (1 : Int) else 0) * _ = 0
    rw [if_neg (by omega), Int.zero_mul]
  rw [e]
  show (1 : Int) * f (n - 0) + 0 = f n
  rw [Int.one_mul, Int.add_zero, Nat.sub_zero]
theorem one_cv (f : S) : cv one f = f := by
  rw [cv_comm, cv_one]
def sc (c : Int) (f : S) : S := fun n => c * f n
def ad (f g : S) : S := fun n => f n + g n
theorem cv_sc (c : Int) (f g : S) : cv f (sc c g) = sc c (cv f g) := by
  funext n
  unfold cv sc
  rw [← sm_mul]
  refine sm_congr _ fun i _ => ?_
  rw [← Int.mul_assoc, Int.mul_comm (f i) c, Int.mul_assoc]
theorem sc_cv (c : Int) (f g : S) : cv (sc c f) g = sc c (cv f g) := by
  rw [cv_comm, cv_sc, cv_comm]
theorem cv_ad (f g h : S) : cv f (ad g h) = ad (cv f g) (cv f h) := by
  funext n
  unfold cv ad
  rw [← sm_add]
  refine sm_congr _ fun i _ => Int.mul_add _ _ _
/-- n * f n -/
def dv (f : S) : S := fun n => (n : Int) * f n
theorem dv_cv (f g : S) : dv (cv f g) = ad (cv (dv f) g) (cv f (dv g)) := by
  funext n
  unfold dv cv ad
  rw [← sm_mul, ← sm_add]
  refine sm_congr _ fun i hi => ?_
  have e : (n : Int) = (i : Int) + ((n - i : Nat) : Int) := by omega
  have e1 : ((i : Int) + ((n - i : Nat) : Int)) * (f i * g (n - i)) = (i : Int) * f i * g (n - i) + f i * (((n - i : Nat) : Int) * g (n - i)) := by
    rw [Int.add_mul, Int.mul_assoc, ← Int.mul_assoc (f i), Int.mul_comm (f i) ((n - i : Nat) : Int), Int.mul_assoc]
  rw [← e1, ← e]
theorem dv_one : dv one = fun _ => 0 := by
  funext n
  show (n : Int) * (if n = 0 then 1 else 0) = 0
  by_cases h : n = 0
  · rw [h]
    rfl
  · rw [if_neg h, Int.mul_zero]
/-- powers -/
def pw (f : S) : Nat → S
  | 0 => one
  | k + 1 => cv (pw f k) f
theorem cv_zero (f : S) : cv f (fun _ => 0) = fun _ => 0 := by
  funext n
  unfold cv
  refine Eq.trans (sm_congr _ fun i _ => Int.mul_zero _) (sm_zero _)
theorem sc_zero (c : Int) : sc c (fun _ => 0) = fun _ => 0 := by
  funext n
  exact Int.mul_zero _
/-- f times the derivative of its power -/
theorem dv_pw (f : S) : ∀ k : Nat, cv f (dv (pw f k)) = sc (k : Int) (cv (dv f) (pw f k))
  | 0 => by
    show cv f (dv one) = _
    rw [dv_one, cv_zero]
    funext n
    exact (Int.zero_mul _).symm
  | k + 1 => by
    show cv f (dv (cv (pw f k) f)) = sc ((k + 1 : Nat) : Int) (cv (dv f) (cv (pw f k) f))
    rw [dv_cv, cv_ad]
    have e1 : cv f (cv (dv (pw f k)) f) = sc (k : Int) (cv (dv f) (cv (pw f k) f)) := by
      rw [← cv_assoc, dv_pw f k, sc_cv, cv_assoc]
    have e2 : cv f (cv (pw f k) (dv f)) = cv (dv f) (cv (pw f k) f) := by
      rw [cv_comm f, cv_comm (pw f k), cv_assoc]
    rw [e1, e2]
    funext n
    show (k : Int) * _ + _ = ((k + 1 : Nat) : Int) * _
    have e3 : ((k + 1 : Nat) : Int) = (k : Int) + 1 := rfl
    rw [e3, Int.add_mul, Int.one_mul]
/-- the same of the powers of an inverse -/
theorem dv_inv (f g : S) (h : cv f g = one) : ∀ k : Nat, cv f (dv (pw g k)) = sc (-(k : Int)) (cv (dv f) (pw g k))
  | 0 => by
    show cv f (dv one) = _
    rw [dv_one, cv_zero]
    funext n
    show (0 : Int) = -0 * _
    rw [Int.neg_zero, Int.zero_mul]
  | k + 1 => by
    have hd : cv f (dv g) = sc (-1) (cv (dv f) g) := by
      have e := dv_cv f g
      rw [h, dv_one] at e
      funext n
      have e1 := congrFun e n
      have e2 : (0 : Int) = cv (dv f) g n + cv f (dv g) n := e1
      show cv f (dv g) n = -1 * cv (dv f) g n
      omega
    show cv f (dv (cv (pw g k) g)) = sc (-((k + 1 : Nat) : Int)) (cv (dv f) (cv (pw g k) g))
    rw [dv_cv, cv_ad]
    have e1 : cv f (cv (dv (pw g k)) g) = sc (-(k : Int)) (cv (dv f) (cv (pw g k) g)) := by
      rw [← cv_assoc, dv_inv f g h k, sc_cv, cv_assoc]
    have e2 : cv f (cv (pw g k) (dv g)) = sc (-1) (cv (dv f) (cv (pw g k) g)) := by
      rw [cv_comm (pw g k), ← cv_assoc, hd, sc_cv, cv_assoc, cv_comm g]
    rw [e1, e2]
    funext n
    show -(k : Int) * _ + -1 * _ = -((k + 1 : Nat) : Int) * _
    have e3 : -((k + 1 : Nat) : Int) = -(k : Int) + -1 := by
      have : ((k + 1 : Nat) : Int) = (k : Int) + 1 := rfl
      omega
    rw [e3, Int.add_mul]
/-- the recurrence of a power with the exponent e -/
theorem recur {f b : S} {e : Int} (h : cv f (dv b) = sc e (cv (dv f) b)) (n : Nat) : (n : Int) * f 0 * b n = sm (fun i => ((e + 1) * ((i + 1 : Nat) : Int) - (n : Int)) * f (i + 1) * b (n - (i + 1))) n := by
  have h1 : sm (fun i => f i * (((n - i : Nat) : Int) * b (n - i))) (n + 1) = e * sm (fun i => ((i : Nat) : Int) * f i * b (n - i)) (n + 1) := congrFun h n
  rw [sm_first, sm_first] at h1
  have z : ((0 : Nat) : Int) * f 0 * b (n - 0) = 0 := by
    show (0 : Int) * f 0 * _ = 0
    rw [Int.zero_mul, Int.zero_mul]
  rw [z, Int.zero_add, ← sm_mul] at h1
  have e1 : sm (fun i => ((e + 1) * ((i + 1 : Nat) : Int) - (n : Int)) * f (i + 1) * b (n - (i + 1))) n = sm (fun i => e * (((i + 1 : Nat) : Int) * f (i + 1) * b (n - (i + 1)))) n - sm (fun i => f (i + 1) * (((n - (i + 1) : Nat) : Int) * b (n - (i + 1)))) n := by
    have e2 : sm (fun i => ((e + 1) * ((i + 1 : Nat) : Int) - (n : Int)) * f (i + 1) * b (n - (i + 1))) n + sm (fun i => f (i + 1) * (((n - (i + 1) : Nat) : Int) * b (n - (i + 1)))) n = sm (fun i => e * (((i + 1 : Nat) : Int) * f (i + 1) * b (n - (i + 1)))) n := by
      rw [← sm_add]
      refine sm_congr _ fun i hi => ?_
      have e3 : ((n - (i + 1) : Nat) : Int) = (n : Int) - ((i + 1 : Nat) : Int) := by omega
      rw [e3]
      generalize ((i + 1 : Nat) : Int) = I
      generalize (n : Int) = N
      generalize f (i + 1) = F
      generalize b (n - (i + 1)) = B
      have e4 : F * ((N - I) * B) = (N - I) * F * B := by
        rw [← Int.mul_assoc, Int.mul_comm F]
      have e5 : e * (I * F * B) = e * I * F * B := by
        rw [← Int.mul_assoc, ← Int.mul_assoc]
      rw [e4, e5, ← Int.add_mul, ← Int.add_mul]
      congr 2
      rw [Int.add_mul, Int.one_mul]
      omega
    omega
  rw [e1, ← h1]
  have e6 : f 0 * (((n - 0 : Nat) : Int) * b (n - 0)) = (n : Int) * f 0 * b n := by
    rw [Nat.sub_zero, ← Int.mul_assoc, Int.mul_comm (f 0)]
  rw [e6]
  omega
/-! ### an inverse -/
def inA (f : S) (u : Int) : Nat → S
  | 0 => fun m => if m = 0 then u else 0
  | n + 1 => fun m => if m = n + 1 then -u * sm (fun i => f (i + 1) * inA f u n (n - i)) (n + 1) else inA f u n m
def inv (f : S) (u : Int) : S := fun m => inA f u m m
theorem inA_le (f : S) (u : Int) : ∀ n m, m ≤ n → inA f u n m = inv f u m
  | 0, m, h => by
    have e : m = 0 := by omega
    subst e
    rfl
  | n + 1, m, h => by
    by_cases e : m = n + 1
    · subst e
      rfl
    · show (if m = n + 1 then _ else inA f u n m) = _
      rw [if_neg e]
      exact inA_le f u n m (by omega)
theorem inv_zero (f : S) (u : Int) : inv f u 0 = u := rfl
theorem inv_succ (f : S) (u : Int) (n : Nat) : inv f u (n + 1) = -u * sm (fun i => f (i + 1) * inv f u (n - i)) (n + 1) := by
  show (if n + 1 = n + 1 then -u * sm (fun i => f (i + 1) * inA f u n (n - i)) (n + 1) else _) = _
  rw [if_pos rfl]
  congr 1
  refine sm_congr _ fun i _ => ?_
  rw [inA_le f u n (n - i) (by omega)]
theorem cv_inv (f : S) {u : Int} (h0 : f 0 = u) (hu : u * u = 1) : cv f (inv f u) = one := by
  funext n
  unfold cv
  cases n with
  | zero =>
    show 0 + f 0 * inv f u 0 = 1
    rw [h0, inv_zero, hu]
    rfl
  | succ n =>
    rw [sm_first, h0]
    show u * inv f u (n + 1) + sm (fun i => f (i + 1) * inv f u (n + 1 - (i + 1))) (n + 1) = 0
    have e : sm (fun i => f (i + 1) * inv f u (n + 1 - (i + 1))) (n + 1) = sm (fun i => f (i + 1) * inv f u (n - i)) (n + 1) := sm_congr _ fun i _ => by
      have e2 : n + 1 - (i + 1) = n - i := by omega
      rw [e2]
    rw [e, inv_succ, ← Int.mul_assoc, Int.mul_neg, hu]
    omega
theorem pw_zero (f : S) : ∀ k, pw f k 0 = f 0 ^ k
  | 0 => (Int.pow_zero _).symm
  | k + 1 => by
    show cv (pw f k) f 0 = _
    show 0 + pw f k 0 * f 0 = _
    rw [pw_zero f k, Int.zero_add, Int.pow_succ]
/-! ### only the coefficients up to some last one matter -/
theorem cv_congr {f f' g g' : S} {N : Nat} (hf : ∀ i, i < N → f i = f' i) (hg : ∀ i, i < N → g i = g' i) : ∀ n, n < N → cv f g n = cv f' g' n := fun n hn => sm_congr _ fun i hi => by
  rw [hf i (by omega), hg (n - i) (by omega)]
theorem pw_congr {f f' : S} {N : Nat} (hf : ∀ i, i < N → f i = f' i) : ∀ k n, n < N → pw f k n = pw f' k n
  | 0, _, _ => rfl
  | k + 1, n, hn => cv_congr (pw_congr hf k) hf n hn
theorem inv_congr {f f' : S} {u : Int} {N : Nat} (hf : ∀ i, i < N → f i = f' i) : ∀ n, n < N → inv f u n = inv f' u n := by
  intro n
  induction n using Nat.strongRecOn with
  | ind n ih =>
    intro hn
    cases n with
    | zero => rfl
    | succ n =>
      rw [inv_succ, inv_succ]
      congr 1
      refine sm_congr _ fun i hi => ?_
      rw [hf (i + 1) (by omega), ih (n - i) (by omega) (by omega)]
/-! ### shifts -/
/-- q ^ z times it -/
def sh (z : Nat) (f : S) : S := fun n => if n < z then 0 else f (n - z)
theorem sm_split (f : S) (z : Nat) : ∀ n, sm f (z + n) = sm f z + sm (fun i => f (z + i)) n
  | 0 => by
    show sm f z = sm f z + 0
    omega
  | n + 1 => by
    show sm f (z + n) + f (z + n) = _
    rw [sm_split f z n]
    show _ = sm f z + (sm (fun i => f (z + i)) n + f (z + n))
    omega
theorem sh_cv (z : Nat) (f g : S) : cv (sh z f) g = sh z (cv f g) := by
  funext n
  unfold cv
  by_cases h : n < z
  · show _ = if n < z then 0 else _
    rw [if_pos h]
    refine Eq.trans (sm_congr _ fun i hi => ?_) (sm_zero _)
    show (if i < z then 0 else f (i - z)) * _ = 0
    rw [if_pos (by omega), Int.zero_mul]
  · show _ = if n < z then 0 else sm (fun i => f i * g (n - z - i)) (n - z + 1)
    rw [if_neg h]
    have e : n + 1 = z + (n - z + 1) := by omega
    rw [e, sm_split]
    have e0 : sm (fun i => sh z f i * g (n - i)) z = 0 := by
      refine Eq.trans (sm_congr _ fun i hi => ?_) (sm_zero _)
      show (if i < z then 0 else f (i - z)) * _ = 0
      rw [if_pos hi, Int.zero_mul]
    rw [e0, Int.zero_add]
    refine sm_congr _ fun i hi => ?_
    show (if z + i < z then 0 else f (z + i - z)) * g (n - (z + i)) = _
    rw [if_neg (by omega)]
    have e1 : z + i - z = i := by omega
    have e2 : n - (z + i) = n - z - i := by omega
    rw [e1, e2]
theorem sh_sh (a b : Nat) (f : S) : sh a (sh b f) = sh (a + b) f := by
  funext n
  unfold sh
  by_cases h : n < a
  · rw [if_pos h, if_pos (by omega)]
  · rw [if_neg h]
    by_cases h2 : n - a < b
    · rw [if_pos h2, if_pos (by omega)]
    · rw [if_neg h2, if_neg (by omega)]
      congr 1
      omega
theorem sh_zero (f : S) : sh 0 f = f := by
  funext n
  show (if n < 0 then 0 else f (n - 0)) = f n
  rw [if_neg (by omega), Nat.sub_zero]
theorem pw_sh (z : Nat) (f : S) : ∀ k, pw (sh z f) k = sh (z * k) (pw f k)
  | 0 => by
    rw [Nat.mul_zero, sh_zero]
    rfl
  | k + 1 => by
    show cv (pw (sh z f) k) (sh z f) = sh (z * (k + 1)) (cv (pw f k) f)
    rw [pw_sh z f k, sh_cv, cv_comm, sh_cv, cv_comm f, sh_sh]
    rfl
/-! ### bounds -/
theorem sm_bound {f : S} {M : Nat} : ∀ n, (∀ i, i < n → (f i).natAbs ≤ M) → (sm f n).natAbs ≤ n * M
  | 0, _ => by
    show 0 ≤ _
    omega
  | n + 1, h => by
    have h1 := sm_bound n fun i hi => h i (by omega)
    have h2 := h n (by omega)
    show (sm f n + f n).natAbs ≤ (n + 1) * M
    rw [Nat.succ_mul]
    omega
theorem cv_bound {f g : S} {N A B : Nat} (hf : ∀ i, i < N → (f i).natAbs ≤ A) (hg : ∀ i, i < N → (g i).natAbs ≤ B) : ∀ n, n < N → (cv f g n).natAbs ≤ N * (A * B) := fun n hn => by
  refine Nat.le_trans (sm_bound (M := A * B) (n + 1) fun i hi => ?_) (Nat.mul_le_mul_right _ (by omega))
  rw [Int.natAbs_mul]
  exact Nat.mul_le_mul (hf i (by omega)) (hg (n - i) (by omega))
theorem pw_bound {f : S} {N A : Nat} (hf : ∀ i, i < N → (f i).natAbs ≤ A) (hN : 0 < N) : ∀ k n, n < N → (pw f k n).natAbs ≤ (N * A) ^ k
  | 0, n, _ => by
    show (if n = 0 then (1 : Int) else 0).natAbs ≤ 1
    by_cases h : n = 0
    · rw [if_pos h]
      decide
    · rw [if_neg h]
      decide
  | k + 1, n, hn => by
    refine Nat.le_trans (cv_bound (pw_bound hf hN k) hf n hn) ?_
    rw [Nat.pow_succ, ← Nat.mul_assoc, Nat.mul_comm N, Nat.mul_assoc]
    exact Nat.le_refl _
theorem inv_bound {f : S} {u : Int} {N A : Nat} (hu : u.natAbs = 1) (hf : ∀ i, i < N → (f i).natAbs ≤ A) : ∀ n, n < N → (inv f u n).natAbs ≤ (N * (A + 1)) ^ n := by
  intro n
  induction n using Nat.strongRecOn with
  | ind n ih =>
    intro hn
    cases n with
    | zero =>
      rw [inv_zero, hu]
      exact Nat.le_refl _
    | succ n =>
      rw [inv_succ, Int.natAbs_mul, Int.natAbs_neg, hu, Nat.one_mul]
      have hp : 0 < N * (A + 1) := Nat.mul_pos (by omega) (by omega)
      refine Nat.le_trans (sm_bound (M := A * (N * (A + 1)) ^ n) (n + 1) fun i hi => ?_) ?_
      · rw [Int.natAbs_mul]
        refine Nat.mul_le_mul (hf (i + 1) (by omega)) (Nat.le_trans (ih (n - i) (by omega) (by omega)) ?_)
        exact Nat.pow_le_pow_right hp (by omega)
      · rw [Nat.pow_succ, Nat.mul_comm _ (N * (A + 1)), Nat.mul_assoc N]
        have h1 : A * (N * (A + 1)) ^ n ≤ (A + 1) * (N * (A + 1)) ^ n := Nat.mul_le_mul_right _ (by omega)
        exact Nat.mul_le_mul (by omega) h1
end Ps

set_option Elab.async false
set_option linter.all false
set_option maxRecDepth 100000
set_option maxHeartbeats 4000000
set_option pp.maxSteps 3000
set_option exponentiation.threshold 500000
namespace Xv
open PySem PySem.Spec PyProof.Rows L2
/-- // by any divisor but 0 below 2 ^ 9000 -/
def CDivB (_ j : Int) : Prop := j ≠ 0 ∧ j.natAbs.log2 < 9000
theorem op_fdivB {X : Cx} : OpR X (binaryOp .FloorDiv) (rI CDivB fun i j => .int (i.fdiv j)) := opI fun i j _ _ _ _ _ hc q => floordiv_int hc.1 q (.inl (PyProof.noPylong_of_log2 hc.2))
end Xv
namespace Gn
open PySem PySem.Spec PyProof.Rows L2 Dr Xv LamX Ps
def qL : Str := "law.<locals>.<lambda>"
/-- an error class of the program's own -/
structure ErrT (K : PySem.W.Frag) (C S : Addr) : Prop where
  x : PySem.W.excIn K C [.type "ValueError", .type "Exception", .type "BaseException", .type "object"] "ValueError.__new__" = true
  k : PySem.W.keepIn K (.ref C) = true
  b : PySem.W.subIn K (.ref C) (.type "BaseException") = some true
  t : PySem.W.typeIn K (.ref C) = some (.type "type")
  m : PySem.W.exmOne K (.ref C) (.ref S) = some true
  e : ExcC K C
  i : PySem.W.kitOne K (.ref C) (.ref C) = some true
def rowOf (n : Nat) (b : S) : List V := ((List.range n).map b).map V.int
inductive PV (H : Hp) : V → Prop
  | non : PV H .non
  | bl (b : Bool) : PV H (.bl b)
  | int (i : Int) : PV H (.int i)
  | str (x : Str) : PV H (.str x)
  | lst {a : Addr} {xs : List V} : H a = some (.lst xs) → PV H (.ref a)
  | tup {a : Addr} {xs : List V} : H a = some (.tup xs) → PV H (.ref a)
  | dK {a : Addr} {kvs : List (Key × V)} : H a = some (.dK kvs) → PV H (.ref a)
theorem PV.same {H H' : Hp} {x : V} (h : PV H x) (s : Same H H') : PV H' x := by
  cases h with
  | non => exact .non
  | bl b => exact .bl b
  | int i => exact .int i
  | str x => exact .str x
  | lst e => exact .lst (s _ _ e)
  | tup e => exact .tup (s _ _ e)
  | dK e => exact .dK (s _ _ e)
def isNum : V → Bool
  | .int _ => true
  | _ => false
def kInt : V → Bool
  | .int _ => true
  | .bl _ => true
  | _ => false
def kBool : V → Bool
  | .bl _ => true
  | _ => false
theorem PV.ty {K : PySem.W.Frag} {H : Hp} {x : V} (h : PV H x) : ∃ t, TyX K H x t ∧ PySem.W.kitOne K t (.type "int") = some (kInt x) ∧ PySem.W.kitOne K t (.type "bool") = some (kBool x) := by
  cases h with
  | non => exact ⟨_, .base .non, kit_ty (r := false) (by decide +kernel), kit_ty (r := false) (by decide +kernel)⟩
  | bl b => exact ⟨_, .base (.bl b), kit_ty (r := true) (by decide +kernel), kit_ty (r := true) (by decide +kernel)⟩
  | int i => exact ⟨_, .base (.int i), kit_ty (r := true) (by decide +kernel), kit_ty (r := false) (by decide +kernel)⟩
  | str x => exact ⟨_, .base (.str x), kit_ty (r := false) (by decide +kernel), kit_ty (r := false) (by decide +kernel)⟩
  | lst e => exact ⟨_, .base (.lst e), kit_ty (r := false) (by decide +kernel), kit_ty (r := false) (by decide +kernel)⟩
  | tup e => exact ⟨_, .base (.tup e), kit_ty (r := false) (by decide +kernel), kit_ty (r := false) (by decide +kernel)⟩
  | dK e => exact ⟨_, .base (.dK e), kit_ty (r := false) (by decide +kernel), kit_ty (r := false) (by decide +kernel)⟩
theorem kInt_num (x : V) : (kInt x && !kBool x) = isNum x := by
  cases x <;> rfl
def within (x : V) (lo hi : Int) : Bool := match x with
  | .int i => decide (lo ≤ i) && decide (i ≤ hi)
  | _ => false
inductive Items (H : Hp) : V → Option (List V) → Prop
  | non : Items H .non none
  | bl (b : Bool) : Items H (.bl b) none
  | int (i : Int) : Items H (.int i) none
  | str (x : Str) : Items H (.str x) none
  | lst {a : Addr} {xs : List V} : H a = some (.lst xs) → Items H (.ref a) (some xs)
  | tup {a : Addr} {xs : List V} : H a = some (.tup xs) → Items H (.ref a) (some xs)
  | dK {a : Addr} {kvs : List (Key × V)} : H a = some (.dK kvs) → Items H (.ref a) none
theorem Items.same {H H' : Hp} {x : V} {o : Option (List V)} (h : Items H x o) (s : Same H H') : Items H' x o := by
  cases h with
  | non => exact .non
  | bl b => exact .bl b
  | int i => exact .int i
  | str x => exact .str x
  | lst e => exact .lst (s _ _ e)
  | tup e => exact .tup (s _ _ e)
  | dK e => exact .dK (s _ _ e)
theorem Items.pv {H : Hp} {x : V} {o : Option (List V)} (h : Items H x o) : PV H x := by
  cases h with
  | non => exact .non
  | bl b => exact .bl b
  | int i => exact .int i
  | str x => exact .str x
  | lst e => exact .lst e
  | tup e => exact .tup e
  | dK e => exact .dK e
def AllPV (H : Hp) (o : Option (List V)) : Prop := ∀ xs, o = some xs → ∀ v ∈ xs, PV H v
theorem AllPV.same {H H' : Hp} {o : Option (List V)} (h : AllPV H o) (s : Same H H') : AllPV H' o := fun xs e v hv => (h xs e v hv).same s
theorem take_snoc {α β : Type} {f : α → β} {xs : List α} {i : Nat} {x : α} (h : xs[i]? = some x) : (xs.take i).map f ++ [f x] = (xs.take (i + 1)).map f := by
  obtain ⟨hi, e⟩ := List.getElem?_eq_some_iff.mp h
  rw [List.take_succ, h]
  simp
theorem take_len {α β : Type} {f : α → β} {xs : List α} {i : Nat} : ((xs.take i).map f).length ≤ xs.length := by
  rw [List.length_map, List.length_take]
  omega
def itemsOk (x : Option (List V)) : Bool := match x with
  | some xs => xs.all isNum
  | none => false
def short (o : Option (List V)) : Prop := ∀ xs, o = some xs → xs.length < sizeLine
theorem isi_seq {K : PySem.W.Frag} {H : Hp} {x : V} {o : Option (List V)} (h : Items H x o) : ∃ t, TyX K H x t ∧ PySem.W.kitAny K t [.type "list", .type "tuple"] = some o.isSome := by
  cases h with
  | non => exact ⟨_, .base .non, kitAny_cons (b := false) (kit_ty (by decide +kernel)) (fun _ => kitAny_cons (b := false) (kit_ty (by decide +kernel)) (fun _ => rfl) (fun z => nomatch z)) (fun z => nomatch z)⟩
  | bl b => exact ⟨_, .base (.bl b), kitAny_cons (b := false) (kit_ty (by decide +kernel)) (fun _ => kitAny_cons (b := false) (kit_ty (by decide +kernel)) (fun _ => rfl) (fun z => nomatch z)) (fun z => nomatch z)⟩
  | int i => exact ⟨_, .base (.int i), kitAny_cons (b := false) (kit_ty (by decide +kernel)) (fun _ => kitAny_cons (b := false) (kit_ty (by decide +kernel)) (fun _ => rfl) (fun z => nomatch z)) (fun z => nomatch z)⟩
  | str x => exact ⟨_, .base (.str x), kitAny_cons (b := false) (kit_ty (by decide +kernel)) (fun _ => kitAny_cons (b := false) (kit_ty (by decide +kernel)) (fun _ => rfl) (fun z => nomatch z)) (fun z => nomatch z)⟩
  | lst e => exact ⟨_, .base (.lst e), kitAny_cons (b := true) (kit_ty (by decide +kernel)) (fun z => nomatch z) (fun _ => rfl)⟩
  | tup e => exact ⟨_, .base (.tup e), kitAny_cons (b := false) (kit_ty (by decide +kernel)) (fun _ => kitAny_cons (b := true) (kit_ty (by decide +kernel)) (fun z => nomatch z) (fun _ => rfl)) (fun z => nomatch z)⟩
  | dK e => exact ⟨_, .base (.dK e), kitAny_cons (b := false) (kit_ty (by decide +kernel)) (fun _ => kitAny_cons (b := false) (kit_ty (by decide +kernel)) (fun _ => rfl) (fun z => nomatch z)) (fun z => nomatch z)⟩
def isRow (o : Option (List V)) : Bool := match o with
  | some xs => xs.all isNum && (decide (1 ≤ (xs.length : Int)) && decide ((xs.length : Int) ≤ 3001))
  | none => false
def fnL (ns : List Int) : S := fun i => ns.getD i 0
def tms (f : S) (N : Nat) : List Nat := (List.range N).filter fun i => decide (0 < i) && decide (f i ≠ 0)
theorem tms_succ (f : S) (N : Nat) : tms f (N + 1) = tms f N ++ (if 0 < N ∧ f N ≠ 0 then [N] else []) := by
  unfold tms
  rw [List.range_succ, List.filter_append]
  congr 1
  by_cases h : 0 < N ∧ f N ≠ 0
  · rw [if_pos h, List.filter_cons_of_pos (by simp [h.1, h.2])]
    rfl
  · rw [if_neg h, List.filter_cons_of_neg (by
      simp only [Bool.and_eq_true, decide_eq_true_eq]
      exact h)]
    rfl
theorem tms_lt {f : S} {N i : Nat} (h : i ∈ tms f N) : i < N ∧ 0 < i := by
  unfold tms at h
  rw [List.mem_filter, List.mem_range] at h
  simp only [Bool.and_eq_true, decide_eq_true_eq] at h
  exact ⟨h.1, h.2.1⟩
theorem tms_split (f : S) (n : Nat) : ∀ k, ∃ r, tms f (n + 1 + k) = tms f (n + 1) ++ r ∧ ∀ i ∈ r, n < i
  | 0 => ⟨[], (List.append_nil _).symm, fun i h => by cases h⟩
  | k + 1 => by
    obtain ⟨r, e, h⟩ := tms_split f n k
    refine ⟨r ++ (if 0 < n + 1 + k ∧ f (n + 1 + k) ≠ 0 then [n + 1 + k] else []), ?_, fun i hi => ?_⟩
    · show tms f (n + 1 + k + 1) = _
      rw [tms_succ, e, List.append_assoc]
    · rcases List.mem_append.mp hi with z | z
      · exact h i z
      · split at z
        · rw [List.mem_singleton.mp z]
          omega
        · cases z
theorem tms_sum (f g : S) (hg : ∀ i, f i = 0 → g i = 0) : ∀ n, ((tms f (n + 1)).map g).sum = sm (fun i => g (i + 1)) n
  | 0 => by
    rw [tms_succ]
    show (List.map g ([] ++ _)).sum = 0
    rw [if_neg (by omega)]
    rfl
  | n + 1 => by
    rw [tms_succ, List.map_append, List.sum_append, tms_sum f g hg n]
    show _ = sm (fun i => g (i + 1)) n + g (n + 1)
    congr 1
    by_cases h : f (n + 1) ≠ 0
    · rw [if_pos ⟨by omega, h⟩]
      show g (n + 1) + 0 = _
      omega
    · rw [if_neg (fun z => h z.2), hg (n + 1) (by simpa using h)]
      rfl
theorem take_sum {g : S} {l : List Nat} {j x : Nat} (h : l[j]? = some x) : ((l.take (j + 1)).map g).sum = ((l.take j).map g).sum + g x := by
  rw [List.take_succ, h]
  show ((l.take j ++ [x]).map g).sum = _
  rw [List.map_append, List.sum_append]
  show _ + (g x + 0) = _
  omega
theorem cut_at {A r : List Nat} {N m i : Nat} (hA : ∀ x ∈ A, x ≤ N) (hr : ∀ x ∈ r, N < x) (h : (A ++ r)[m]? = some i) (hi : N < i) (hle : ∀ x ∈ (A ++ r).take m, x ≤ N) : (A ++ r).take m = A := by
  have hm := (List.getElem?_eq_some_iff.mp h).1
  rw [List.length_append] at hm
  have l1 : A.length ≤ m := by
    refine Nat.le_of_not_lt fun hlt => ?_
    rw [List.getElem?_append_left hlt] at h
    have := hA i (List.mem_of_getElem? h)
    omega
  have l2 : m ≤ A.length := by
    refine Nat.le_of_not_lt fun hlt => ?_
    have h0 : 0 < r.length := by omega
    have e : ((A ++ r).take m)[A.length]? = some r[0] := by
      rw [List.getElem?_take, if_pos hlt, List.getElem?_append_right (Nat.le_refl _), Nat.sub_self]
      simp [h0]
    have h1 := hle _ (List.mem_of_getElem? e)
    have h2 := hr r[0] (List.getElem_mem h0)
    omega
  have e : m = A.length := by omega
  rw [e, List.take_left]
theorem cut_end {A r : List Nat} {N : Nat} (hr : ∀ x ∈ r, N < x) (hle : ∀ x ∈ (A ++ r).take (A ++ r).length, x ≤ N) : A ++ r = A := by
  rw [List.take_length] at hle
  cases r with
  | nil => exact List.append_nil _
  | cons x s =>
    have h1 := hle x (by simp)
    have h2 := hr x (by simp)
    omega
theorem iteF' {b : Bool} {A B : Prop} (h : b = false) (q : B) : if b = true then A else B := by
  rw [h]
  exact iteF q
theorem iteT' {b : Bool} {A B : Prop} (h : b = true) (q : A) : if b = true then A else B := by
  rw [h]
  exact iteT q
theorem inV_pm (z : Int) : inV (.int z) [.int 1, .int (-1)] = decide (z = 1 ∨ z = -1) := by
  have e : inV (.int z) [.int 1, .int (-1)] = ((1 == z) || ((-1 == z) || false)) := by
    first
      | rfl
      | (simp [inV, eqV])
  rw [e]
  by_cases h1 : z = 1
  · subst h1
    rfl
  · by_cases h2 : z = -1
    · subst h2
      rfl
    · have e1 : (1 == z) = false := by simpa using fun h => h1 h.symm
      have e2 : (-1 == z) = false := by simpa using fun h => h2 h.symm
      rw [e1, e2, decide_eq_false (fun h => h.elim h1 h2)]
      rfl
theorem items_ref {H : Hp} {x : V} {xs : List V} (h : Items H x (some xs)) : ∃ a, x = .ref a ∧ (H a = some (.lst xs) ∨ H a = some (.tup xs)) := by
  cases h with
  | lst e => exact ⟨_, rfl, .inl e⟩
  | tup e => exact ⟨_, rfl, .inr e⟩
theorem hat {ns : List Int} {i : Nat} (hi : i < ns.length) : (ns.map V.int)[i]? = some (.int (fnL ns i)) := by
  rw [List.getElem?_map]
  unfold fnL
  rw [List.getD_eq_getElem?_getD]
  simp [hi]
theorem nums_of : ∀ {xs : List V}, xs.all isNum = true → ∃ ns : List Int, xs = ns.map V.int
  | [], _ => ⟨[], rfl⟩
  | x :: r, h => by
    rw [List.all_cons, Bool.and_eq_true] at h
    obtain ⟨ns, rfl⟩ := nums_of h.2
    cases x with
    | int z => exact ⟨z :: ns, rfl⟩
    | _ => cases h.1
theorem isRow_ints {o : Option (List V)} (h : isRow o = true) : ∃ ns : List Int, o = some (ns.map V.int) ∧ 1 ≤ ns.length ∧ ns.length ≤ 3001 := by
  cases o with
  | none => cases h
  | some xs =>
    have e1 : (xs.all isNum && (decide (1 ≤ (xs.length : Int)) && decide ((xs.length : Int) ≤ 3001))) = true := h
    simp only [Bool.and_eq_true, decide_eq_true_eq] at e1
    obtain ⟨ns, rfl⟩ := nums_of e1.1
    rw [List.length_map] at e1
    exact ⟨ns, rfl, by omega, by omega⟩
theorem within_int {m : V} {lo hi : Int} (h : within m lo hi = true) : ∃ i, m = .int i ∧ lo ≤ i ∧ i ≤ hi := by
  cases m with
  | int i =>
    have e : (decide (lo ≤ i) && decide (i ≤ hi)) = true := h
    simp only [Bool.and_eq_true, decide_eq_true_eq] at e
    exact ⟨i, rfl, e.1, e.2⟩
  | _ => cases h
theorem fnL_out {ns : List Int} {i : Nat} (h : ns.length ≤ i) : fnL ns i = 0 := by
  unfold fnL
  rw [List.getD_eq_getElem?_getD, List.getElem?_eq_none h]
  rfl
theorem tn {σ : L2.St} {H : Hp} {Q : List V → Hp → Prop} (h : Q [] H) : tNil σ H Q := h
theorem tn0 {v : V} {σ : L2.St} {H : Hp} {Q : List V → Hp → Prop} (h : Q [v] H) : tCons (tC v) tNil σ H Q := h
def zer (n : Nat) : List V := List.replicate n (.int 0)
theorem rep1 {x : V} : ∀ n : Nat, (List.replicate n [x]).flatten = List.replicate n x
  | 0 => rfl
  | n + 1 => by
    rw [List.replicate_succ, List.flatten_cons, rep1 n, List.replicate_succ]
    rfl
theorem row_ext {n : Nat} {b b' : S} (h : ∀ i, i < n → b i = b' i) : rowOf n b = rowOf n b' := by
  unfold rowOf
  congr 1
  exact List.map_congr_left fun i hi => h i (List.mem_range.mp hi)
theorem row_zero {n : Nat} {b : S} (h : ∀ i, i < n → b i = 0) : rowOf n b = zer n := by
  unfold rowOf zer
  refine List.eq_replicate_iff.mpr ⟨by simp, fun v hv => ?_⟩
  obtain ⟨z, hz, rfl⟩ := List.mem_map.mp hv
  obtain ⟨i, hi, rfl⟩ := List.mem_map.mp hz
  rw [h i (List.mem_range.mp hi)]
theorem row_one {n : Nat} (h : 1 ≤ n) : rowOf n one = .int 1 :: zer (n - 1) := by
  obtain ⟨m, rfl⟩ : ∃ m, n = m + 1 := ⟨n - 1, by omega⟩
  unfold rowOf
  rw [List.range_succ_eq_map, List.map_cons, List.map_cons]
  congr 1
  show List.map V.int (List.map one (List.map Nat.succ (List.range m))) = zer (m + 1 - 1)
  refine List.eq_replicate_iff.mpr ⟨by simp, fun v hv => ?_⟩
  obtain ⟨z, hz, rfl⟩ := List.mem_map.mp hv
  obtain ⟨i, hi, rfl⟩ := List.mem_map.mp hz
  obtain ⟨j, _, rfl⟩ := List.mem_map.mp hi
  rfl
theorem row_split {z n : Nat} {b c : S} (h0 : ∀ i, i < z → b i = 0) (h1 : ∀ i, i < n → b (z + i) = c i) : rowOf (z + n) b = zer z ++ rowOf n c := by
  unfold rowOf
  rw [List.range_add, List.map_append, List.map_append]
  congr 1
  · exact row_zero h0
  · refine congrArg (List.map V.int) ?_
    rw [List.map_map]
    exact List.map_congr_left fun i hi => h1 i (List.mem_range.mp hi)
theorem fnL_drop (ns : List Int) (z i : Nat) : fnL (ns.drop z) i = fnL ns (z + i) := by
  unfold fnL
  rw [List.getD_eq_getElem?_getD, List.getD_eq_getElem?_getD, List.getElem?_drop]
theorem fnL_take {ns : List Int} {m i : Nat} (h : i < m) : fnL (ns.take m) i = fnL ns i := by
  unfold fnL
  rw [List.getD_eq_getElem?_getD, List.getD_eq_getElem?_getD, List.getElem?_take, if_pos h]
theorem fnL_sh {ns : List Int} {z : Nat} (h : ∀ i, i < z → fnL ns i = 0) : fnL ns = sh z (fnL (ns.drop z)) := by
  funext i
  unfold sh
  by_cases c : i < z
  · rw [if_pos c, h i c]
  · rw [if_neg c, fnL_drop]
    congr 1
    omega
theorem cut_mid {ns : List Int} {i j : Nat} (h1 : i ≤ ns.length) (h2 : j ≤ ns.length) : cutV (ns.map V.int) (some (i : Int)) (some (j : Int)) = ((ns.drop i).take (j - i)).map V.int := by
  have hi : HT.sIx (ns.map V.int).length 0 (some (i : Int)) = i := by
    rw [List.length_map, HT.sIx_nat]
    omega
  have hj : HT.sIx (ns.map V.int).length (ns.map V.int).length (some (j : Int)) = j := by
    rw [List.length_map, HT.sIx_nat]
    omega
  unfold cutV
  rw [hi, hj, List.map_take, List.map_drop]
theorem blkOk_loc {N : List Str} {sc scope : Scope} {own : List (Str × Nat)} (h : blkC N scope scope own = true) (hf : (scope.names.all fun y => !decide (y.2 = NameKind.free)) = true) : BlkOk N sc scope own := by
  have b := blkOk_by h
  refine ⟨b.kind, b.uniq, b.ix, fun y hy e => ?_, b.own⟩
  have z := List.all_eq_true.mp hf y hy
  rw [decide_eq_true e] at z
  cases z
theorem row_get {n i : Nat} {b : S} (h : i < n) : (rowOf n b)[i]? = some (.int (b i)) := by
  unfold rowOf
  rw [List.getElem?_map, List.getElem?_map, List.getElem?_range h]
  rfl
theorem row_len {n : Nat} {b : S} : (rowOf n b).length = n := by
  unfold rowOf
  rw [List.length_map, List.length_map, List.length_range]
theorem row_succ {n : Nat} {b : S} : rowOf (n + 1) b = rowOf n b ++ [.int (b n)] := by
  unfold rowOf
  rw [List.range_succ, List.map_append, List.map_append]
  rfl
theorem row_self (ns : List Int) : rowOf ns.length (fnL ns) = ns.map V.int := by
  unfold rowOf
  congr 1
  refine List.ext_getElem (by simp) fun i h1 h2 => ?_
  simp at h1
  simp [fnL, h1]
theorem sum_sm (h : S) : ∀ n, ((List.range n).map h).sum = sm h n
  | 0 => rfl
  | n + 1 => by
    rw [List.range_succ, List.map_append, List.sum_append, sum_sm h n]
    show sm h n + (h n + 0) = sm h n + h n
    omega
theorem back_get {ms : List Int} {m i j : Nat} (hm : m ≤ ms.length) (hi : i < m) (hj : j ≤ i) : ((((ms.take m).reverse).drop (m - 1 - i)).map V.int)[j]? = some (.int (fnL ms (i - j))) := by
  have hl : (ms.take m).length = m := by
    rw [List.length_take]
    omega
  rw [List.getElem?_map, List.getElem?_drop, List.getElem?_reverse (by rw [hl]; omega), hl, List.getElem?_take, if_pos (by omega)]
  have e : m - 1 - (m - 1 - i + j) = i - j := by omega
  rw [e]
  unfold fnL
  rw [List.getD_eq_getElem?_getD]
  have h2 : i - j < ms.length := by omega
  simp [h2]
theorem back_len {ms : List Int} {m i : Nat} (hm : m ≤ ms.length) (hi : i < m) : ((((ms.take m).reverse).drop (m - 1 - i)).map V.int).length = i + 1 := by
  rw [List.length_map, List.length_drop, List.length_reverse, List.length_take]
  omega
theorem cut_head {ns : List Int} {m : Nat} (h : m ≤ ns.length) : cutV (ns.map V.int) none (some (m : Int)) = (ns.take m).map V.int := by
  unfold cutV
  rw [HT.sIx_none, HT.sIx_nat, List.length_map, Nat.sub_zero, List.drop_zero, Nat.min_eq_left h, List.map_take]
theorem cut_tail {ns : List Int} {i : Nat} : cutV (ns.map V.int) (some (i : Int)) none = (ns.drop i).map V.int := by
  unfold cutV
  rw [HT.sIx_none, HT.sIx_nat, List.length_map, List.map_drop]
  by_cases h : i ≤ ns.length
  · rw [Nat.min_eq_left h]
    refine List.take_of_length_le ?_
    rw [List.length_drop, List.length_map]
    omega
  · rw [Nat.min_eq_right (by omega), List.drop_eq_nil_of_le (by rw [List.length_map]; exact Nat.le_refl _), List.drop_eq_nil_of_le (by rw [List.length_map]; omega)]
    exact List.take_nil
def accS (f g : S) (i : Nat) : S := fun n => sm (fun k => if k ≤ n then f k * g (n - k) else 0) i
theorem acc_step {f g : S} {i n : Nat} : accS f g (i + 1) n = accS f g i n + (if i ≤ n then f i * g (n - i) else 0) := rfl
theorem acc_end {f g : S} {N n : Nat} (h : n < N) : accS f g N n = cv f g n := by
  unfold accS cv
  have e : N = (n + 1) + (N - (n + 1)) := by omega
  rw [e, sm_split]
  have e2 : sm (fun i => if n + 1 + i ≤ n then f (n + 1 + i) * g (n - (n + 1 + i)) else 0) (N - (n + 1)) = 0 := by
    refine Eq.trans (sm_congr _ fun i _ => ?_) (sm_zero _)
    rw [if_neg (by omega)]
  rw [e2, Int.add_zero]
  exact sm_congr _ fun i hi => by rw [if_pos (by omega)]
theorem row_set {N m : Nat} {b c : S} {z : Int} (hm : m < N) (h1 : c m = z) (h2 : ∀ i, i < N → i ≠ m → c i = b i) : (rowOf N b).set m (.int z) = rowOf N c := by
  refine List.ext_getElem? fun i => ?_
  rw [List.getElem?_set]
  by_cases e : m = i
  · subst e
    rw [if_pos rfl, if_pos (by rw [row_len]; exact hm), row_get hm, h1]
  · rw [if_neg e]
    by_cases hi : i < N
    · rw [row_get hi, row_get hi, h2 i hi (fun h => e h.symm)]
    · rw [List.getElem?_eq_none (by rw [row_len]; omega), List.getElem?_eq_none (by rw [row_len]; omega)]
theorem fnL_row {n : Nat} {b : S} {i : Nat} : fnL ((List.range n).map b) i = if i < n then b i else 0 := by
  unfold fnL
  rw [List.getD_eq_getElem?_getD, List.getElem?_map]
  by_cases h : i < n
  · rw [List.getElem?_range h, if_pos h]
    rfl
  · rw [List.getElem?_eq_none (by rw [List.length_range]; omega), if_neg h]
    rfl
theorem freeX {H H1 : Hp} {d l D : Addr} (s : SameX d l H H1) (n : H1 D = none) (nd : D ≠ d) (nl : D ≠ l) : H D = none := by
  cases e : H D with
  | none => rfl
  | some o =>
    rw [s _ _ e nd nl] at n
    cases n
def gR {α : Type} (us ws : List α) : List α := match us with
  | [] => ws.reverse
  | _ => []
theorem kbR {K : PySem.W.Frag} {x qual : Str} {params : Arguments} {body : List Stmt} {scope : Scope} {kws : List (Str × V)} {f : Addr} {fd : FuncData} {ps : List Str} (F : FunD K x qual params body scope [] kws f fd) (hps : ps ≠ [])
    (h : ∀ (kV doc pm : Value) (an : Option Addr) (cdv ct : Value) (ws : List Value), ws.length = ps.length → bindArgs (PySem.W.fnOf x qual params body scope .none kV doc pm an cdv ct) ⟨[], ps.reverse.zip ws⟩ = pure (ps.zip ws.reverse)) : KBinds K fd ps ps.reverse gR gR := by
  obtain ⟨oc, od, dV, kV, doc, pm, an, cdv, ct, osl, rfl, lk, hcd, hD, hK⟩ := F.ex
  refine ⟨fun s us ws hK' hl => ?_, fun {vs us zs ws} r1 r2 => ?_⟩
  · cases us with
    | cons u r =>
      exact absurd (List.length_eq_zero_iff.mp hl.symm) hps
    | nil =>
      rcases hD with ⟨_, rfl⟩ | ⟨e, _⟩
      · refine BindsTo.of_eq (h kV doc pm an cdv ct ws ?_)
        rw [← hl]
        exact (List.length_reverse).symm
      · exact absurd rfl e
  · cases r1 with
    | nil => exact r2.reverse
    | cons _ _ => exact .nil
def noArgs : Arguments := { posonlyargs := [], args := [], vararg := none, kwonlyargs := [], kw_defaults := [], kwarg := none, defaults := [] }
structure Own (H : Hp) (d l p : Addr) (xs : List V) : Prop where
  at_ : H p = some (.lst xs)
  nd : p ≠ d
  nl : p ≠ l
structure Wd (Pt : Addr) (H : Hp) (d l c : Addr) : Prop where
  dr : Draw H d l c
  tb : Tabs [(Pt, qL)] H
variable {H H' : Hp} {d l c p Pt : Addr} {xs : List V} {o : HO}
theorem Own.same (h : Own H d l p xs) (s : Same H H') : Own H' d l p xs := ⟨s _ _ h.at_, h.nd, h.nl⟩
theorem Own.sx (h : Own H d l p xs) (s : SameX d l H H') : Own H' d l p xs := ⟨s _ _ h.at_ h.nd h.nl, h.nd, h.nl⟩
theorem Own.ext (h : Own H d l p xs) (s : ExtN H H') : Own H' d l p xs := ⟨s _ _ h.at_ (fun ps z => by cases z), h.nd, h.nl⟩
theorem Own.new (D : Draw H d l c) (n : H p = none) : Own (upd H p (.lst xs)) d l p xs := ⟨upd_same, (D.ne n).1, (D.ne n).2.1⟩
theorem Wd.same (W : Wd Pt H d l c) (s : Same H H') : Wd Pt H' d l c := ⟨W.dr.same s, W.tb.ext s⟩
theorem Wd.sx (W : Wd Pt H d l c) (s : SameX d l H H') (D : Draw H' d l c) : Wd Pt H' d l c := by
  refine ⟨D, fun p hp => ?_⟩
  obtain ⟨ls, cs, r, t, D0⟩ := W.dr
  obtain ⟨ps, h1, h2, h3⟩ := W.tb p hp
  refine ⟨ps, s _ _ h1 (ne_of h1 D0.dd (fun z => by cases z)) (ne_of h1 D0.dl (fun z => by cases z)), h2, fun pos cv hc => ?_⟩
  obtain ⟨k, e1, e2⟩ := h3 pos cv hc
  refine ⟨k, e1, s _ _ e2 (ne_of e2 D0.dd (fun z => ?_)) (ne_of e2 D0.dl (fun z => ?_))⟩
  · unfold CodeO at z
    cases z
  · unfold CodeO at z
    cases z
theorem Draw.ext (D : Draw H d l c) (s : ExtN H H') : Draw H' d l c := by
  obtain ⟨ls, cs, r, t, D0⟩ := D
  exact ⟨ls, cs, r, t, s _ _ D0.dd (fun ps z => by cases z), s _ _ D0.dl (fun ps z => by cases z), s _ _ D0.dc (fun ps z => by cases z), D0.lc⟩
theorem Wd.upd {Pt d l c D' : Addr} {xs ys : List V} (W : Wd Pt H d l c) (h : H D' = some (.lst xs)) (n1 : D' ≠ d) (n2 : D' ≠ l) (n3 : D' ≠ c) : Wd Pt (upd H D' (.lst ys)) d l c := by
  refine ⟨W.dr.put n1 n2 n3, fun p hp => ?_⟩
  obtain ⟨ps, h1, h2, h3⟩ := W.tb p hp
  refine ⟨ps, by rw [upd_ne (ne_of h1 h (fun z => by cases z))]; exact h1, h2, fun pos cv hc => ?_⟩
  obtain ⟨k, e1, e2⟩ := h3 pos cv hc
  have nk : k ≠ D' := ne_of e2 h (fun z => by
    unfold CodeO at z
    cases z)
  exact ⟨k, e1, by rw [upd_ne nk]; exact e2⟩
theorem Own.upd {d l p D' : Addr} {xs : List V} {o : HO} (O : Own H d l p xs) (h : p ≠ D') : Own (upd H D' o) d l p xs := ⟨by rw [upd_ne h]; exact O.at_, O.nd, O.nl⟩
theorem eq_no (ls : List Int) : (!PyData.eqv (.list (intsD ls)) (.list (intsD ls))) = false := by
  have e := SeqAt.eqv_refl (.list (intsD ls)) (show PyData.canLay0 (.list (intsD ls)) = true from ints_lay ls)
  rw [e]
  rfl
structure OwnO (H : Hp) (d l p : Addr) (o : HO) : Prop where
  at_ : H p = some o
  nd : p ≠ d
  nl : p ≠ l
  nt : ∀ ps, o ≠ .tbl ps
theorem OwnO.same (h : OwnO H d l p o) (s : Same H H') : OwnO H' d l p o := ⟨s _ _ h.at_, h.nd, h.nl, h.nt⟩
theorem OwnO.sx (h : OwnO H d l p o) (s : SameX d l H H') : OwnO H' d l p o := ⟨s _ _ h.at_ h.nd h.nl, h.nd, h.nl, h.nt⟩
theorem OwnO.ext (h : OwnO H d l p o) (s : ExtN H H') : OwnO H' d l p o := ⟨s _ _ h.at_ h.nt, h.nd, h.nl, h.nt⟩
theorem OwnO.new (D : Draw H d l c) (n : H p = none) (nt : ∀ ps, o ≠ .tbl ps) : OwnO (upd H p o) d l p o := ⟨upd_same, (D.ne n).1, (D.ne n).2.1, nt⟩
theorem OwnO.upd {D' : Addr} {o' : HO} (O : OwnO H d l p o) (h : p ≠ D') : OwnO (upd H D' o') d l p o := ⟨by rw [upd_ne h]; exact O.at_, O.nd, O.nl, O.nt⟩
theorem all_num (ns : List Int) : (ns.map V.int).all isNum = true := by
  rw [List.all_map]
  exact List.all_eq_true.mpr fun _ _ => rfl
theorem row_ints {ns : List Int} (h1 : 1 ≤ ns.length) (h2 : ns.length ≤ 3001) : isRow (some (ns.map V.int)) = true := by
  show ((ns.map V.int).all isNum && (decide (1 ≤ ((ns.map V.int).length : Int)) && decide (((ns.map V.int).length : Int) ≤ 3001))) = true
  rw [all_num, List.length_map, decide_eq_true (by omega : 1 ≤ (ns.length : Int)), decide_eq_true (by omega : (ns.length : Int) ≤ 3001)]
  rfl
theorem pv_ints {H : Hp} (ns : List Int) : AllPV H (some (ns.map V.int)) := by
  intro xs e v hv
  cases e
  obtain ⟨z, _, rfl⟩ := List.mem_map.mp hv
  exact .int z
theorem short_ints {ns : List Int} (h2 : ns.length ≤ 3001) : short (some (ns.map V.int)) := by
  intro xs e
  cases e
  rw [List.length_map, sizeLine_eq]
  omega
def Bd (ns : List Int) : Prop := ∀ i, (fnL ns i).natAbs < 2 ^ 90
theorem Bd.to {ns : List Int} (h : Bd ns) {k : Nat} (hk : 90 ≤ k) : ∀ i, (fnL ns i).natAbs < 2 ^ k := fun i => Nat.lt_of_lt_of_le (h i) (Nat.pow_le_pow_right (by decide) hk)
theorem Bd.mem {ns : List Int} (h : Bd ns) {z : Int} (hz : z ∈ ns) : z.natAbs < 2 ^ 90 := by
  obtain ⟨i, hi⟩ := List.mem_iff_getElem?.mp hz
  have e := h i
  unfold fnL at e
  rw [List.getD_eq_getElem?_getD, hi] at e
  exact e
theorem bd_of {ns : List Int} (h : ∀ z ∈ ns, z.natAbs < 2 ^ 90) : Bd ns := fun i => by
  by_cases hi : i < ns.length
  · unfold fnL
    rw [List.getD_eq_getElem?_getD, List.getElem?_eq_getElem hi]
    exact h _ (List.getElem_mem hi)
  · rw [fnL_out (by omega)]
    exact Nat.pow_pos (by decide)
theorem ints_inj {a b : List Int} (h : some (a.map V.int) = some (b.map V.int)) : a = b := by
  have h2 := congrArg (fun o => (o.getD []).filterMap (fun v => match v with | V.int z => some z | _ => none)) h
  simp only [Option.getD_some, List.filterMap_map] at h2
  have e : ∀ l : List Int, l.filterMap ((fun v => match v with | V.int z => some z | _ => none) ∘ V.int) = l := fun l => by
    induction l with
    | nil => rfl
    | cons z r ih => rw [List.filterMap_cons]; exact congrArg (z :: ·) ih
  rw [e, e] at h2
  exact h2
theorem within_yes {i lo hi : Int} (h1 : lo ≤ i) (h2 : i ≤ hi) : within (.int i) lo hi = true := by
  show (decide (lo ≤ i) && decide (i ≤ hi)) = true
  rw [decide_eq_true h1, decide_eq_true h2]
  rfl
end Gn

set_option Elab.async false
set_option linter.all false
set_option maxRecDepth 100000
set_option maxHeartbeats 4000000
/-! products of powers of 1 - q^n, and sums over divisors -/
namespace Ps
/-- 1 - q^n -/
def U (n : Nat) : S := fun i => if i = 0 then 1 else if i = n then -1 else 0
/-- its inverse -/
def G (n : Nat) : S := fun i => if n ∣ i then 1 else 0
/-- q^n / (1 - q^n) -/
def Ev (n : Nat) : S := fun i => if i ≠ 0 ∧ n ∣ i then 1 else 0
/-- q^n -/
def Xp (n : Nat) : S := fun i => if i = n then 1 else 0
theorem sm_one_at (f : S) {m : Nat} : ∀ N, m < N → (∀ i, i < N → i ≠ m → f i = 0) → sm f N = f m
  | 0, h, _ => absurd h (Nat.not_lt_zero _)
  | N + 1, h, h2 => by
    show sm f N + f N = f m
    by_cases e : m = N
    · subst e
      rw [sm_congr (g := fun _ => 0) m (fun i hi => h2 i (by omega) (by omega)), sm_zero]
      omega
    · rw [sm_one_at f N (by omega) (fun i hi hn => h2 i (by omega) hn), h2 N (by omega) (fun z => e z.symm)]
      omega
theorem cv_U {n : Nat} (hn : 0 < n) (f : S) : cv (U n) f = fun k => f k - (if n ≤ k then f (k - n) else 0) := by
  funext k
  unfold cv
  rw [sm_first]
  have e0 : U n 0 * f (k - 0) = f k := by
    show (1 : Int) * f (k - 0) = f k
    rw [Int.one_mul, Nat.sub_zero]
  rw [e0]
  by_cases h : n ≤ k
  · rw [if_pos h, sm_one_at (m := n - 1) (fun i => U n (i + 1) * f (k - (i + 1))) k (by omega) (fun i hi hne => ?_)]
    · show f k + U n (n - 1 + 1) * f (k - (n - 1 + 1)) = _
      have e1 : n - 1 + 1 = n := by omega
      rw [e1]
      have e2 : U n n = -1 := by
        unfold U
        rw [if_neg (by omega), if_pos rfl]
      rw [e2]
      omega
    · show U n (i + 1) * _ = 0
      have e2 : U n (i + 1) = 0 := by
        unfold U
        rw [if_neg (by omega), if_neg (by omega)]
      rw [e2, Int.zero_mul]
  · rw [if_neg h, sm_congr (g := fun _ => 0) k (fun i hi => ?_), sm_zero]
    · omega
    · show U n (i + 1) * _ = 0
      have e2 : U n (i + 1) = 0 := by
        unfold U
        rw [if_neg (by omega), if_neg (by omega)]
      rw [e2, Int.zero_mul]
theorem dvd_lt {n k : Nat} (h : k < n) : n ∣ k ↔ k = 0 := ⟨fun z => by
  rcases Nat.eq_zero_or_pos k with q | q
  · exact q
  · exact absurd (Nat.le_of_dvd q z) (by omega), fun z => by rw [z]; exact Nat.dvd_zero _⟩
theorem dvd_back {n k : Nat} (h : n ≤ k) : n ∣ k ↔ n ∣ k - n := ⟨fun z => Nat.dvd_sub z (Nat.dvd_refl n), fun z => by
  have z2 := Nat.dvd_add z (Nat.dvd_refl n)
  rwa [Nat.sub_add_cancel h] at z2⟩
theorem UG {n : Nat} (hn : 0 < n) : cv (U n) (G n) = one := by
  rw [cv_U hn]
  funext k
  show (if n ∣ k then (1 : Int) else 0) - (if n ≤ k then (if n ∣ k - n then 1 else 0) else 0) = if k = 0 then 1 else 0
  by_cases h : n ≤ k
  · rw [if_pos h, if_neg (by omega : ¬ k = 0)]
    by_cases d : n ∣ k
    · rw [if_pos d, if_pos ((dvd_back h).mp d)]
      rfl
    · rw [if_neg d, if_neg (fun z => d ((dvd_back h).mpr z))]
      rfl
  · rw [if_neg h]
    by_cases d : k = 0
    · rw [if_pos ((dvd_lt (by omega)).mpr d), if_pos d]
      rfl
    · rw [if_neg (fun z => d ((dvd_lt (by omega)).mp z)), if_neg d]
      rfl
theorem UE {n : Nat} (hn : 0 < n) : cv (U n) (Ev n) = Xp n := by
  rw [cv_U hn]
  funext k
  show (if k ≠ 0 ∧ n ∣ k then (1 : Int) else 0) - (if n ≤ k then (if k - n ≠ 0 ∧ n ∣ k - n then 1 else 0) else 0) = if k = n then 1 else 0
  by_cases h : n ≤ k
  · rw [if_pos h]
    by_cases d : n ∣ k
    · rw [if_pos ⟨by omega, d⟩]
      by_cases e : k = n
      · rw [if_pos e, if_neg (by omega)]
        rfl
      · rw [if_neg e, if_pos ⟨by omega, (dvd_back h).mp d⟩]
        rfl
    · rw [if_neg (fun z => d z.2), if_neg (fun z => d ((dvd_back h).mpr z.2)), if_neg (fun z => d (by rw [z]; exact Nat.dvd_refl _))]
      rfl
  · rw [if_neg h, if_neg (fun z => h (Nat.le_of_dvd (Nat.pos_of_ne_zero z.1) z.2)), if_neg (by omega)]
    rfl
theorem dvU {n : Nat} : dv (U n) = sc (-(n : Int)) (Xp n) := by
  funext i
  show (i : Int) * (if i = 0 then 1 else if i = n then -1 else 0) = -(n : Int) * (if i = n then 1 else 0)
  by_cases h : i = n
  · subst h
    rw [if_pos rfl, if_pos rfl]
    by_cases z : i = 0
    · rw [if_pos z]
      omega
    · rw [if_neg z]
      omega
  · rw [if_neg h, if_neg h]
    by_cases z : i = 0
    · rw [if_pos z]
      omega
    · rw [if_neg z]
      omega
theorem cancelU {n : Nat} (hn : 0 < n) {f g : S} (h : cv (U n) f = cv (U n) g) : f = g := by
  have e : ∀ z : S, cv (G n) (cv (U n) z) = z := fun z => by rw [← cv_assoc, cv_comm (G n), UG hn, one_cv]
  rw [← e f, h, e]
theorem ad_zero (f : S) : ad f (fun _ => 0) = f := by
  funext k
  show f k + 0 = f k
  omega
theorem dvG {n : Nat} (hn : 0 < n) : dv (G n) = cv (sc (n : Int) (Ev n)) (G n) := by
  refine cancelU hn ?_
  have h := dv_cv (U n) (G n)
  rw [UG hn, dv_one, dvU, ← UE hn, sc_cv] at h
  have e1 : cv (cv (U n) (Ev n)) (G n) = cv (U n) (cv (Ev n) (G n)) := cv_assoc _ _ _
  rw [e1] at h
  rw [sc_cv, cv_sc]
  funext k
  have hk := congrFun h k
  show cv (U n) (dv (G n)) k = (n : Int) * cv (U n) (cv (Ev n) (G n)) k
  have hk2 : (0 : Int) = -(n : Int) * cv (U n) (cv (Ev n) (G n)) k + cv (U n) (dv (G n)) k := hk
  rw [Int.neg_mul] at hk2
  omega
/-- the logarithmic slope of a is s -/
structure Lg (s a : S) : Prop where
  z : s 0 = 0
  d : dv a = cv s a
theorem Lg.one : Lg (fun _ => 0) one := ⟨rfl, by rw [dv_one, cv_comm, cv_zero]⟩
theorem ad_cv (f g h : S) : cv (ad f g) h = ad (cv f h) (cv g h) := by rw [cv_comm, cv_ad, cv_comm h f, cv_comm h g]
theorem Lg.pos {s a : S} (L : Lg s a) {n : Nat} (hn : 0 < n) : Lg (ad s (sc (n : Int) (Ev n))) (cv (G n) a) := by
  refine ⟨?_, ?_⟩
  · show s 0 + (n : Int) * (if (0 : Nat) ≠ 0 ∧ n ∣ 0 then 1 else 0) = 0
    rw [L.z, if_neg (fun z => z.1 rfl)]
    omega
  · rw [dv_cv, dvG hn, L.d, ad_cv, cv_assoc, ← cv_assoc (G n) s a, cv_comm (G n) s, cv_assoc]
    funext k
    show _ + _ = _ + _
    omega
theorem Lg.neg {s a : S} (L : Lg s a) {n : Nat} (hn : 0 < n) : Lg (ad s (sc (-(n : Int)) (Ev n))) (cv (U n) a) := by
  refine ⟨?_, ?_⟩
  · show s 0 + -(n : Int) * (if (0 : Nat) ≠ 0 ∧ n ∣ 0 then 1 else 0) = 0
    rw [L.z, if_neg (fun z => z.1 rfl)]
    omega
  · rw [dv_cv, dvU, L.d, ad_cv, ← UE hn, sc_cv, sc_cv, cv_assoc, cv_comm (U n) (cv s a), cv_assoc, cv_comm a (U n)]
    have e : cv (U n) (cv (Ev n) a) = cv (Ev n) (cv (U n) a) := by rw [← cv_assoc, cv_comm (U n), cv_assoc]
    rw [e]
    funext k
    show _ + _ = _ + _
    omega
/-- one factor to the power -p, laps done -/
def lapF (n : Nat) (p : Int) : Nat → S → S
  | 0, a => a
  | j + 1, a => if 0 < p then cv (G n) (lapF n p j a) else cv (U n) (lapF n p j a)
def prA (p : S) : Nat → S
  | 0 => one
  | j + 1 => lapF (j + 1) (p j) (p j).natAbs (prA p j)
/-- the weighted sum over divisors, the first j alone -/
def sS (p : S) : Nat → S
  | 0 => fun _ => 0
  | j + 1 => ad (sS p j) (sc (((j + 1 : Nat) : Int) * p j) (Ev (j + 1)))
theorem lg_lap {s a : S} (L : Lg s a) {n : Nat} (hn : 0 < n) (p : Int) : ∀ j, j ≤ p.natAbs → Lg (ad s (sc ((n : Int) * (if 0 < p then (j : Int) else -(j : Int))) (Ev n))) (lapF n p j a)
  | 0, _ => by
    have e : ad s (sc ((n : Int) * (if 0 < p then ((0 : Nat) : Int) else -((0 : Nat) : Int))) (Ev n)) = s := by
      funext k
      show s k + (n : Int) * (if 0 < p then (0 : Int) else -(0 : Int)) * _ = s k
      split <;> simp
    rw [e]
    exact L
  | j + 1, hj => by
    have L1 := lg_lap L hn p j (by omega)
    unfold lapF
    by_cases h : 0 < p
    · rw [if_pos h] at L1
      rw [if_pos h, if_pos h]
      have e : ad s (sc ((n : Int) * ((j + 1 : Nat) : Int)) (Ev n)) = ad (ad s (sc ((n : Int) * (j : Int)) (Ev n))) (sc (n : Int) (Ev n)) := by
        funext k
        show s k + (n : Int) * ((j + 1 : Nat) : Int) * Ev n k = s k + (n : Int) * (j : Int) * Ev n k + (n : Int) * Ev n k
        have e1 : ((j + 1 : Nat) : Int) = (j : Int) + 1 := by omega
        rw [e1, Int.mul_add, Int.mul_one, Int.add_mul]
        omega
      rw [e]
      exact L1.pos hn
    · rw [if_neg h] at L1
      rw [if_neg h, if_neg h]
      have e : ad s (sc ((n : Int) * -((j + 1 : Nat) : Int)) (Ev n)) = ad (ad s (sc ((n : Int) * -(j : Int)) (Ev n))) (sc (-(n : Int)) (Ev n)) := by
        funext k
        show s k + (n : Int) * -((j + 1 : Nat) : Int) * Ev n k = s k + (n : Int) * -(j : Int) * Ev n k + -(n : Int) * Ev n k
        have e1 : -((j + 1 : Nat) : Int) = -(j : Int) + -1 := by omega
        rw [e1, Int.mul_add, Int.add_mul, Int.mul_neg_one]
        omega
      rw [e]
      exact L1.neg hn
theorem lg_prA (p : S) : ∀ j, Lg (sS p j) (prA p j)
  | 0 => Lg.one
  | j + 1 => by
    have L := lg_lap (lg_prA p j) (n := j + 1) (by omega) (p j) (p j).natAbs (Nat.le_refl _)
    have e : (if 0 < p j then ((p j).natAbs : Int) else -((p j).natAbs : Int)) = p j := by
      split <;> omega
    rw [e] at L
    exact L
theorem lapF_at (n : Nat) (hn : 0 < n) (p : Int) (a : S) : ∀ j k, k < n → lapF n p j a k = a k
  | 0, _, _ => rfl
  | j + 1, k, hk => by
    have ih := lapF_at n hn p a j k hk
    unfold lapF
    split
    · have e : cv (U n) (cv (G n) (lapF n p j a)) k = lapF n p j a k := by rw [← cv_assoc, UG hn, one_cv]
      rw [cv_U hn] at e
      have e2 : cv (G n) (lapF n p j a) k - (if n ≤ k then cv (G n) (lapF n p j a) (k - n) else 0) = lapF n p j a k := e
      rw [if_neg (by omega)] at e2
      omega
    · rw [cv_U hn]
      show lapF n p j a k - (if n ≤ k then _ else 0) = _
      rw [if_neg (by omega)]
      omega
/-- the coefficient at n itself moves by the power -/
theorem lapF_self (n : Nat) (hn : 0 < n) (p : Int) (a : S) (h0 : a 0 = 1) : ∀ j, lapF n p j a n = a n + (if 0 < p then (j : Int) else -(j : Int))
  | 0 => by
    show a n = a n + _
    split <;> simp
  | j + 1 => by
    have ih := lapF_self n hn p a h0 j
    have z0 := lapF_at n hn p a j 0 hn
    have z1 := lapF_at n hn p a (j + 1) 0 hn
    have ec : ((j + 1 : Nat) : Int) = (j : Int) + 1 := by omega
    unfold lapF at z1 ⊢
    by_cases h : 0 < p
    · rw [if_pos h] at ih z1 ⊢
      rw [if_pos h]
      have e : cv (U n) (cv (G n) (lapF n p j a)) n = lapF n p j a n := by rw [← cv_assoc, UG hn, one_cv]
      rw [cv_U hn] at e
      have e2 : cv (G n) (lapF n p j a) n - (if n ≤ n then cv (G n) (lapF n p j a) (n - n) else 0) = lapF n p j a n := e
      rw [if_pos (Nat.le_refl _), Nat.sub_self, z1, h0] at e2
      omega
    · rw [if_neg h] at ih z1 ⊢
      rw [if_neg h, cv_U hn]
      show lapF n p j a n - (if n ≤ n then lapF n p j a (n - n) else 0) = _
      rw [if_pos (Nat.le_refl _), Nat.sub_self, z0, h0, ih]
      omega
theorem prA_zero (p : S) : ∀ j, prA p j 0 = 1
  | 0 => rfl
  | j + 1 => by
    show lapF (j + 1) (p j) (p j).natAbs (prA p j) 0 = 1
    rw [lapF_at (j + 1) (by omega) _ _ _ 0 (by omega), prA_zero p j]
/-- behind the first k factors nothing changes up to k -/
theorem prA_far (p : S) : ∀ j k, k ≤ j → prA p j k = prA p k k
  | 0, k, h => by
    have : k = 0 := by omega
    subst this
    rfl
  | j + 1, k, h => by
    by_cases e : k = j + 1
    · rw [e]
    · show lapF (j + 1) (p j) (p j).natAbs (prA p j) k = _
      rw [lapF_at (j + 1) (by omega) _ _ _ k (by omega), prA_far p j k (by omega)]
theorem prA_congr {p q : S} : ∀ j, (∀ i, i < j → p i = q i) → prA p j = prA q j
  | 0, _ => rfl
  | j + 1, h => by
    show lapF (j + 1) (p j) (p j).natAbs (prA p j) = lapF (j + 1) (q j) (q j).natAbs (prA q j)
    rw [h j (by omega), prA_congr j fun i hi => h i (by omega)]
theorem sS_congr {p q : S} : ∀ j, (∀ i, i < j → p i = q i) → sS p j = sS q j
  | 0, _ => rfl
  | j + 1, h => by
    show ad (sS p j) _ = ad (sS q j) _
    rw [h j (by omega), sS_congr j fun i hi => h i (by omega)]
theorem prA_tail {p : S} {m : Nat} (h : ∀ i, m ≤ i → p i = 0) : ∀ k, prA p (m + k) = prA p m
  | 0 => rfl
  | k + 1 => by
    show lapF (m + k + 1) (p (m + k)) (p (m + k)).natAbs (prA p (m + k)) = _
    rw [h (m + k) (by omega)]
    exact prA_tail h k
theorem sS_tail {p : S} {m : Nat} (h : ∀ i, m ≤ i → p i = 0) : ∀ k, sS p (m + k) = sS p m
  | 0 => rfl
  | k + 1 => by
    show ad (sS p (m + k)) (sc (((m + k + 1 : Nat) : Int) * p (m + k)) (Ev (m + k + 1))) = _
    rw [h (m + k) (by omega), sS_tail h k]
    funext i
    show _ + (_ * 0) * _ = _
    rw [Int.mul_zero, Int.zero_mul, Int.add_zero]
/-- each series that begins with 1 is such a product -/
def exps (a : S) : Nat → S
  | 0 => fun _ => 0
  | j + 1 => fun i => if i = j then a (j + 1) - prA (exps a j) j (j + 1) else exps a j i
theorem exps_lt (a : S) : ∀ j k i, i < j → exps a (j + k) i = exps a j i
  | j, 0, i, _ => rfl
  | j, k + 1, i, h => by
    show (if i = j + k then _ else exps a (j + k) i) = _
    rw [if_neg (by omega), exps_lt a j k i h]
theorem exps_ok (a : S) (h0 : a 0 = 1) : ∀ j k, k ≤ j → prA (exps a j) j k = a k
  | 0, k, h => by
    have : k = 0 := by omega
    subst this
    exact h0.symm
  | j + 1, k, h => by
    have e : prA (exps a (j + 1)) j = prA (exps a j) j := prA_congr j fun i hi => exps_lt a j 1 i hi
    have ep : exps a (j + 1) j = a (j + 1) - prA (exps a j) j (j + 1) := by
      show (if j = j then _ else _) = _
      rw [if_pos rfl]
    show lapF (j + 1) (exps a (j + 1) j) (exps a (j + 1) j).natAbs (prA (exps a (j + 1)) j) k = a k
    rw [e]
    by_cases hk : k = j + 1
    · subst hk
      rw [lapF_self (j + 1) (by omega) _ _ (prA_zero _ _), ep]
      split <;> omega
    · rw [lapF_at (j + 1) (by omega) _ _ _ k (by omega)]
      exact exps_ok a h0 j k (by omega)
/-- n a(n) is the sum of s(k) a(n - k) -/
theorem Lg.at_ {s a : S} (L : Lg s a) (n : Nat) : (n : Int) * a n = sm (fun i => s (i + 1) * a (n - (i + 1))) n := by
  have h := congrFun L.d n
  have h2 : (n : Int) * a n = sm (fun i => s i * a (n - i)) (n + 1) := h
  rw [sm_first, L.z, Int.zero_mul, Int.zero_add] at h2
  exact h2
end Ps

set_option Elab.async false
set_option linter.all false
set_option maxRecDepth 100000
set_option maxHeartbeats 4000000
set_option pp.maxSteps 3000
set_option exponentiation.threshold 500000
/-! ranges by a step, lists as rows -/
namespace Gn
open PySem PySem.Spec PyProof.Rows L2 Dr Xv LamX Ps
def upN (a b d : Nat) : Nat := if a < b then (b - a - 1) / d + 1 else 0
theorem lt_upN {a b d t : Nat} (hd : 0 < d) : t < upN a b d ↔ a + t * d < b := by
  unfold upN
  by_cases h : a < b
  · rw [if_pos h, Nat.lt_succ_iff, Nat.le_div_iff_mul_le hd]
    omega
  · rw [if_neg h]
    constructor
    · intro z; omega
    · intro z; omega
theorem upN_le {a b d : Nat} (hd : 0 < d) : upN a b d ≤ b - a := by
  unfold upN
  split
  · have := Nat.div_le_self (b - a - 1) d
    omega
  · omega
theorem rg_up {a b d : Nat} (hd : 0 < d) (h1 : a < 2 ^ 29) (h2 : b < 2 ^ 29) (h3 : d < 2 ^ 29) : RgC (a : Int) (b : Int) (d : Int) (upN a b d) := by
  have e29 : (2 : Nat) ^ 29 = 536870912 := by decide
  have hn : Builtin.Range.rangeSize (a : Int) (b : Int) (d : Int) = (upN a b d : Nat) := by
    unfold Builtin.Range.rangeSize upN
    rw [if_pos (by omega : (d : Int) > 0)]
    by_cases h : a < b
    · rw [if_pos h, if_pos (by omega : (a : Int) < (b : Int))]
      have e : (b : Int) - (a : Int) - 1 = ((b - a - 1 : Nat) : Int) := by omega
      rw [e]
      simp
    · rw [if_neg h, if_neg (by omega)]
      rfl
  refine ⟨by omega, by omega, ?_, hn⟩
  unfold Builtin.Range.small
  have hu : upN a b d ≤ b - a := upN_le hd
  have hle : a + upN a b d * d < b + d + 1 ∨ upN a b d = 0 := by
    cases hz : upN a b d with
    | zero => exact .inr rfl
    | succ t =>
      have z := (lt_upN hd).mp (by omega : t < upN a b d)
      rw [Nat.add_mul, Nat.one_mul]
      exact .inl (by omega)
  rw [hn]
  simp only [Builtin.Range.rangeFitsLong, Bool.and_eq_true, Bool.or_eq_true, decide_eq_true_eq, beq_iff_eq, show ((d : Int) > 0) by omega, if_true]
  refine ⟨⟨⟨⟨?_, ?_⟩, ?_⟩, ?_⟩, ?_⟩ <;> try omega
theorem log_small2 {n : Nat} (h : n ≤ 4000) : ((n : Int)).natAbs.log2 < 9000 := by
  have e : ((n : Int)).natAbs = n := by omega
  rw [e]
  by_cases z : n = 0
  · rw [z]
    decide
  · have k : n.log2 < 12 := (Nat.log2_lt z).mpr (by omega)
    omega
/-- all but p stays -/
def SameO (p : Addr) (H H' : Hp) : Prop := ∀ b o, H b = some o → b ≠ p → H' b = some o
section
variable {p q : Addr} {H H0 H1 H' : Hp} {o : HO}
theorem SameO.refl : SameO p H H := fun _ _ e _ => e
theorem SameO.trans (a : SameO p H H1) (b : SameO p H1 H') : SameO p H H' := fun c o e n => b c o (a c o e n) n
theorem SameO.of (a : Same H H') : SameO p H H' := fun c o e _ => a c o e
theorem SameO.put : SameO p H (upd H p o) := fun c o e n => by rw [upd_ne n]; exact e
theorem SameO.new (h : H q = none) : SameO p H (upd H q o) := .of (same_new h)
theorem SameO.back (a : SameO p H H') (s : Same H0 H) (h : H0 p = none) : Same H0 H' := fun c o e => a c o (s c o e) (ne_of_none e h)
theorem SameO.row {K : PySem.W.Frag} {a : Addr} {xs : List V} (s : SameO p H H') (h : H a = some (.lst xs)) (n : a ≠ p) : SqL K H' a xs := SqL.of (s _ _ h n)
end
theorem sqx {K : PySem.W.Frag} {H : Hp} {b : Addr} {xs : List V} {tup : Bool} (h : H b = some (if tup then .tup xs else .lst xs)) : if tup then SqT K H b xs else SqL K H b xs := by
  cases tup with
  | true => exact SqT.of h
  | false => exact SqL.of h
theorem row_val {N i : Nat} {b : S} (h : i < N) : atI (rowOf N b) (i : Int) = some (.int (b i)) := atI_nat (row_get h)
theorem row_at {N i : Nat} {b : S} (h : i < N) : ixN (rowOf N b).length (i : Int) = some i := by
  unfold ixN
  rw [if_pos (by omega), row_len, if_pos (by omega)]
  simp
theorem take_at {ns : List Int} {m i : Nat} (hi : i < (ns.take m).length) : ((ns.take m).map V.int)[i]? = some (.int (fnL ns i)) := by
  rw [List.length_take] at hi
  rw [List.getElem?_map, List.getElem?_take, if_pos (by omega)]
  unfold fnL
  rw [List.getD_eq_getElem?_getD]
  have h2 : i < ns.length := by omega
  simp [h2]
/-- a list or a tuple of these numbers -/
def SeqI (H : Hp) (a : Addr) (ns : List Int) : Prop := H a = some (.lst (ns.map V.int)) ∨ H a = some (.tup (ns.map V.int))
theorem SeqI.same {H H' : Hp} {a : Addr} {ns : List Int} (h : SeqI H a ns) (s : Same H H') : SeqI H' a ns := h.imp (s _ _) (s _ _)
theorem SeqI.ne {H : Hp} {a p : Addr} {ns : List Int} (h : SeqI H a ns) (n : H p = none) : a ≠ p := by
  rcases h with e | e
  · exact ne_of_none e n
  · exact ne_of_none e n
theorem SeqI.len {K : PySem.W.Frag} {H : Hp} {a : Addr} {ns : List Int} (h : SeqI H a ns) : LenV K (.ref a) H (ns.map V.int).length := by
  rcases h with e | e
  · exact .inl ⟨_, SqL.of e, rfl⟩
  · exact .inr ⟨_, SqT.of e, rfl⟩
/-- xs[:n] of a list or a tuple -/
def rHead : V → Option Int → Option Int → Hp → VK → Prop := fun x l u H Q => ∃ (a : Addr) (ns : List Int) (n : Nat), x = .ref a ∧ l = none ∧ u = some (n : Int) ∧ SeqI H a ns ∧
  ∀ (tup : Bool) (b : Addr) (H2 : Hp), (b = a ∨ H b = none) → Same H H2 → H2 b = some (if tup then .tup ((ns.take n).map V.int) else .lst ((ns.take n).map V.int)) → Q (.ref b) H2
theorem sl_head {X : Cx} : SlR X rHead := by
  have main : ∀ {x : V} {lo hi : Option Int} {H : Hp} {Q : VK}, rHead x lo hi H Q → rSlL X.K x lo hi H Q ∨ rSlA X.K x lo hi H Q := by
    rintro x lo hi H Q ⟨a, ns, n, rfl, rfl, rfl, ha, k⟩
    have ecut : cutV (ns.map V.int) none (some (n : Int)) = (ns.take n).map V.int := by
      unfold cutV
      rw [HT.sIx_none, HT.sIx_nat, List.length_map, Nat.sub_zero, List.drop_zero, ← List.map_take]
      congr 1
      by_cases h : n ≤ ns.length
      · rw [Nat.min_eq_left h]
      · rw [Nat.min_eq_right (by omega), List.take_of_length_le (Nat.le_refl _), List.take_of_length_le (by omega)]
    rcases ha with e | e
    · refine .inl ⟨a, _, rfl, SqL.of e, fun p hp => ?_⟩
      rw [ecut]
      exact k false p _ (.inr hp) (same_new hp) upd_same
    · refine .inr ⟨a, _, rfl, SqT.of e, fun hw => ?_, fun _ p hp => ?_⟩
      · have e2 : (ns.take n).map V.int = ns.map V.int := by
          have z := hw.2
          rw [HT.sIx_nat, List.length_map] at z
          rw [List.take_of_length_le (by omega)]
        exact k true a H (.inl rfl) (fun _ _ q => q) (by rw [e2]; exact e)
      · rw [ecut]
        exact k true p _ (.inr hp) (same_new hp) upd_same
  intro pins s σ H x v vl vu lo hi sl Q I rx hs pl pu q
  exact SlR.or (X := X) sl_list sl_tupA pins s σ H x v vl vu lo hi sl Q I rx hs pl pu (main q)
end Gn

set_option Elab.async false
set_option linter.all false
set_option maxRecDepth 100000
set_option maxHeartbeats 4000000
/-! bounds of products and of their sums -/
namespace Ps
theorem sS_bound {p : S} {c : Nat} (hp : ∀ i, (p i).natAbs ≤ c) : ∀ j k, (sS p j k).natAbs ≤ c * (j * (j + 1))
  | 0, k => by
    show (0 : Int).natAbs ≤ _
    exact Nat.zero_le _
  | j + 1, k => by
    have ih := sS_bound hp j k
    show (sS p j k + ((j + 1 : Nat) : Int) * p j * Ev (j + 1) k).natAbs ≤ _
    have h1 : (((j + 1 : Nat) : Int) * p j * Ev (j + 1) k).natAbs ≤ c * (j + 1) := by
      rw [Int.natAbs_mul, Int.natAbs_mul, Int.natAbs_natCast]
      have h2 : (Ev (j + 1) k).natAbs ≤ 1 := by
        unfold Ev
        split <;> decide
      have h3 := hp j
      have h4 : (j + 1) * (p j).natAbs ≤ (j + 1) * c := Nat.mul_le_mul (Nat.le_refl _) h3
      have h5 := Nat.mul_le_mul h4 h2
      rw [Nat.mul_one, Nat.mul_comm (j + 1) c] at h5
      exact h5
    have h6 := Int.natAbs_add_le (sS p j k) (((j + 1 : Nat) : Int) * p j * Ev (j + 1) k)
    have h7 : c * ((j + 1) * (j + 1 + 1)) = c * (j * (j + 1)) + c * (j + 1) + c * (j + 1) := by
      rw [← Nat.mul_add, ← Nat.mul_add]
      congr 1
      rw [Nat.mul_add (j + 1) (j + 1) 1, Nat.add_mul j 1 (j + 1)]
      omega
    omega
theorem lg_bound {s a : S} (L : Lg s a) (a0 : a 0 = 1) {B N : Nat} (hB : 1 ≤ B) (hs : ∀ k, k ≤ N → (s k).natAbs ≤ B) : ∀ n, n ≤ N → (a n).natAbs ≤ B ^ n := by
  intro n
  induction n using Nat.strongRecOn with
  | _ n ih =>
    intro hn
    cases n with
    | zero =>
      rw [a0]
      exact Nat.le_refl _
    | succ n =>
      have h := L.at_ (n + 1)
      have hb : (sm (fun i => s (i + 1) * a (n + 1 - (i + 1))) (n + 1)).natAbs ≤ (n + 1) * B ^ (n + 1) := sm_bound _ fun i hi => by
        rw [Int.natAbs_mul]
        have h1 := hs (i + 1) (by omega)
        have h2 := ih (n + 1 - (i + 1)) (by omega) (by omega)
        have h3 : B ^ (n + 1 - (i + 1)) ≤ B ^ n := Nat.pow_le_pow_right hB (by omega)
        have h4 := Nat.mul_le_mul h1 (Nat.le_trans h2 h3)
        rw [Nat.pow_succ, Nat.mul_comm (B ^ n) B]
        exact h4
      rw [← h, Int.natAbs_mul, Int.natAbs_natCast] at hb
      exact Nat.le_of_mul_le_mul_left hb (by omega)
theorem sums_bound {s a : S} (L : Lg s a) (a0 : a 0 = 1) {M N : Nat} (hM : 1 ≤ M) (hN : N ≤ 12) (ha : ∀ k, k ≤ N → (a k).natAbs ≤ M) : ∀ n, n ≤ N → (s n).natAbs ≤ (32 * M) ^ n := by
  intro n
  induction n using Nat.strongRecOn with
  | _ n ih =>
    intro hn
    cases n with
    | zero =>
      rw [L.z]
      exact Nat.zero_le _
    | succ n =>
      have h := L.at_ (n + 1)
      have h0 : sm (fun i => s (i + 1) * a (n + 1 - (i + 1))) (n + 1) = sm (fun i => s (i + 1) * a (n + 1 - (i + 1))) n + s (n + 1) * a (n + 1 - (n + 1)) := rfl
      rw [h0, Nat.sub_self, a0, Int.mul_one] at h
      have hb : (sm (fun i => s (i + 1) * a (n + 1 - (i + 1))) n).natAbs ≤ n * ((32 * M) ^ n * M) := sm_bound _ fun i hi => by
        rw [Int.natAbs_mul]
        have h1 := ih (i + 1) (by omega) (by omega)
        have h2 := ha (n + 1 - (i + 1)) (by omega)
        have h3 : (32 * M) ^ (i + 1) ≤ (32 * M) ^ n := Nat.pow_le_pow_right (by omega) (by omega)
        exact Nat.mul_le_mul (Nat.le_trans h1 h3) h2
      have hc : (((n + 1 : Nat) : Int) * a (n + 1)).natAbs ≤ 12 * M := by
        rw [Int.natAbs_mul, Int.natAbs_natCast]
        exact Nat.mul_le_mul (by omega) (ha _ hn)
      have h1 : 1 ≤ (32 * M) ^ n := Nat.pow_pos (by omega)
      have h2 : n * ((32 * M) ^ n * M) ≤ 12 * ((32 * M) ^ n * M) := Nat.mul_le_mul (by omega) (Nat.le_refl _)
      have h3 : 12 * M ≤ 12 * ((32 * M) ^ n * M) := by
        have := Nat.mul_le_mul h1 (Nat.le_refl M)
        omega
      have h4 : (32 * M) ^ (n + 1) = 32 * ((32 * M) ^ n * M) := by
        rw [Nat.pow_succ, Nat.mul_comm 32 M, ← Nat.mul_assoc, Nat.mul_comm]
      have h5 : s (n + 1) = ((n + 1 : Nat) : Int) * a (n + 1) - sm (fun i => s (i + 1) * a (n + 1 - (i + 1))) n := by omega
      have h6 := Int.natAbs_sub_le (((n + 1 : Nat) : Int) * a (n + 1)) (sm (fun i => s (i + 1) * a (n + 1 - (i + 1))) n)
      rw [← h5] at h6
      omega
/-- a and b with the same sums are the same -/
theorem lg_uniq {s a : S} (L : Lg s a) {b : S} {N : Nat} (h0 : a 0 = b 0) (hb : ∀ n, n < N → ((n + 1 : Nat) : Int) * b (n + 1) = sm (fun i => s (i + 1) * b (n + 1 - (i + 1))) (n + 1)) : ∀ n, n ≤ N → a n = b n := by
  intro n
  induction n using Nat.strongRecOn with
  | _ n ih =>
    intro hn
    cases n with
    | zero => exact h0
    | succ n =>
      have h := L.at_ (n + 1)
      have h2 := hb n (by omega)
      have e : sm (fun i => s (i + 1) * a (n + 1 - (i + 1))) (n + 1) = sm (fun i => s (i + 1) * b (n + 1 - (i + 1))) (n + 1) := sm_congr _ fun i hi => by
        rw [ih (n + 1 - (i + 1)) (by omega) (by omega)]
      rw [e, ← h2] at h
      exact Int.eq_of_mul_eq_mul_left (by omega) h
end Ps

set_option Elab.async false
set_option linter.all false
set_option maxRecDepth 100000
set_option maxHeartbeats 0
namespace Xv
open PySem PySem.Spec PyProof.Rows L2
/-! the classes' facts, asked of the written part -/
def veT : List Value := [.type "ValueError", .type "Exception", .type "BaseException", .type "object"]
def oexB (K : PySem.W.Frag) (C : Addr) : Bool := match K.lookup C with
  | some ⟨.type "type", _, .cls cd, sl⟩ => (match cd.mro, sl.toList with
    | .ref C' :: bm, [_, _, _, _, some (.builtin n), _] => decide (C' = C) && (decide (n = "ValueError.__new__") && (!cd.hasDel && (PySem.HandSPX.refsVE bm && cd.hasDict)))
    | _, _ => false)
  | _ => false
theorem oexB_ok {K : PySem.W.Frag} {C : Addr} (h : oexB K C = true) : ∃ nm q N bs bm sn sub ab col dd k0 k1 k2 k3 k5, K.lookup C = some (excClassObj nm q C N bs bm true sn sub ab col dd k0 k1 k2 k3 k5 "ValueError.__new__") ∧ PySem.HandSPX.refsVE bm = true := by
  unfold oexB at h
  split at h
  · rename_i dx cd sl ho
    split at h
    · rename_i C' bm k0 k1 k2 k3 n k5 hm hs
      simp only [Bool.and_eq_true, decide_eq_true_eq, Bool.not_eq_true'] at h
      obtain ⟨rfl, rfl, hd, hr, hh⟩ := h
      obtain ⟨nm, bs, mro, ns, qn, hdc, sn, sub, ab, col, del⟩ := cd
      dsimp only at hm hd hh
      subst hm hd hh
      obtain ⟨l⟩ := sl
      have hs' : l = [k0, k1, k2, k3, some (.builtin "ValueError.__new__"), k5] := hs
      subst hs'
      exact ⟨nm, qn, ns, bs, bm, sn, sub, ab, col, dx, k0, k1, k2, k3, k5, ho, hr⟩
    · cases h
  · cases h
def eqV2 (a b : Option Value) : Bool := decide (a = b)
/-- a class of errors whose way up is l -/
def clsB (K : PySem.W.Frag) (C : Addr) (l : List Value) : Bool := (match PySem.W.clsIn K C with
  | some cd => decide (cd.mro = l) && cd.hasDict
  | none => false) && (eqV2 (PySem.W.typeIn K (.ref C)) (some (.type "type")) && (He.eqO (PySem.W.findIn K (.ref C) "__getattribute__") (some (some (.builtin "BaseException.__getattribute__"))) && (He.eqO (PySem.W.findIn K (.ref C) "__getattr__") (some none) &&
    (He.eqO (PySem.W.findIn K (.ref C) "__class__") (some (some (.builtin "object.__class__"))) && PySem.W.keepIn K (.ref C)))))
structure ClsOk (K : PySem.W.Frag) (C : Addr) (l : List Value) : Prop where
  cl : ∃ cd, PySem.W.clsIn K C = some cd ∧ cd.mro = l ∧ cd.hasDict = true
  ty : PySem.W.typeIn K (.ref C) = some (.type "type")
  ga : PySem.W.findIn K (.ref C) "__getattribute__" = some (some (.builtin "BaseException.__getattribute__"))
  gg : PySem.W.findIn K (.ref C) "__getattr__" = some none
  gc : PySem.W.findIn K (.ref C) "__class__" = some (some (.builtin "object.__class__"))
  kp : PySem.W.keepIn K (.ref C) = true
theorem clsB_ok {K : PySem.W.Frag} {C : Addr} {l : List Value} (h : clsB K C l = true) : ClsOk K C l := by
  unfold clsB at h
  simp only [Bool.and_eq_true] at h
  obtain ⟨h1, h2, h3, h4, h5, h6⟩ := h
  refine ⟨?_, of_decide_eq_true h2, He.eqO_ok h3, He.eqO_ok h4, He.eqO_ok h5, h6⟩
  cases e : PySem.W.clsIn K C with
  | none =>
    rw [e] at h1
    cases h1
  | some cd =>
    rw [e] at h1
    have h1' : (decide (cd.mro = l) && cd.hasDict) = true := h1
    rw [Bool.and_eq_true] at h1'
    exact ⟨cd, rfl, of_decide_eq_true h1'.1, h1'.2⟩
theorem ClsOk.sub {K : PySem.W.Frag} {C : Addr} {l : List Value} (h : ClsOk K C l) (hl : l ≠ []) (b : Value) : PySem.W.subIn K (.ref C) b = some (l.contains b) := by
  obtain ⟨cd, e, rfl, _⟩ := h.cl
  show (PySem.W.clsIn K C).bind (fun cd => if cd.mro.isEmpty then none else some (cd.mro.contains b)) = _
  rw [e]
  show (if cd.mro.isEmpty = true then none else some (cd.mro.contains b)) = _
  rw [if_neg (by cases q : cd.mro with
    | nil => exact absurd q hl
    | cons _ _ => exact Bool.false_ne_true)]
theorem ClsOk.excC {K : PySem.W.Frag} {C : Addr} {l : List Value} (h : ClsOk K C l) (hl : l ≠ []) (h1 : l.contains (.type "BaseException") = true) (h2 : l.contains (.type "object") = true) (hn : PySem.W.specialIn K (.builtin "object.__class__") "__get__" = some (some (.builtin "getset_descriptor.__get__")))
    (ht : PySem.W.takesIn K (.builtin "object.__class__") = some true) : ExcC K C where
  hg := h.ga
  hk := h.gg
  hs := by rw [h.sub hl, h1]
  hd := by
    obtain ⟨cd, e, _, hd⟩ := h.cl
    show (PySem.W.clsIn K C).any (·.hasDict) = true
    rw [e]
    exact hd
  ha := h.gc
  hn := hn
  ht := ht
  hm := by
    have z := h.sub hl (.type "object")
    rw [h2] at z
    exact z
theorem ClsOk.kit {K : PySem.W.Frag} {C D : Addr} {l m : List Value} (h : ClsOk K C l) (hl : l ≠ []) (hD : ClsOk K D m) {b : Bool} (e : (decide (C = D) || l.contains (.ref D)) = b) : PySem.W.kitOne K (.ref C) (.ref D) = some b := by
  unfold PySem.W.kitOne
  by_cases q : C = D
  · subst q
    rw [if_pos (by simp)]
    rw [decide_eq_true rfl] at e
    exact congrArg some e
  · rw [if_neg (by simpa using q)]
    show (if ((PySem.W.clsIn K D).isSome && PySem.W.typeIn K (.ref D) == some (.type "type")) = true then PySem.W.subIn K (.ref C) (.ref D) else none) = some b
    obtain ⟨cd, ed, _⟩ := hD.cl
    rw [ed, hD.ty, if_pos (by rfl), h.sub hl]
    rw [decide_eq_false q, Bool.false_or] at e
    exact congrArg some e
theorem ClsOk.kitT {K : PySem.W.Frag} {C : Addr} {l : List Value} (h : ClsOk K C l) (hl : l ≠ []) {T : String} (hT : PySem.W.kitMeta T = true) (e : l.contains (.type T) = true) : PySem.W.kitOne K (.ref C) (.type T) = some true := by
  unfold PySem.W.kitOne
  rw [if_neg (by simp)]
  show (if PySem.W.kitMeta T = true then PySem.W.subIn K (.ref C) (.type T) else none) = some true
  rw [if_pos hT, h.sub hl, e]
def eqB (a b : Option Bool) : Bool := decide (a = b)
def cfB (r : Option PySem.W.CFound) : Bool := match r with
  | some (.val v) => decide (v = .builtin "ValueError.__init__")
  | _ => false
theorem cfB_ok {r : Option PySem.W.CFound} (h : cfB r = true) : r = some (.val (.builtin "ValueError.__init__")) := by
  unfold cfB at h
  split at h
  · rw [of_decide_eq_true h]
  · cases h
/-! a hook: the facts by names, more of them by a Bool, the law's own table of code objects -/
abbrev AlE : Type := He.AlD × Bool
def asE (g : Addr → Option Obj) (n : Nat) : List Addr := cStatics :: He.asD g n
def lawD : He.Defn := ("law", none)
def obsE (fa : List He.Fa) (fn : List He.DefD) (ext : PySem.W.Frag → Bool) (n : Nat) (g : Addr → Option Obj) : AlE := (He.obsD fa fn (He.frT g (asE g n)), ext (He.frT g (asE g n)) && He.tabsB g [lawD] (He.frT g (asE g n)))
structure SaysE (fa : List He.Fa) (fn : List He.DefD) (ext : PySem.W.Frag → Bool) (h : Heap) (K : PySem.W.Frag) : Prop where
  d : He.SaysD fa fn K
  more : ext K = true
  hd : PySem.W.codeHdIn K (He.cT K lawD).1 (He.cT K lawD).2 = true
  out : K.lookup (He.cT K lawD).2 = none
  empty : h.get? (He.cT K lawD).2 = some { cls := .none, data := .fields #[] }
theorem saysE_of {fa : List He.Fa} {fn : List He.DefD} {ext : PySem.W.Frag → Bool} {n : Nat} {h : Heap} (e : obsE fa fn ext n h.get? = (He.valD fn, true)) : SaysE fa fn ext h (He.frT h.get? (asE h.get? n)) := by
  have e1 : He.obsD fa fn (He.frT h.get? (asE h.get? n)) = He.valD fn := congrArg (fun z : AlE => z.1) e
  have e2 : (ext (He.frT h.get? (asE h.get? n)) && He.tabsB h.get? [lawD] (He.frT h.get? (asE h.get? n))) = true := congrArg (fun z : AlE => z.2) e
  obtain ⟨h1, h2⟩ := Bool.and_eq_true_iff.mp e2
  obtain ⟨h3, h4⟩ := Bool.and_eq_true_iff.mp (List.all_eq_true.mp h2 lawD (List.mem_singleton.mpr rfl))
  cases q : h.get? (He.cT (He.frT h.get? (asE h.get? n)) lawD).2 with
  | none =>
    rw [q] at h4
    cases h4
  | some o =>
    rw [q] at h4
    exact ⟨e1, h1, h3, He.frT_none q h4, by rw [q, He.emptyTab_eq h4]⟩
def hookE (fa : List He.Fa) (fn : List He.DefD) (ext : PySem.W.Frag → Bool) (n : Nat) : PySem.W.Hook where
  α := AlE
  obs := fun s => obsE fa fn ext n s.heap.get?
  val := fun _ => (He.valD fn, true)
  says := fun _ h => ∃ K : PySem.W.Frag, K.In h ∧ SaysE fa fn ext h K
  of := fun _ _ e => ⟨_, He.frT_in, saysE_of e⟩
  keeps := fun _ _ _ ⟨K, hK, c⟩ k => ⟨K, PySem.W.Frag.In.keeps hK k, ⟨c.d, c.more, c.hd, c.out, k _ _ c.empty⟩⟩
end Xv

set_option Elab.async false
set_option linter.all false
set_option maxRecDepth 100000
set_option maxHeartbeats 4000000
set_option pp.maxSteps 3000
set_option exponentiation.threshold 500000
/-! what a law holds: the draw, the tables, its objects -/
namespace Gn
open PySem PySem.Spec PyProof.Rows L2 Dr Xv LamX Ps
structure Sta (Pt : Addr) (H : Hp) (d l c : Addr) (os : List (Addr × HO)) : Prop where
  W : Wd Pt H d l c
  O : ∀ x ∈ os, H x.1 = some x.2 ∧ x.1 ≠ d ∧ x.1 ≠ l ∧ x.1 ≠ c ∧ ∀ ps, x.2 ≠ .tbl ps
  P : os.Pairwise fun x y => x.1 ≠ y.1
namespace Sta
section
variable {Pt d l c p : Addr} {H H' : Hp} {o : HO} {os os' : List (Addr × HO)}
theorem same (S : Sta Pt H d l c os) (s : Same H H') : Sta Pt H' d l c os := ⟨S.W.same s, fun x hx => ⟨s _ _ (S.O x hx).1, (S.O x hx).2⟩, S.P⟩
theorem sx (S : Sta Pt H d l c os) (s : SameX d l H H') (D : Draw H' d l c) : Sta Pt H' d l c os := ⟨S.W.sx s D, fun x hx => ⟨s _ _ (S.O x hx).1 (S.O x hx).2.1 (S.O x hx).2.2.1, (S.O x hx).2⟩, S.P⟩
theorem ext (S : Sta Pt H d l c os) (s : ExtN H H') (T : Tabs [(Pt, qL)] H') : Sta Pt H' d l c os := ⟨⟨Draw.ext S.W.dr s, T⟩, fun x hx => ⟨s _ _ (S.O x hx).1 (S.O x hx).2.2.2.2, (S.O x hx).2⟩, S.P⟩
theorem res (S : Sta Pt H d l c os) (hp : H p = none) (s : Same H H') (e : H' p = some o) (nt : ∀ ps, o ≠ .tbl ps) : Sta Pt H' d l c ((p, o) :: os) := by
  have S' := S.same s
  have n := S.W.dr.ne hp
  refine ⟨S'.W, fun x hx => ?_, List.pairwise_cons.mpr ⟨fun x hx => (ne_of_none (S.O x hx).1 hp).symm, S.P⟩⟩
  rcases List.mem_cons.mp hx with rfl | hx
  · exact ⟨e, n.1, n.2.1, n.2.2, nt⟩
  · exact S'.O x hx
theorem new (S : Sta Pt H d l c os) (hp : H p = none) (nt : ∀ ps, o ≠ .tbl ps) : Sta Pt (upd H p o) d l c ((p, o) :: os) := S.res hp (same_new hp) upd_same nt
theorem newL {xs : List V} (S : Sta Pt H d l c os) (hp : H p = none) : Sta Pt (upd H p (.lst xs)) d l c ((p, .lst xs) :: os) := S.new hp (fun _ e => nomatch e)
theorem newT {xs : List V} (S : Sta Pt H d l c os) (hp : H p = none) : Sta Pt (upd H p (.tup xs)) d l c ((p, .tup xs) :: os) := S.new hp (fun _ e => nomatch e)
theorem resL {xs : List V} (S : Sta Pt H d l c os) (hp : H p = none) (s : Same H H') (e : H' p = some (.lst xs)) : Sta Pt H' d l c ((p, .lst xs) :: os) := S.res hp s e (fun _ e => nomatch e)
/-- a result of a drawing call -/
theorem resX {xs : List V} (S : Sta Pt H d l c os) (hp : H p = none) (s : SameX d l H H') (D : Draw H' d l c) (e : H' p = some (.lst xs)) : Sta Pt H' d l c ((p, .lst xs) :: os) := by
  have S' := S.sx s D
  have n := S.W.dr.ne hp
  refine ⟨S'.W, fun x hx => ?_, List.pairwise_cons.mpr ⟨fun x hx => (ne_of_none (S.O x hx).1 hp).symm, S.P⟩⟩
  rcases List.mem_cons.mp hx with rfl | hx
  · exact ⟨e, n.1, n.2.1, n.2.2, fun _ e => nomatch e⟩
  · exact S'.O x hx
theorem g (S : Sta Pt H d l c os) (i : Nat) {x : Addr × HO} (h : os[i]? = some x) : H x.1 = some x.2 := (S.O x (List.mem_of_getElem? h)).1
theorem gx (S : Sta Pt H d l c os) (i : Nat) {x : Addr × HO} (h : os[i]? = some x) (s : SameX d l H H') : H' x.1 = some x.2 := s _ _ (S.O x (List.mem_of_getElem? h)).1 (S.O x (List.mem_of_getElem? h)).2.1 (S.O x (List.mem_of_getElem? h)).2.2.1
theorem sub (S : Sta Pt H d l c os) (h : os'.Sublist os) : Sta Pt H d l c os' := ⟨S.W, fun x hx => S.O x (h.subset hx), S.P.sublist h⟩
theorem dr (S : Sta Pt H d l c os) : Draw H d l c := S.W.dr
theorem tb (S : Sta Pt H d l c os) : Tabs [(Pt, qL)] H := S.W.tb
/-- the list ahead is written -/
theorem put {xs ys : List V} (S : Sta Pt H d l c ((p, .lst xs) :: os)) : Sta Pt (upd H p (.lst ys)) d l c ((p, .lst ys) :: os) := by
  obtain ⟨h1, h2, h3, h4, h5⟩ := S.O _ (List.mem_cons_self ..)
  obtain ⟨q1, q2⟩ := List.pairwise_cons.mp S.P
  refine ⟨S.W.upd h1 h2 h3 h4, fun x hx => ?_, List.pairwise_cons.mpr ⟨q1, q2⟩⟩
  rcases List.mem_cons.mp hx with rfl | hx
  · exact ⟨upd_same, h2, h3, h4, fun _ e => nomatch e⟩
  · have z := S.O x (List.mem_cons_of_mem _ hx)
    exact ⟨by rw [upd_ne (q1 x hx).symm]; exact z.1, z.2⟩
theorem tl {x : Addr × HO} (S : Sta Pt H d l c (x :: os)) : Sta Pt H d l c os := S.sub (List.sublist_cons_self ..)
end
end Sta
/-- data of ints, equal -/
theorem eq_ints {a b : List Int} (h : a = b) : (!PyData.eqv (.list (intsD a)) (.list (intsD b))) = false := by
  subst h
  exact eq_no a
def intsOf (n : Nat) (b : S) : List Int := (List.range n).map b
theorem row_ofI {n : Nat} {b : S} : rowOf n b = (intsOf n b).map V.int := rfl
theorem fnL_ints {n : Nat} {b : S} {i : Nat} (h : i < n) : fnL (intsOf n b) i = b i := by
  unfold intsOf
  rw [fnL_row, if_pos h]
theorem len_ints {n : Nat} {b : S} : (intsOf n b).length = n := by
  unfold intsOf
  rw [List.length_map, List.length_range]
theorem fnL_snoc_le {ns : List Int} {z : Int} {c : Nat} (h : ∀ i, (fnL ns i).natAbs ≤ c) (hz : z.natAbs ≤ c) (i : Nat) : (fnL (ns ++ [z]) i).natAbs ≤ c := by
  have hi := h i
  unfold fnL at hi ⊢
  rw [List.getD_eq_getElem?_getD] at hi ⊢
  by_cases h1 : i < ns.length
  · rw [List.getElem?_append_left h1]
    exact hi
  · rw [List.getElem?_append_right (by omega)]
    by_cases h2 : i - ns.length = 0
    · rw [h2]
      exact hz
    · rw [List.getElem?_eq_none (by simp; omega)]
      exact Nat.zero_le _
theorem cut_full (ns : List Int) (m : Nat) : cutV (ns.map V.int ++ zer m) none (some (m : Int)) = rowOf m (fnL ns) := by
  have e : cutV (ns.map V.int ++ zer m) none (some (m : Int)) = (ns.map V.int ++ zer m).take m := by
    unfold cutV
    rw [HT.sIx_none, HT.sIx_nat, Nat.sub_zero, List.drop_zero, Nat.min_eq_left (by
      rw [List.length_append]
      unfold zer
      rw [List.length_replicate]
      omega)]
  rw [e]
  refine List.ext_getElem? fun i => ?_
  rw [List.getElem?_take]
  by_cases h : i < m
  · rw [if_pos h, row_get h]
    by_cases h2 : i < ns.length
    · rw [List.getElem?_append_left (by rw [List.length_map]; exact h2), List.getElem?_map]
      unfold fnL
      rw [List.getD_eq_getElem?_getD]
      simp [h2]
    · rw [List.getElem?_append_right (by rw [List.length_map]; omega), fnL_out (by omega), List.length_map]
      unfold zer
      rw [List.getElem?_replicate, if_pos (by omega)]
  · rw [if_neg h, List.getElem?_eq_none (by rw [row_len]; omega)]
end Gn

set_option Elab.async false
set_option linter.all false
set_option maxRecDepth 100000
set_option maxHeartbeats 4000000
set_option pp.maxSteps 3000
/-! errors of classes with an __init__ of their own -/
namespace Gn
open PySem PySem.Spec PyProof.Rows L2 Dr Xv LamX Ps
structure InitT (K : PySem.W.Frag) (C S fI : Addr) (f : Str) : Prop where
  ox : OexC K C
  iC : PySem.W.findIn K (.ref C) "__init__" = some (some (.ref fI))
  tI : PySem.W.typeIn K (.ref fI) = some (.type "function")
  no : PySem.W.findIn K (.ref C) f = some none
  m : PySem.W.exmOne K (.ref C) (.ref S) = some true
  e : ExcC K C
  i : PySem.W.kitOne K (.ref C) (.ref C) = some true
  x : XfC K C
  kS : PySem.W.keepIn K (.ref S) = true
  rS : PySem.W.readsIn K S (.type "type") = true
  sS : PySem.W.specialIn K (.ref S) "__getattribute__" = some (some (.builtin "type.__getattribute__"))
  vS : PySem.W.findCls K (.ref S) (.type "type") "__init__" = some (.val (.builtin "ValueError.__init__"))
def spInit (C : Addr) (f : Str) : Sp := fun vs H Q _ => ∃ (a : Addr) (v : V), vs = [.ref a, v] ∧ H a = some (exo a C none) ∧ ∀ d, H d = none → d ≠ a → Q .non (upd (upd H d (exd d [(f, v)])) a (exo a C (some d)))
theorem mk_init {C : Addr} {f : Str} {v : V} {H : Hp} {Q : Value → Option Addr → Hp → Prop} (q : ∀ d H', H d = none → Same H H' → H' d = some (.xd [(f, v)]) → Q (.ref C) (some d) H') :
    [v].length ≤ 1000 ∧ ∀ a, H a = none → spInit C f (.ref a :: ([v] ++ [])) (upd H a (exo a C none)) (fun w H2 => w = .non ∧ ∃ (d : Addr) (fs : List (Str × V)), H2 a = some (exo a C (some d)) ∧ H2 d = some (exd d fs) ∧ H d = none ∧ Q (.ref C) (some d) (upd (del H2 a) d (.xd fs))) (fun _ _ _ => False) := by
  refine ⟨(by show 1 ≤ 1000; decide), fun a ha => ⟨a, v, rfl, upd_same, fun d hd nd => ?_⟩⟩
  have hd' : H d = none := by rw [upd_ne nd] at hd; exact hd
  refine ⟨rfl, d, _, upd_same, by rw [upd_ne nd, upd_same], hd', q d _ hd' (fun b o e => ?_) upd_same⟩
  have n1 := ne_of_none e ha
  have n2 := ne_of_none e hd'
  rw [upd_ne n2]
  unfold del
  rw [if_neg n1, upd_ne n1, upd_ne n2, upd_ne n1]
  exact e
/-- such an error, caught -/
theorem erc_init {H H' : Hp} {a C d : Addr} {fs : List (Str × V)} (hd : H d = some (.xd fs)) (ha : H a = none) : ErC (upd H a (ErX (.ref C) (some d) a)) a C (some fs) :=
  .inr ⟨d, fs, rfl, upd_same, by rw [upd_ne (ne_of_none hd ha)]; exact hd⟩
end Gn

set_option Elab.async false
set_option linter.all false
set_option maxRecDepth 100000
set_option maxHeartbeats 4000000
set_option pp.maxSteps 3000
/-! zip of two tuples as a walk; tuples and other values; lists of tuples of ints as data -/
namespace Gn
open PySem PySem.Spec PyProof.Rows L2 Dr Xv LamX Ps
theorem walk_zipT {K : PySem.W.Frag} {a b : Addr} {xs ys : List V} {n : Nat} (hn : n = min xs.length ys.length) : Walk (RZ.ItzT K a b) n (fun H => SqT K H a xs ∧ SqT K H b ys) (YPair (fun i => xs[i]?) (fun i => ys[i]?)) := by
  refine ⟨fun i H hi q => ?_, fun H q => ?_, fun i H v H' hi q y => ?_⟩
  · have h1 : i < xs.length := by omega
    have h2 : i < ys.length := by omega
    exact ⟨xs, ys, xs[i], ys[i], q.1, q.2, by simp [h1], by simp [h2]⟩
  · exact ⟨xs, ys, q.1, q.2, by omega⟩
  · obtain ⟨T, x, z, h1, h2, h3, h4, h5⟩ := y
    exact ⟨T, x, z, h1, h2, h3, h4 xs q.1, h5 ys q.2⟩
/-- len's reading, named for comprehensions -/
def rLenK (K : PySem.W.Frag) : List V → Hp → VK → Prop := fun xs H Q => ∃ x n, xs = [x] ∧ LenV K x H n ∧ Q (V.int ↑n) H
/-- a tuple with these items, or no tuple -/
inductive Tp (H : Hp) : V → Option (List V) → Prop
  | non : Tp H .non none
  | bl (b : Bool) : Tp H (.bl b) none
  | int (i : Int) : Tp H (.int i) none
  | str (x : Str) : Tp H (.str x) none
  | lst {a : Addr} {xs : List V} : H a = some (.lst xs) → Tp H (.ref a) none
  | tup {a : Addr} {xs : List V} : H a = some (.tup xs) → Tp H (.ref a) (some xs)
  | dK {a : Addr} {kvs : List (Key × V)} : H a = some (.dK kvs) → Tp H (.ref a) none
theorem Tp.same {H H' : Hp} {x : V} {o : Option (List V)} (h : Tp H x o) (s : Same H H') : Tp H' x o := by
  cases h with
  | non => exact .non
  | bl b => exact .bl b
  | int i => exact .int i
  | str x => exact .str x
  | lst e => exact .lst (s _ _ e)
  | tup e => exact .tup (s _ _ e)
  | dK e => exact .dK (s _ _ e)
theorem Tp.pv {H : Hp} {x : V} {o : Option (List V)} (h : Tp H x o) : PV H x := by
  cases h with
  | non => exact .non
  | bl b => exact .bl b
  | int i => exact .int i
  | str x => exact .str x
  | lst e => exact .lst e
  | tup e => exact .tup e
  | dK e => exact .dK e
theorem Tp.ty {K : PySem.W.Frag} {H : Hp} {x : V} {o : Option (List V)} (h : Tp H x o) : ∃ t, TyX K H x t ∧ PySem.W.kitOne K t (.type "tuple") = some o.isSome := by
  cases h with
  | non => exact ⟨_, .base .non, kit_ty (r := false) (by decide +kernel)⟩
  | bl b => exact ⟨_, .base (.bl b), kit_ty (r := false) (by decide +kernel)⟩
  | int i => exact ⟨_, .base (.int i), kit_ty (r := false) (by decide +kernel)⟩
  | str x => exact ⟨_, .base (.str x), kit_ty (r := false) (by decide +kernel)⟩
  | lst e => exact ⟨_, .base (.lst e), kit_ty (r := false) (by decide +kernel)⟩
  | tup e => exact ⟨_, .base (.tup e), kit_ty (r := true) (by decide +kernel)⟩
  | dK e => exact ⟨_, .base (.dK e), kit_ty (r := false) (by decide +kernel)⟩
theorem Tp.ref {H : Hp} {x : V} {xs : List V} (h : Tp H x (some xs)) : ∃ a, x = .ref a ∧ H a = some (.tup xs) := by
  cases h with
  | tup e => exact ⟨_, rfl, e⟩
/-- the ints among values -/
def numsV (xs : List V) : List Int := xs.filterMap fun v => match v with | V.int z => some z | _ => none
theorem numsV_map : ∀ ns : List Int, numsV (ns.map V.int) = ns
  | [] => rfl
  | z :: r => congrArg (z :: ·) (numsV_map r)
/-! data -/
def tupD (ns : List Int) : PyData := .tuple (intsD ns)
theorem tup_lay (ns : List Int) : (tupD ns).canLay0 = true := ints_lay ns
theorem tup_depth (ns : List Int) : (tupD ns).depth ≤ 1 := by
  show PyData.depthAll (intsD ns) + 1 ≤ 1
  rw [ints_depth]
  exact Nat.le_refl _
theorem tup_shaped (ns : List Int) : SeqAt.shaped (tupD ns) = true := by
  show (PyData.canLayAll0 (intsD ns) && decide (PyData.depthAll (intsD ns) + 1 ≤ 64)) = true
  rw [ints_lay, ints_depth]
  rfl
theorem tups_lay : ∀ l : List (List Int), PyData.canLayAll0 (l.map tupD) = true
  | [] => rfl
  | z :: r => by
    show (PyData.canLay0 (tupD z) && PyData.canLayAll0 (r.map tupD)) = true
    rw [tups_lay r, tup_lay]
    rfl
theorem tups_depth : ∀ l : List (List Int), PyData.depthAll (l.map tupD) ≤ 1
  | [] => Nat.zero_le _
  | z :: r => by
    show max (PyData.depth (tupD z)) (PyData.depthAll (r.map tupD)) ≤ 1
    exact Nat.max_le.mpr ⟨tup_depth z, tups_depth r⟩
theorem tups_shaped (l : List (List Int)) : SeqAt.shaped (.list (l.map tupD)) = true := by
  show (PyData.canLayAll0 (l.map tupD) && decide (PyData.depthAll (l.map tupD) + 1 ≤ 64)) = true
  rw [tups_lay, decide_eq_true (by have := tups_depth l; omega)]
  rfl
theorem tup_dp {K : PySem.W.Frag} {H : Hp} {a : Addr} {ns : List Int} (h : H a = some (.tup (ns.map V.int))) : Dp K H (.ref a) (tupD ns) := .tup (SqT.of h) (ints_dp ns)
/-- these places hold these tuples of ints -/
def TupI (H : Hp) (ts : List Addr) (pss : List (List Int)) : Prop := ts.length = pss.length ∧ ∀ (i : Nat) (t : Addr) (ns : List Int), ts[i]? = some t → pss[i]? = some ns → H t = some (.tup (ns.map V.int))
theorem TupI.same {H H' : Hp} {ts : List Addr} {pss : List (List Int)} (h : TupI H ts pss) (s : Same H H') : TupI H' ts pss := ⟨h.1, fun i t ns e1 e2 => s _ _ (h.2 i t ns e1 e2)⟩
theorem TupI.nil {H : Hp} : TupI H [] [] := ⟨rfl, fun i t ns e => by cases e⟩
theorem TupI.append {H : Hp} {ts us : List Addr} {ps qs : List (List Int)} (h : TupI H ts ps) (g : TupI H us qs) : TupI H (ts ++ us) (ps ++ qs) := by
  refine ⟨by rw [List.length_append, List.length_append, h.1, g.1], fun i t ns e1 e2 => ?_⟩
  by_cases c : i < ts.length
  · rw [List.getElem?_append_left c] at e1
    rw [List.getElem?_append_left (by rw [← h.1]; exact c)] at e2
    exact h.2 i t ns e1 e2
  · rw [List.getElem?_append_right (by omega)] at e1
    rw [List.getElem?_append_right (by rw [← h.1]; omega), ← h.1] at e2
    exact g.2 _ t ns e1 e2
theorem TupI.one {H : Hp} {t : Addr} {ns : List Int} (h : H t = some (.tup (ns.map V.int))) : TupI H [t] [ns] := by
  refine ⟨rfl, fun i t' ns' e1 e2 => ?_⟩
  cases i with
  | zero =>
    cases e1
    cases e2
    exact h
  | succ i => cases e1
theorem TupI.mem {H : Hp} {ts : List Addr} {ps : List (List Int)} (h : TupI H ts ps) {t : Addr} (ht : t ∈ ts) : ∃ ns ∈ ps, H t = some (.tup (ns.map V.int)) := by
  obtain ⟨i, hi⟩ := List.mem_iff_getElem?.mp ht
  have hl := (List.getElem?_eq_some_iff.mp hi).1
  have hl2 : i < ps.length := by rw [← h.1]; exact hl
  exact ⟨ps[i], List.getElem_mem hl2, h.2 i t _ hi (by simp [hl2])⟩
theorem TupI.get {H : Hp} {ts : List Addr} {ps : List (List Int)} (h : TupI H ts ps) {i : Nat} {t : Addr} (ht : ts[i]? = some t) : ∃ ns, ps[i]? = some ns ∧ H t = some (.tup (ns.map V.int)) := by
  have hl := (List.getElem?_eq_some_iff.mp ht).1
  have hl2 : i < ps.length := by rw [← h.1]; exact hl
  exact ⟨ps[i], by simp [hl2], h.2 i t _ ht (by simp [hl2])⟩
theorem TupI.dp {K : PySem.W.Frag} {H : Hp} : ∀ {ts : List Addr} {ps : List (List Int)}, TupI H ts ps → DpAll K H (ts.map V.ref) (ps.map tupD)
  | [], [], _ => .nil
  | [], _ :: _, h => absurd h.1 (by simp)
  | _ :: _, [], h => absurd h.1 (by simp)
  | t :: ts, p :: ps, h => .cons (tup_dp (h.2 0 t p rfl rfl)) (TupI.dp ⟨by have := h.1; simpa using this, fun i t' ns e1 e2 => h.2 (i + 1) t' ns e1 e2⟩)
theorem eq_tup (ns : List Int) : (!PyData.eqv (tupD ns) (tupD ns)) = false := by
  rw [SeqAt.eqv_refl _ (tup_lay ns)]
  rfl
theorem eq_tups (l : List (List Int)) : (!PyData.eqv (.list (l.map tupD)) (.list (l.map tupD))) = false := by
  rw [SeqAt.eqv_refl (.list (l.map tupD)) (show PyData.canLay0 (.list (l.map tupD)) = true from tups_lay l)]
  rfl
end Gn

set_option Elab.async false
set_option linter.all false
set_option maxRecDepth 100000
set_option maxHeartbeats 4000000
set_option pp.maxSteps 3000
/-! range(a, b, c) as an object, tuple() of it -/
namespace Gn
open PySem PySem.Spec PyProof.Rows L2 Dr Xv LamX Ps
/-- at r a range -/
def RgX (r : Addr) (i j c : Int) : HO := .ext fun h => ∃ t u v, IsRange h r i j c t u v
theorem rgx_ok {prog : Program} {w : World} {H : Hp} {h : Heap} {r : Addr} {i j c : Int} {t u v : Tok} (e : IsRange h r i j c t u v) : ObjOk prog w H h r (RgX r i j c) :=
  ⟨⟨t, u, v, e⟩, ⟨_, e⟩, fun h1 h2 q k => by
    obtain ⟨t, u, v, q⟩ := q
    exact ⟨t, u, v, k _ q⟩⟩
theorem cr_range3 {X : Cx} : CallR X (.type "range") (fun xs H Q => ∃ i j c, xs = [.int i, .int j, .int c] ∧ c ≠ 0 ∧ c.natAbs < 1073741824 ∧ ∀ p, H p = none → Q (.ref p) (upd H p (RgX p i j c))) := by
  intro pins s σ H xs us Q I r h
  obtain ⟨i, j, c, rfl, c0, c1, q⟩ := h
  cases r with
  | cons r1 r =>
    cases r with
    | cons r2 r =>
      cases r with
      | cons r3 r =>
        cases r
        obtain ⟨t, rfl⟩ := r1
        obtain ⟨u, rfl⟩ := r2
        obtain ⟨v, rfl⟩ := r3
        obtain ⟨hp, g, dr, tk, os⟩ := s
        refine PySem.call_range_3 c0 ?_ (.inl ?_)
        · exact ⟨.ref hp.objs.size, _, I.laid (t' := tk) (o := RgX hp.objs.size i j c) (fun b o z => Heap.get?_push_of_some _ z) (Nat.le_refl _) (rgx_ok (Heap.get?_push_size _ rfl)), rfl, q _ (I.hok.fresh (Nat.le_refl _))⟩
        · refine PyProof.noPylong_of_log2 ?_
          have k : c.natAbs.log2 < 30 := (Nat.log2_lt (by omega)).mpr (by
            have e : (2 : Nat) ^ 30 = 1073741824 := by decide
            omega)
          omega
/-- the items of a range -/
def rgL (i c : Int) (n : Nat) : List Int := (List.range n).map fun k : Nat => i + (k : Int) * c
theorem vals_of : ∀ (l : List Value) (f : Nat → V), (∀ j v, l[j]? = some v → RelV (f j) v) → Vals ((List.range l.length).map f) l
  | [], _, _ => .nil
  | v :: l, f, h => by
    rw [List.length_cons, List.range_succ_eq_map, List.map_cons, List.map_map]
    exact .cons (h 0 v rfl) (vals_of l (fun k => f (k + 1)) fun j w e => h (j + 1) w e)
theorem call_tuple_rg3 {X : Cx} (hc : X.calm = true) : CallR X (.type "tuple") (fun xs H Q => ∃ r i j c n, xs = [.ref r] ∧ H r = some (RgX r i j c) ∧ RgC i j c n ∧ n ≤ 2 ^ 24 ∧ ∀ p, H p = none → Q (.ref p) (upd H p (.tup ((rgL i c n).map V.int)))) := by
  intro pins s σ H xs us Q I r h
  obtain ⟨a, i, j, c, n, rfl, ha, hr, hn, q⟩ := h
  cases r with
  | cons r1 r =>
    cases r
    cases r1
    have ho : ObjOk X.prog X.w H s.heap a (RgX a i j c) := I.hok a _ ha
    obtain ⟨⟨t, u, v, e⟩, _⟩ := ho
    refine L2.call_tuple_range (I.ok.hd hc) e hr.2.2.1 hr.2.2.2 hn fun h' tk acc kp it => ?_
    have I1 : Inv X pins σ H { s with heap := h', toks := tk } := I.kept kp
    have hv : Vals ((rgL i c n).map V.int) acc.toList := by
      have z := vals_of acc.toList (fun k => V.int (i + (k : Int) * c)) fun j v e => by
        obtain ⟨t, rfl⟩ := it.2 j v (by simpa using e)
        exact ⟨t, rfl⟩
      have hl : acc.toList.length = n := by
        rw [Array.length_toList]
        exact it.1
      rw [hl] at z
      unfold rgL
      rw [List.map_map]
      exact z
    refine ⟨.ref h'.objs.size, _, I1.laid (t' := tk) (o := .tup ((rgL i c n).map V.int)) (fun b o z => Heap.get?_push_of_some _ z) (Nat.le_refl _) ⟨?_, acc.toList, hv, ⟨_, Heap.get?_push_size _ rfl, rfl, 0, ?_⟩⟩, rfl, q _ (I1.hok.fresh (Nat.le_refl _))⟩
    · unfold rgL
      rw [List.length_map, List.length_map, List.length_range, sizeLine_eq]
      omega
    · rfl
end Gn
namespace Gn
open PySem PySem.Spec PyProof.Rows L2
theorem hu65 {k : Nat} {A : Around} (hr : Room k A) : A.units + 65 < cLine := by
  have := hr.un
  omega
end Gn
namespace Gn
open PySem PySem.Spec PyProof.Rows L2 Dr Xv LamX Ps
/-- a test that tells b and changes nothing -/
def PureT (c : TT) (σ : L2.St) (H : Hp) (b : Bool) : Prop := ∀ Q : Bool → Hp → Prop, Q b H → c σ H Q
theorem pure_or {c d : TT} {σ : L2.St} {H : Hp} {a b : Bool} (h : PureT c σ H a) (k : PureT d σ H b) : PureT (tOr c d) σ H (a || b) := fun Q q => by
  refine h _ ?_
  cases a with
  | true => exact iteT q
  | false => exact iteF (k _ q)
theorem pure_and {c d : TT} {σ : L2.St} {H : Hp} {a b : Bool} (h : PureT c σ H a) (k : PureT d σ H b) : PureT (tAnd c d) σ H (a && b) := fun Q q => by
  refine h _ ?_
  cases a with
  | true => exact iteT (k _ q)
  | false => exact iteF q
end Gn
namespace Gn
open PySem PySem.Spec PyProof.Rows L2
theorem np {σ : L2.St} {H : Hp} {Q : Option Int → Hp → Prop} (h : Q none H) : tNoPart σ H Q := h
end Gn

set_option Elab.async false
set_option linter.all false
set_option maxRecDepth 100000
set_option maxHeartbeats 4000000
set_option pp.maxSteps 3000
/-! sum of a tuple -/
namespace Gn
open PySem PySem.Spec PyProof.Rows L2 Dr Xv LamX Ps
theorem preSum_take (ns : List Int) : ∀ k, k ≤ ns.length → PySem.preSum (fun i => ns.getD i 0) k = (ns.take k).sum
  | 0, _ => by
    rw [List.take_zero]
    rfl
  | k + 1, h => by
    have ih := preSum_take ns k (by omega)
    show PySem.preSum (fun i => ns.getD i 0) k + ns.getD k 0 = _
    rw [ih, List.take_succ, List.getElem?_eq_getElem (by omega : k < ns.length), List.sum_append, List.getD_eq_getElem?_getD, List.getElem?_eq_getElem (by omega : k < ns.length)]
    show _ + ns[k] = _ + (ns[k] + 0)
    omega
theorem sum_bd : ∀ (ns : List Int) (b : Nat), (∀ x ∈ ns, x.natAbs ≤ b) → ns.sum.natAbs ≤ ns.length * b
  | [], b, _ => Nat.zero_le _
  | x :: r, b, h => by
    have h1 := sum_bd r b fun y hy => h y (List.mem_cons_of_mem _ hy)
    have h2 := h x (List.mem_cons_self ..)
    rw [List.sum_cons, List.length_cons, Nat.add_mul, Nat.one_mul]
    have := Int.natAbs_add_le x r.sum
    omega
def rSumT (K : PySem.W.Frag) : List V → Hp → VK → Prop := fun vs H Q => ∃ (a : Addr) (ns : List Int), vs = [V.ref a] ∧ SqT K H a (ns.map V.int) ∧ ns.length ≤ 1000 ∧ (∀ x ∈ ns, x.natAbs ≤ 1000000000) ∧ Q (V.int ns.sum) H
theorem cr_sumT {X : Cx} (hc : X.calm = true) : CallR X (.builtin "sum") (rSumT X.K) := by
  intro pins s σ H xs us Q I r h
  obtain ⟨a, ns, rfl, hq, hl, hb, q⟩ := h
  cases r with
  | cons r1 r =>
    cases r
    cases r1
    obtain ⟨its, rv, p, hz⟩ := I.tuple hq
    have hlen : its.length = ns.length := by
      have := rv.length
      rw [List.length_map] at this
      exact this.symm
    have hal : a < s.heap.objs.size := by
      obtain ⟨o, ho, _⟩ := id p
      exact Heap.lt_size ho
    refine PySem.call_sum_walk (wpAny_pyIter_tuple (show s.heap.IsTuple a its.toArray from p) ?_)
    refine ⟨s.heap.objs.size, [s.heap.objs.size, a], [s.heap.objs.size], its.toArray.size, _, _, fun i => ns.getD i 0, rfl, Walks.tuple (prog := X.prog) (w := X.w) (A := X.A.in1) (I.ok.hd hc) s.heap.objs.size a (Nat.ne_of_lt hal) its.toArray, ⟨⟨_, Heap.get?_push_size _ rfl, rfl, rfl⟩, ?_⟩, fun b hb => ?_, fun i v hv => ?_, fun j hj => ?_, fun h' tk t' kp => ?_⟩
    · obtain ⟨o, ho, h2⟩ := id p
      exact ⟨o, Heap.get?_push_of_some _ ho, h2⟩
    · have e : b = s.heap.objs.size ∨ b = a := by simpa using hb
      show b < (s.heap.push _).objs.size
      rw [Heap.size_push]
      rcases e with z | z
      · rw [z]
        exact Nat.lt_succ_self _
      · rw [z]
        exact Nat.lt_succ_of_lt hal
    · have hv' : its[i]? = some v := by simpa using hv
      have hi := (List.getElem?_eq_some_iff.mp hv').1
      have e : (ns.map V.int)[i]? = some (.int (ns.getD i 0)) := by
        rw [List.getElem?_map, List.getElem?_eq_getElem (by omega : i < ns.length), List.getD_eq_getElem?_getD, List.getElem?_eq_getElem (by omega : i < ns.length)]
        rfl
      obtain ⟨u, hu, ru⟩ := rv.get e
      rw [hv'] at hu
      cases hu
      exact ru
    · have hj' : j < ns.length := by
        rw [List.size_toArray] at hj
        omega
      have h1 : (ns.getD j 0).natAbs ≤ 1000000000 := hb _ (List.mem_of_getElem? (by rw [List.getD_eq_getElem?_getD, List.getElem?_eq_getElem hj']; rfl))
      have h2 := sum_bd (ns.take (j + 1)) 1000000000 fun x hx => hb x (List.mem_of_mem_take hx)
      rw [List.length_take] at h2
      have h3 : min (j + 1) ns.length * 1000000000 ≤ 1000 * 1000000000 := Nat.mul_le_mul_right _ (by omega)
      dsimp only
      rw [preSum_take ns (j + 1) (by omega)]
      unfold InLong
      refine ⟨⟨by omega, by omega⟩, by omega, by omega⟩
    · have I1 : Inv X pins σ H { s with heap := h', toks := tk } := I.kept fun b o e => kp b o (fun z => by
        have z2 : b = s.heap.objs.size := by simpa using z
        have w := Heap.lt_size e
        rw [z2] at w
        exact Nat.lt_irrefl _ w) (Heap.get?_push_of_some _ e)
      have e : PySem.preSum (fun i => ns.getD i 0) its.toArray.size = ns.sum := by
        rw [List.size_toArray, hlen, preSum_take ns _ (Nat.le_refl _), List.take_length]
      rw [e]
      exact ⟨.int ns.sum, H, I1, ⟨_, rfl⟩, q⟩
end Gn

set_option Elab.async false
set_option linter.all false
set_option maxRecDepth 100000
set_option maxHeartbeats 4000000
set_option pp.maxSteps 3000
/-! min(list of ints, default=d); repr of a list of truth values -/
namespace Xv
open PySem PySem.Spec PyProof.Rows L2
theorem min_rawD {prog : Program} {w : World} {A : Around} {E : Value → Shared → Prop} {s : Shared} {l : Addr} {its : List Value} {ns : List Int} {d : Value} {Q : Value → Shared → Prop} (hh : A.handled = none) (hl : s.heap.IsList l its.toArray) (hi : IntsAre its ns)
    (h0 : ns = [] → ∀ h' tk, (∀ b o, s.heap.get? b = some o → h'.get? b = some o) → Q d { s with heap := h', toks := tk })
    (h : ∀ h' tk M t', (∀ b o, s.heap.get? b = some o → h'.get? b = some o) → M ∈ ns → (∀ a, a ∈ ns → M ≤ a) → Q (.int M t') { s with heap := h', toks := tk }) : wpAny (model prog w) A (call (.builtin "min") [.ref l] [(Str.ofString "default", d)]) Q E s := by
  obtain ⟨xs, e⟩ := hi.allInts.items
  have hn : numsOf (intItems xs).toList = ns := by rw [← e]; exact hi.numsOf
  rw [nums_intItems] at hn
  subst hn
  rw [e] at hl
  have hsz : (intItems xs).size = xs.size := by simp [intItems]
  refine call_min_walkD (PySem.W.iter_listW (A := A.in1) hh hl fun s₂ e W st hfp hw hk => ?_)
  refine ⟨_, _, _, _, _, _, _, s.heap, (fun i j => decide (numAt xs i < numAt xs j)), rfl, W, st, hfp, hw, hk, fun hz s' m => ?_, fun hp => ⟨?_, fun v s' hP m => ?_⟩⟩
  · obtain ⟨h', tk, rfl, hk'⟩ := PySem.W.moved_old e rfl m
    refine h0 ?_ h' tk hk'
    rw [hsz] at hz
    have z : xs = #[] := Array.size_eq_zero_iff.mp hz
    subst z
    rfl
  · intro i j vi vj s3 Q3 E3 _ p1 p2 q
    exact CmpOf.ints_lt (numAt xs) (fun _ _ => intItems_at) i j vi vj s3 Q3 E3 p1 p2 q
  · obtain ⟨h', tk, rfl, hk'⟩ := PySem.W.moved_old e rfl m
    obtain ⟨t, rfl⟩ := intItems_at hP
    rw [hsz] at hp hP
    obtain ⟨h1, h2⟩ := argBest_lt (numAt xs) (xs.size - 1)
    rw [hsz]
    refine h h' tk _ t hk' ?_ fun a ha => ?_
    · rw [numAt_eq]; exact PySem.getD_mem (by rw [List.length_map, Array.length_toList]; omega)
    · obtain ⟨j, hj, rfl⟩ := mem_getD ha
      rw [List.length_map, Array.length_toList] at hj
      rw [← numAt_eq]; exact h2 j (by omega)
/-- min(xs, default=d) -/
def rMinD (K : PySem.W.Frag) : List V → List V → Hp → VK → Prop := fun vs zs H Q => ∃ (a : Addr) (ns : List Int) (d : V), vs = [V.ref a] ∧ zs = [d] ∧ SqL K H a (ns.map V.int) ∧ (ns = [] → Q d H) ∧ ∀ m, m ∈ ns → (∀ y, y ∈ ns → m ≤ y) → Q (.int m) H
theorem cr_minD {X : Cx} (hc : X.calm = true) : CallRK X (.builtin "min") [Str.ofString "default"] (rMinD X.K) := by
  intro pins s σ H vs zs us ws Q I r rz h
  obtain ⟨a, ns, d, rfl, rfl, hs, q0, q⟩ := h
  obtain ⟨its, rv, hl, _⟩ := I.list hs
  obtain rfl := Vals.ref1 r
  obtain ⟨w1, rfl, e1⟩ := vals1 rz
  exact min_rawD (I.ok.hd hc) hl.isList rv.ints (fun z h' tk hk => ⟨d, H, I.kept hk, e1, q0 z⟩) fun h' tk m t' hk h1 h2 => ⟨.int _, H, I.kept hk, ⟨_, rfl⟩, q m h1 h2⟩
end Xv
namespace L2
open PySem PySem.Spec PyProof.Rows
theorem dc_it {J : It} {n : Nat} {G : Hp → Prop} {Y : Nat → Hp → V → Hp → Prop} (w : Walk J n G Y) {g : TG} {tt : TT} {tk tv : TE} {vs : List Nat} {σ : St} {H1 : Hp} {D : Addr} {Qd : Hp → Prop} (Pv : Nat → Hp → Prop) (h0 : Pv 0 (upd H1 D (.dK []))) (hG : ∀ i H, i ≤ n → Pv i H → G H)
    (hs : ∀ i x H H', i < n → Pv i H → Y i H x H' → g x (wipe σ vs) H' fun σ2 H2 => wipe σ2 vs = wipe σ vs ∧ tt σ2 H2 fun b H3 =>
      if b = true then tk σ2 H3 fun y H4 => tv σ2 H4 fun z H5 => ∃ kvs k, y = kV k ∧ H5 D = some (.dK kvs) ∧ kvs.length < sizeLine ∧ Pv (i + 1) (upd H5 D (.dK (putK kvs k z))) else Pv (i + 1) H3) (hd : ∀ H, Pv n H → Qd H) :
    ∃ W : Nat → Nat → Hp → Prop, (∃ m, W 0 m (upd H1 D (.dK []))) ∧ ∀ i m H, W i m H →
      (J.stop i H ∧ Qd H) ∨ (J.go i H ∧ ∃ Nx : Hp → Prop, (∀ H', Nx H' → ∃ m', m' < m ∧ W (i + 1) m' H') ∧ ∀ x H', J.yld i H x H' → g x (wipe σ vs) H' fun σ2 H2 => wipe σ2 vs = wipe σ vs ∧ tt σ2 H2 fun b H3 =>
        if b = true then tk σ2 H3 fun y H4 => tv σ2 H4 fun z H5 => ∃ kvs k, y = kV k ∧ H5 D = some (.dK kvs) ∧ kvs.length < sizeLine ∧ Nx (upd H5 D (.dK (putK kvs k z))) else Nx H3) := by
  refine ⟨fun i m H => m = n - i ∧ i ≤ n ∧ Pv i H, ⟨n, by simp, Nat.zero_le _, h0⟩, ?_⟩
  rintro i m H ⟨rfl, hi, p⟩
  have q := hG i H hi p
  by_cases hlt : i < n
  · exact .inr ⟨w.goes i H hlt q, Pv (i + 1), fun H' p' => ⟨n - (i + 1), by omega, rfl, hlt, p'⟩, fun x H' y => hs i x H H' hlt p (w.yields i H x H' hlt q y)⟩
  · have e : i = n := by omega
    subst e
    exact .inl ⟨w.stops H q, hd H p⟩
end L2

set_option Elab.async false
set_option linter.all false
set_option maxRecDepth 100000
set_option maxHeartbeats 4000000
set_option exponentiation.threshold 500000
set_option pp.maxSteps 3000
/-! families of rules -/
namespace Fm
open PySem PySem.Spec PyProof.Rows L2 Dr Xv LamX Ps Gn
/-! ### what may be a rule -/
def inR (ns : List Int) (m : Int) : Bool := ns.all fun x => decide (0 ≤ x) && decide (x < m)
def asc (ns : List Int) : Bool := (List.zip ns (ns.drop 1)).all fun p => decide (p.1 < p.2)
def resOk (o : Option (List V)) (m : Int) : Bool := match o with
  | some xs => xs.all isNum && (!xs.isEmpty && (inR (numsV xs) m && asc (numsV xs)))
  | none => false
def ruleOk (m : V) (o : Option (List V)) (l : V) : Bool := match m with
  | .int i => within (.int i) 1 24 && (within l 1 9 && resOk o i)
  | _ => false
/-- a value of any kind, and whether it is a rule -/
inductive RlV (H : Hp) (x : V) : Bool → Prop
  | no {o : Option (List V)} : Tp H x o → short o → (∀ xs, o = some xs → xs.length ≠ 3) → RlV H x false
  | tri {m r l : V} {o : Option (List V)} : Tp H x (some [m, r, l]) → PV H m → PV H l → Tp H r o → short o → AllPV H o → RlV H x (ruleOk m o l)
theorem RlV.same {H H' : Hp} {x : V} {b : Bool} (h : RlV H x b) (s : Same H H') : RlV H' x b := by
  cases h with
  | no a b c => exact .no (a.same s) b c
  | tri a b c d e f => exact .tri (a.same s) (b.same s) (c.same s) (d.same s) e (f.same s)
/-- a value of any kind, and its items as rules -/
def FmV (H : Hp) (x : V) (o : Option (List Bool)) : Prop := ∃ q : Option (List V), Items H x q ∧ short q ∧ ((q = none ∧ o = none) ∨ ∃ (xs : List V) (bs : List Bool), q = some xs ∧ o = some bs ∧ xs.length = bs.length ∧ ∀ (i : Nat) (v : V) (b : Bool), xs[i]? = some v → bs[i]? = some b → RlV H v b)
theorem FmV.same {H H' : Hp} {x : V} {o : Option (List Bool)} (h : FmV H x o) (s : Same H H') : FmV H' x o := by
  obtain ⟨q, h1, h2, h3⟩ := h
  refine ⟨q, h1.same s, h2, h3.imp id ?_⟩
  rintro ⟨xs, bs, e1, e2, e3, h⟩
  exact ⟨xs, bs, e1, e2, e3, fun i v b a c => (h i v b a c).same s⟩
def fmOk (o : Option (List Bool)) : Bool := match o with
  | some bs => decide (bs.length ≤ 6) && bs.all id
  | none => false
/-! ### families -/
abbrev Rule : Type := Int × List Int × Int
structure GoodR (r : Rule) : Prop where
  m1 : 1 ≤ r.1
  m2 : r.1 ≤ 24
  l1 : 1 ≤ r.2.2
  l2 : r.2.2 ≤ 9
  ne : r.2.1 ≠ []
  ra : inR r.2.1 r.1 = true
  as : asc r.2.1 = true
structure Good (fam : List Rule) : Prop where
  ln : fam.length ≤ 6
  r : ∀ f ∈ fam, GoodR f
def hits (fam : List Rule) (p : Int) : List Int := (fam.filter fun r => r.2.1.contains (p.fmod r.1)).map (·.2.2)
theorem in_ints (ns : List Int) (z : Int) : inV (.int z) (ns.map V.int) = ns.contains z := by
  induction ns with
  | nil => rfl
  | cons x r ih =>
    rw [List.contains_cons, ← ih]
    show (_ || _) = _
    congr 1
    show (x == z) = (z == x)
    exact Bool.beq_comm
/-- 0 : no bound -/
def bnd (fam : List Rule) (p : Int) : Int := match hits fam p with
  | [] => 0
  | x :: r => r.foldl min x
theorem foldl_min : ∀ (r : List Int) (x : Int), r.foldl min x ∈ x :: r ∧ ∀ y ∈ x :: r, r.foldl min x ≤ y
  | [], x => ⟨List.mem_cons_self, fun y hy => by
      rw [List.mem_singleton.mp hy]
      exact Int.le_refl _⟩
  | z :: r, x => by
    obtain ⟨h1, h2⟩ := foldl_min r (min x z)
    have hm : min x z ≤ x := Int.min_le_left _ _
    have hm2 : min x z ≤ z := Int.min_le_right _ _
    refine ⟨?_, fun y hy => ?_⟩
    · show r.foldl min (min x z) ∈ _
      rcases List.mem_cons.mp h1 with h | h
      · rw [h]
        by_cases c : x ≤ z
        · rw [Int.min_eq_left c]
          exact List.mem_cons_self
        · rw [Int.min_eq_right (by omega)]
          exact List.mem_cons_of_mem _ List.mem_cons_self
      · exact List.mem_cons_of_mem _ (List.mem_cons_of_mem _ h)
    · show r.foldl min (min x z) ≤ y
      have a := h2 (min x z) List.mem_cons_self
      rcases List.mem_cons.mp hy with rfl | hy
      · omega
      · rcases List.mem_cons.mp hy with rfl | hy
        · omega
        · exact h2 y (List.mem_cons_of_mem _ hy)
theorem bnd_eq {fam : List Rule} {p m : Int} (h1 : m ∈ hits fam p) (h2 : ∀ y ∈ hits fam p, m ≤ y) : bnd fam p = m := by
  unfold bnd
  cases h : hits fam p with
  | nil =>
    rw [h] at h1
    cases h1
  | cons x r =>
    rw [h] at h1 h2
    obtain ⟨a, b⟩ := foldl_min r x
    have := h2 _ a
    have := b _ h1
    show r.foldl min x = m
    omega
theorem hits_pos {fam : List Rule} (G : Good fam) {p y : Int} (h : y ∈ hits fam p) : 1 ≤ y ∧ y ≤ 9 := by
  obtain ⟨r, hr, rfl⟩ := List.mem_map.mp h
  have g := G.r r (List.mem_filter.mp hr).1
  exact ⟨g.l1, g.l2⟩
theorem bnd_zero {fam : List Rule} {p : Int} (h : hits fam p = []) : bnd fam p = 0 := by
  unfold bnd
  rw [h]
theorem bnd_mem {fam : List Rule} {p : Int} (h : hits fam p ≠ []) : bnd fam p ∈ hits fam p := by
  unfold bnd
  cases e : hits fam p with
  | nil => exact absurd e h
  | cons x r => exact (foldl_min r x).1
theorem bnd_pos {fam : List Rule} (G : Good fam) {p : Int} (h : hits fam p ≠ []) : 1 ≤ bnd fam p ∧ bnd fam p ≤ 9 := hits_pos G (bnd_mem h)
theorem bnd_le {fam : List Rule} (G : Good fam) (p : Int) : 0 ≤ bnd fam p ∧ bnd fam p ≤ 9 := by
  by_cases h : hits fam p = []
  · rw [bnd_zero h]
    decide
  · have := bnd_pos G h
    omega
theorem hits_len {fam : List Rule} (p : Int) : (hits fam p).length ≤ fam.length := by
  unfold hits
  rw [List.length_map]
  exact List.length_filter_le _ _
/-- what bound_of tells -/
def bndV (fam : List Rule) (p : Int) : V := if bnd fam p = 0 then .non else .int (bnd fam p)
/-- the rules' objects -/
structure RulesAt (H : Hp) (ts rs : List Addr) (fam : List Rule) : Prop where
  l1 : ts.length = fam.length
  l2 : rs.length = fam.length
  at_ : ∀ (i : Nat) (t r : Addr) (f : Rule), ts[i]? = some t → rs[i]? = some r → fam[i]? = some f → H t = some (.tup [.int f.1, .ref r, .int f.2.2]) ∧ H r = some (.tup (f.2.1.map V.int))
theorem RulesAt.same {H H' : Hp} {ts rs : List Addr} {fam : List Rule} (h : RulesAt H ts rs fam) (s : Same H H') : RulesAt H' ts rs fam := ⟨h.l1, h.l2, fun i t r f a b c => ⟨s _ _ (h.at_ i t r f a b c).1, s _ _ (h.at_ i t r f a b c).2⟩⟩
theorem RulesAt.get {H : Hp} {ts rs : List Addr} {fam : List Rule} (h : RulesAt H ts rs fam) {i : Nat} {v : V} (e : (ts.map V.ref)[i]? = some v) : ∃ t r f, v = .ref t ∧ ts[i]? = some t ∧ rs[i]? = some r ∧ fam[i]? = some f ∧ H t = some (.tup [.int f.1, .ref r, .int f.2.2]) ∧ H r = some (.tup (f.2.1.map V.int)) := by
  rw [List.getElem?_map] at e
  cases et : ts[i]? with
  | none =>
    rw [et] at e
    cases e
  | some t =>
    rw [et] at e
    cases e
    have hi := (List.getElem?_eq_some_iff.mp et).1
    have er := List.getElem?_eq_getElem (l := rs) (i := i) (by rw [h.l2, ← h.l1]; exact hi)
    have ef := List.getElem?_eq_getElem (l := fam) (i := i) (by rw [← h.l1]; exact hi)
    exact ⟨t, _, _, rfl, rfl, er, ef, h.at_ _ _ _ _ et er ef⟩
def FamAt (H : Hp) (a : Addr) (fam : List Rule) : Prop := ∃ ts rs, H a = some (.lst (ts.map V.ref)) ∧ RulesAt H ts rs fam
theorem FamAt.same {H H' : Hp} {a : Addr} {fam : List Rule} (h : FamAt H a fam) (s : Same H H') : FamAt H' a fam := by
  obtain ⟨ts, rs, e, r⟩ := h
  exact ⟨ts, rs, s _ _ e, r.same s⟩
theorem ruleOk_good {f : Rule} (g : GoodR f) : ruleOk (.int f.1) (some (f.2.1.map V.int)) (.int f.2.2) = true := by
  show (within (.int f.1) 1 24 && (within (.int f.2.2) 1 9 && ((f.2.1.map V.int).all isNum && (!(f.2.1.map V.int).isEmpty && (inR (numsV (f.2.1.map V.int)) f.1 && asc (numsV (f.2.1.map V.int))))))) = true
  rw [within_yes g.m1 g.m2, within_yes g.l1 g.l2, all_num, numsV_map, g.ra, g.as]
  cases e : f.2.1 with
  | nil => exact absurd e g.ne
  | cons _ _ => rfl
theorem inR_len {ns : List Int} {m : Int} (h1 : inR ns m = true) (h2 : asc ns = true) (h3 : m ≤ 24) : ns.length ≤ 24 := by
  -- ascending from 0 below m
  have key : ∀ (l : List Int) (k : Nat), (List.zip l (l.drop 1)).all (fun p => decide (p.1 < p.2)) = true → (∀ x ∈ l, (k : Int) ≤ x ∧ x < 24) → l.length + k ≤ 24 ∨ l = [] := by
    intro l
    induction l with
    | nil => exact fun _ _ _ => .inr rfl
    | cons x r ih =>
      intro k hz hb
      refine .inl ?_
      have hx := hb x List.mem_cons_self
      cases r with
      | nil =>
        show 1 + k ≤ 24
        omega
      | cons y t =>
        have hz' : (decide (x < y) && (List.zip (y :: t) ((y :: t).drop 1)).all fun p => decide (p.1 < p.2)) = true := hz
        rw [Bool.and_eq_true, decide_eq_true_eq] at hz'
        have hmono : ∀ z ∈ y :: t, y ≤ z := by
          have : ∀ (l : List Int) (a : Int), (List.zip (a :: l) ((a :: l).drop 1)).all (fun p => decide (p.1 < p.2)) = true → ∀ z ∈ a :: l, a ≤ z := by
            intro l
            induction l with
            | nil =>
              intro a _ z hz
              rw [List.mem_singleton.mp hz]
              exact Int.le_refl _
            | cons b s ih2 =>
              intro a hq z hz
              have hq' : (decide (a < b) && (List.zip (b :: s) ((b :: s).drop 1)).all fun p => decide (p.1 < p.2)) = true := hq
              rw [Bool.and_eq_true, decide_eq_true_eq] at hq'
              rcases List.mem_cons.mp hz with rfl | hz
              · exact Int.le_refl _
              · have := ih2 b hq'.2 z hz
                omega
          exact this t y hz'.2
        rcases ih (k + 1) hz'.2 (fun z hzm => ⟨by
          have := hmono z hzm
          omega, (hb z (List.mem_cons_of_mem _ hzm)).2⟩) with h | h
        · show (y :: t).length + 1 + k ≤ 24
          omega
        · cases h
  have hb : ∀ x ∈ ns, ((0 : Nat) : Int) ≤ x ∧ x < 24 := fun x hx => by
    have z := List.all_eq_true.mp h1 x hx
    rw [Bool.and_eq_true, decide_eq_true_eq, decide_eq_true_eq] at z
    omega
  rcases key ns 0 h2 hb with h | h
  · omega
  · rw [h]
    exact Nat.zero_le _
theorem FamAt.v {H : Hp} {a : Addr} {fam : List Rule} (h : FamAt H a fam) (G : Good fam) : FmV H (.ref a) (some (fam.map fun _ => true)) := by
  obtain ⟨ts, rs, e, r⟩ := h
  have hl : (ts.map V.ref).length = (fam.map fun _ => true).length := by rw [List.length_map, List.length_map, r.l1]
  refine ⟨_, .lst e, fun xs ex => ?_, .inr ⟨_, _, rfl, rfl, hl, fun i v b e1 e2 => ?_⟩⟩
  · cases ex
    rw [List.length_map, r.l1, sizeLine_eq]
    have := G.ln
    omega
  · obtain ⟨t, q, f, rfl, _, _, ef, g1, g2⟩ := r.get e1
    rw [List.getElem?_map, ef] at e2
    cases e2
    have g := G.r f (List.mem_of_getElem? ef)
    rw [← ruleOk_good g]
    have := inR_len g.ra g.as g.m2
    exact .tri (.tup g1) (.int _) (.int _) (.tup g2) (short_ints (by omega)) (pv_ints _)
theorem fmOk_good {fam : List Rule} (G : Good fam) : fmOk (some (fam.map fun _ => true)) = true := by
  show (decide ((fam.map fun _ => true).length ≤ 6) && (fam.map fun _ => true).all id) = true
  rw [List.length_map, decide_eq_true G.ln, Bool.true_and, List.all_map]
  exact List.all_eq_true.mpr fun _ _ => rfl
end Fm
namespace Fm
open PySem PySem.Spec PyProof.Rows L2 Dr Xv LamX Ps Gn
/-- the parts whose bound leads to n -/
def mTest (fam : List Rule) (n b : Int) : Bool := decide (n.fmod b = 0) && decide (bnd fam (n.fdiv b) = b)
def nines : List Int := [9, 8, 7, 6, 5, 4, 3, 2, 1]
def mates (fam : List Rule) (n : Int) : List Int := (nines.filter (mTest fam n)).map fun b => n.fdiv b
def pS (fam : List Rule) : S := fun i => 1 - ((mates fam ((i : Int) + 1)).length : Int)
theorem mates_le (fam : List Rule) (n : Int) : (mates fam n).length ≤ 9 := by
  unfold mates
  rw [List.length_map]
  exact List.length_filter_le _ _
theorem nines_at {i : Nat} (h : i < 9) : nines[i]? = some (9 + (i : Int) * (-1)) := by
  have : ∀ i : Nat, i < 9 → nines[i]? = some (9 + (i : Int) * (-1)) := by decide
  exact this i h
theorem mates_take {fam : List Rule} {n : Int} {i : Nat} {z : Int} (h : nines[i]? = some z) : ((nines.take (i + 1)).filter (mTest fam n)).map (fun b => n.fdiv b) = ((nines.take i).filter (mTest fam n)).map (fun b => n.fdiv b) ++ if mTest fam n z then [n.fdiv z] else [] := by
  rw [List.take_succ, h, List.filter_append, List.map_append]
  show _ ++ ([z].filter _).map _ = _
  cases hc : mTest fam n z with
  | true => rw [List.filter_cons_of_pos (by exact hc)]; rfl
  | false => rw [List.filter_cons_of_neg (by rw [hc]; exact Bool.false_ne_true)]; rfl
theorem eq_bndV (fam : List Rule) (p z : Int) (h : z ≠ 0) : decide (bndV fam p = .int z) = decide (bnd fam p = z) := by
  unfold bndV
  by_cases c : bnd fam p = 0
  · have e1 : decide (V.non = V.int z) = false := decide_eq_false (fun e => nomatch e)
    have e2 : decide (bnd fam p = z) = false := decide_eq_false (by omega)
    rw [if_pos c, e1, e2]
  · rw [if_neg c]
    by_cases d : bnd fam p = z
    · have e1 : decide (V.int (bnd fam p) = V.int z) = true := decide_eq_true (by rw [d])
      rw [e1, decide_eq_true d]
    · have e1 : decide (V.int (bnd fam p) = V.int z) = false := decide_eq_false (fun e => d (by injection e))
      rw [e1, decide_eq_false d]
theorem scal_bndV (fam : List Rule) (p z : Int) : scal (bndV fam p) (.int z) = true := by
  unfold bndV
  split <;> rfl
theorem pS_le (fam : List Rule) (i : Nat) : (pS fam i).natAbs ≤ 9 := by
  have := mates_le fam ((i : Int) + 1)
  show ((1 : Int) - _).natAbs ≤ 9
  omega
theorem row_pow (fam : List Rule) (m : Nat) (hm : m ≤ 100) : ∃ B, 0 < B ∧ B ≤ 400000 ∧ (∀ k, k < m + 1 → (sS (pS fam) m k).natAbs < 2 ^ B) ∧ ∀ k, k < m + 1 → (prA (pS fam) m k).natAbs < 2 ^ B := by
  have hs : ∀ k, (sS (pS fam) m k).natAbs ≤ 2 ^ 17 := fun k => by
    have h := sS_bound (p := pS fam) (c := 9) (pS_le fam) m k
    have h2 : m * (m + 1) ≤ 100 * 101 := Nat.mul_le_mul hm (by omega)
    have e : (2 : Nat) ^ 17 = 131072 := by decide
    omega
  have ha := lg_bound (lg_prA (pS fam) m) (prA_zero _ _) (B := 2 ^ 17) (N := m) (by decide) fun k _ => hs k
  refine ⟨1701, by decide, by decide, fun k _ => ?_, fun k hk => ?_⟩
  · exact Nat.lt_of_le_of_lt (hs k) (Nat.pow_lt_pow_right (by decide) (by decide))
  · have h := ha k (by omega)
    rw [← Nat.pow_mul] at h
    exact Nat.lt_of_le_of_lt h (Nat.pow_lt_pow_right (by decide) (by omega))
end Fm
namespace Fm
open PySem PySem.Spec PyProof.Rows L2 Dr Xv LamX Ps Gn
/-! ### how often each part occurs -/
def ct (p : Int) (ns : List Int) : Nat := ns.countP fun x => x == p
def kI (p : Int) : Key := .inl p
structure TimesOf (kvs : List (Key × V)) (ns : List Int) : Prop where
  ln : kvs.length ≤ ns.length
  at_ : ∀ p : Int, valV kvs (kI p) = if p ∈ ns then some (.int (ct p ns)) else none
  ks : ∀ kv ∈ kvs, ∃ p ∈ ns, kv.1 = kI p
  nd : (kvs.map (·.1)).Nodup
theorem keys_any (kvs : List (Key × V)) (k : Key) : (kvs.any fun kv => decide (kv.1 = k)) = true ↔ k ∈ kvs.map (·.1) := by
  rw [List.any_eq_true, List.mem_map]
  constructor
  · rintro ⟨x, hx, e⟩
    exact ⟨x, hx, of_decide_eq_true e⟩
  · rintro ⟨x, hx, e⟩
    exact ⟨x, hx, decide_eq_true e⟩
theorem keys_put_in {kvs : List (Key × V)} {k : Key} {v : V} (c : k ∈ kvs.map (·.1)) : (putK kvs k v).map (·.1) = kvs.map (·.1) := by
  unfold putK
  rw [if_pos ((keys_any kvs k).mpr c), List.map_map]
  refine List.map_congr_left fun kv _ => ?_
  show (if kv.1 = k then (kv.1, v) else kv).1 = kv.1
  split <;> rfl
theorem keys_put_new {kvs : List (Key × V)} {k : Key} {v : V} (c : k ∉ kvs.map (·.1)) : (putK kvs k v).map (·.1) = kvs.map (·.1) ++ [k] := by
  unfold putK
  rw [if_neg (fun z => c ((keys_any kvs k).mp z)), List.map_append]
  rfl
theorem nodup_put {kvs : List (Key × V)} {k : Key} {v : V} (h : (kvs.map (·.1)).Nodup) : ((putK kvs k v).map (·.1)).Nodup := by
  by_cases c : k ∈ kvs.map (·.1)
  · rw [keys_put_in c]
    exact h
  · rw [keys_put_new c]
    refine List.nodup_append.mpr ⟨h, List.nodup_cons.mpr ⟨List.not_mem_nil, .nil⟩, fun a ha b hb e => ?_⟩
    rw [List.mem_singleton.mp hb] at e
    exact c (e ▸ ha)
theorem TimesOf.nil : TimesOf [] [] := ⟨Nat.le_refl _, fun p => by rw [if_neg List.not_mem_nil]; rfl, (fun kv h => by cases h), .nil⟩
theorem kI_inj {p q : Int} : kI p = kI q ↔ p = q := ⟨fun e => by injection e, fun e => by rw [e]⟩
theorem ct_snoc (p x : Int) (ns : List Int) : ct p (ns ++ [x]) = ct p ns + if x = p then 1 else 0 := by
  unfold ct
  rw [List.countP_append, List.countP_cons, List.countP_nil]
  by_cases c : x = p
  · simp [c]
  · simp [c]
theorem TimesOf.mem_put {kvs : List (Key × V)} {k : Key} {v : V} {kv : Key × V} (h : kv ∈ putK kvs k v) : kv.1 = k ∨ ∃ kv' ∈ kvs, kv.1 = kv'.1 := by
  unfold putK at h
  split at h
  · obtain ⟨kv', h1, h2⟩ := List.mem_map.mp h
    subst h2
    split
    · rename_i e
      exact .inl e
    · exact .inr ⟨kv', h1, rfl⟩
  · rcases List.mem_append.mp h with h | h
    · exact .inr ⟨kv, h, rfl⟩
    · rw [List.mem_singleton.mp h]
      exact .inl rfl
theorem TimesOf.step {kvs : List (Key × V)} {ns : List Int} {x : Int} (T : TimesOf kvs ns) : TimesOf (putK kvs (kI x) (.int (ct x ns + 1))) (ns ++ [x]) := by
  refine ⟨?_, fun p => ?_, fun kv h => ?_, nodup_put T.nd⟩
  · have := length_putK kvs (kI x) (.int (ct x ns + 1))
    have := T.ln
    rw [List.length_append]
    show _ ≤ ns.length + 1
    omega
  · rw [valV_put, T.at_ p]
    by_cases c : p = x
    · subst c
      rw [if_pos rfl, if_pos (List.mem_append_right _ (List.mem_singleton.mpr rfl)), ct_snoc, if_pos rfl]
      rfl
    · have e1 : (if x = p then 1 else 0 : Nat) = 0 := if_neg (fun e => c e.symm)
      rw [if_neg (fun e => c (kI_inj.mp e)), ct_snoc, e1, Nat.add_zero]
      by_cases m : p ∈ ns
      · rw [if_pos m, if_pos (List.mem_append_left _ m)]
      · rw [if_neg m, if_neg (fun h => ?_)]
        rcases List.mem_append.mp h with h | h
        · exact m h
        · exact c (List.mem_singleton.mp h)
  · rcases TimesOf.mem_put h with e | ⟨kv', h1, e⟩
    · exact ⟨x, List.mem_append_right _ (List.mem_singleton.mpr rfl), e⟩
    · obtain ⟨p, hp, e2⟩ := T.ks kv' h1
      exact ⟨p, List.mem_append_left _ hp, e.trans e2⟩
theorem ct_zero {p : Int} {ns : List Int} (h : p ∉ ns) : ct p ns = 0 := by
  unfold ct
  rw [List.countP_eq_zero]
  intro x hx e
  have : x = p := by simpa using e
  exact h (this ▸ hx)
theorem TimesOf.getD {kvs : List (Key × V)} {ns : List Int} (T : TimesOf kvs ns) (x : Int) : (valV kvs (kI x)).getD (.int 0) = .int (ct x ns) := by
  rw [T.at_]
  by_cases m : x ∈ ns
  · rw [if_pos m]
    rfl
  · rw [if_neg m, ct_zero m]
    rfl
/-- each part keeps its bound -/
def kpT (fam : List Rule) (ns : List Int) (p : Int) : Bool := decide (bnd fam p = 0) || decide ((ct p ns : Int) < bnd fam p)
def kp (fam : List Rule) (ns : List Int) : Bool := ns.all (kpT fam ns)
theorem valV_mem {kvs : List (Key × V)} {k : Key} {v : V} (h : valV kvs k = some v) : ∃ kv ∈ kvs, kv.1 = k := by
  unfold valV at h
  cases e : kvs.find? fun kv => decide (kv.1 = k) with
  | none =>
    rw [e] at h
    cases h
  | some kv => exact ⟨kv, List.mem_of_find?_eq_some e, of_decide_eq_true (List.find?_some (p := fun kv : Key × V => decide (kv.1 = k)) e)⟩
def keyT (fam : List Rule) (ns : List Int) (k : Key) : Bool := match k with
  | .inl p => kpT fam ns p
  | .inr _ => true
theorem TimesOf.all {kvs : List (Key × V)} {ns : List Int} (T : TimesOf kvs ns) (fam : List Rule) : (kvs.map fun kv => keyT fam ns kv.1).all id = kp fam ns := by
  rw [List.all_map, Bool.eq_iff_iff]
  unfold kp
  rw [List.all_eq_true, List.all_eq_true]
  constructor
  · intro h p hp
    have e := T.at_ p
    rw [if_pos hp] at e
    obtain ⟨kv, h1, h2⟩ := valV_mem e
    have z : keyT fam ns kv.1 = true := h kv h1
    rw [h2] at z
    exact z
  · intro h kv hk
    obtain ⟨p, hp, e⟩ := T.ks kv hk
    show keyT fam ns kv.1 = true
    rw [e]
    exact h p hp
/-- the bounds of keys -/
structure BndOf (fam : List Rule) (bvs : List (Key × V)) (ks : List Key) : Prop where
  ln : bvs.length ≤ ks.length
  at_ : ∀ p : Int, kI p ∈ ks → valV bvs (kI p) = some (bndV fam p)
theorem BndOf.step {fam : List Rule} {bvs : List (Key × V)} {ks : List Key} {x : Int} (B : BndOf fam bvs ks) : BndOf fam (putK bvs (kI x) (bndV fam x)) (ks ++ [kI x]) := by
  refine ⟨?_, fun p h => ?_⟩
  · have := length_putK bvs (kI x) (bndV fam x)
    have := B.ln
    rw [List.length_append]
    show _ ≤ ks.length + 1
    omega
  · rw [valV_put]
    by_cases c : p = x
    · subst c
      rw [if_pos rfl]
    · rw [if_neg (fun e => c (kI_inj.mp e))]
      rcases List.mem_append.mp h with h | h
      · exact B.at_ p h
      · exact absurd (kI_inj.mp (List.mem_singleton.mp h)) c
theorem lock_old {H : Hp} {d b : Addr} {kvs : List (Key × V)} {o x : HO} (hd : H d = some (.dK kvs)) (hb : H b = some o) (ho : ∀ k, o ≠ .dK k) : upd H d x b = some o := by
  rw [upd_ne (fun z => ?_)]
  · exact hb
  · rw [z, hd] at hb
    cases hb
    exact ho _ rfl
theorem FamAt.lock {H : Hp} {d a : Addr} {kvs : List (Key × V)} {x : HO} {fam : List Rule} (h : FamAt H a fam) (hd : H d = some (.dK kvs)) : FamAt (upd H d x) a fam := by
  obtain ⟨ts, rs, e, r⟩ := h
  refine ⟨ts, rs, lock_old hd e (fun _ z => nomatch z), r.l1, r.l2, fun i t q f a b c => ?_⟩
  obtain ⟨g1, g2⟩ := r.at_ i t q f a b c
  exact ⟨lock_old hd g1 (fun _ z => nomatch z), lock_old hd g2 (fun _ z => nomatch z)⟩
theorem same_lock {H H' : Hp} {d : Addr} {o : Obj} {u : HO} (hd : H d = some u) (s : Same (upd H d (.frz o u)) H') : Same H (upd H' d u) := fun b ob e => by
  by_cases c : b = d
  · subst c
    rw [hd] at e
    rw [upd_same]
    exact e
  · rw [upd_ne c]
    exact s b ob (by rw [upd_ne c]; exact e)
end Fm
namespace Fm
open PySem PySem.Spec PyProof.Rows L2 Dr Xv LamX Ps Gn
theorem ints_ne (ns : List Int) : (!PyData.eqv (.list (intsD ns)) (.list (intsD []))) = decide (ns ≠ []) := by
  cases ns with
  | nil => exact eq_no []
  | cons x r => rfl
theorem tup_ne (ns : List Int) : (!PyData.eqv (tupD ns) (tupD [])) = decide (ns ≠ []) := by
  cases ns with
  | nil => exact eq_tup []
  | cons x r => rfl
theorem FamAt.sx {H H' : Hp} {a d l c : Addr} {fam : List Rule} (h : FamAt H a fam) (D : Draw H d l c) (n : a ≠ l) (s : SameX d l H H') : FamAt H' a fam := by
  obtain ⟨ls, cs, r, t, D⟩ := D
  obtain ⟨ts, rs, e, R⟩ := h
  have nd : ∀ {b : Addr} {xs : List V}, H b = some (.tup xs) → H' b = some (.tup xs) := fun {b xs} eb => s _ _ eb (ne_of eb D.dd (fun z => by cases z)) (ne_of eb D.dl (fun z => by cases z))
  exact ⟨ts, rs, s _ _ e (ne_of e D.dd (fun z => by cases z)) n, R.l1, R.l2, fun i t r f a b c => ⟨nd (R.at_ i t r f a b c).1, nd (R.at_ i t r f a b c).2⟩⟩
theorem tup_sx {H H' : Hp} {b d l c : Addr} {xs : List V} (D : Draw H d l c) (s : SameX d l H H') (eb : H b = some (.tup xs)) : H' b = some (.tup xs) := by
  obtain ⟨ls, cs, r, t, D⟩ := D
  exact s _ _ eb (ne_of eb D.dd (fun z => by cases z)) (ne_of eb D.dl (fun z => by cases z))
end Fm
namespace Fm
open PySem PySem.Spec PyProof.Rows L2 Dr Xv LamX Ps Gn
theorem asc_of : ∀ {ns : List Int}, ns.Pairwise (· < ·) → asc ns = true
  | [], _ => rfl
  | [_], _ => rfl
  | x :: y :: r, h => by
    have h1 := List.pairwise_cons.mp h
    show (decide (x < y) && asc (y :: r)) = true
    rw [decide_eq_true (h1.1 y List.mem_cons_self), asc_of h1.2]
    rfl
/-- some numbers below i, ascending -/
def Up (ks : List Int) (i : Int) : Prop := ks.Pairwise (· < ·) ∧ ∀ x ∈ ks, 0 ≤ x ∧ x < i
theorem Up.nil : Up [] 0 := ⟨.nil, fun x h => by cases h⟩
theorem Up.le {ks : List Int} {i j : Int} (h : Up ks i) (hj : i ≤ j) : Up ks j := ⟨h.1, fun x hx => by
  have := h.2 x hx
  omega⟩
theorem Up.snoc {ks : List Int} {i : Int} (h : Up ks i) (h0 : 0 ≤ i) : Up (ks ++ [i]) (i + 1) := by
  refine ⟨List.pairwise_append.mpr ⟨h.1, List.pairwise_singleton _ _, fun x hx y hy => ?_⟩, fun x hx => ?_⟩
  · rw [List.mem_singleton.mp hy]
    exact (h.2 x hx).2
  · rcases List.mem_append.mp hx with hx | hx
    · have := h.2 x hx
      omega
    · rw [List.mem_singleton.mp hx]
      omega
theorem Up.inR {ks : List Int} {i : Int} (h : Up ks i) : inR ks i = true := List.all_eq_true.mpr fun x hx => by
  have := h.2 x hx
  rw [decide_eq_true this.1, decide_eq_true this.2]
  rfl
theorem Up.good {ks : List Int} {m l : Int} (h : Up ks m) (n : ks ≠ []) (m1 : 1 ≤ m) (m2 : m ≤ 24) (l1 : 1 ≤ l) (l2 : l ≤ 9) : GoodR (m, ks, l) := ⟨m1, m2, l1, l2, n, h.inR, asc_of h.1⟩
theorem RulesAt.snoc {H H' : Hp} {ts rs : List Addr} {fam : List Rule} {t r : Addr} {f : Rule} (h : RulesAt H ts rs fam) (s : ∀ (b : Addr) (xs : List V), H b = some (.tup xs) → H' b = some (.tup xs)) (h1 : H' t = some (.tup [.int f.1, .ref r, .int f.2.2])) (h2 : H' r = some (.tup (f.2.1.map V.int))) : RulesAt H' (ts ++ [t]) (rs ++ [r]) (fam ++ [f]) := by
  refine ⟨by rw [List.length_append, List.length_append, h.l1]; rfl, by rw [List.length_append, List.length_append, h.l2]; rfl, fun i t' r' f' a b c => ?_⟩
  by_cases hi : i < fam.length
  · rw [List.getElem?_append_left (by rw [h.l1]; exact hi)] at a
    rw [List.getElem?_append_left (by rw [h.l2]; exact hi)] at b
    rw [List.getElem?_append_left hi] at c
    have g := h.at_ i t' r' f' a b c
    exact ⟨s _ _ g.1, s _ _ g.2⟩
  · rw [List.getElem?_append_right (by rw [h.l1]; omega), h.l1] at a
    rw [List.getElem?_append_right (by rw [h.l2]; omega), h.l2] at b
    rw [List.getElem?_append_right (by omega)] at c
    by_cases z : i - fam.length = 0
    · rw [z] at a b c
      cases a
      cases b
      cases c
      exact ⟨h1, h2⟩
    · rw [List.getElem?_eq_none (by show 1 ≤ _; omega)] at a
      cases a
/-- what is drawn -/
structure Drawn (fam : List Rule) : Prop where
  ln : fam.length ≤ 3
  r : ∀ f ∈ fam, GoodR f ∧ f.1 ≤ 6 ∧ f.2.2 ≤ 4
theorem Drawn.good {fam : List Rule} (h : Drawn fam) : Good fam := ⟨by have := h.ln; omega, fun f hf => (h.r f hf).1⟩
end Fm
namespace Fm
open PySem PySem.Spec PyProof.Rows L2 Dr Xv LamX Ps Gn
/-! the data of a family -/
def ruleD (f : Rule) : PyData := .tuple [.int f.1, tupD f.2.1, .int f.2.2]
def famD (fam : List Rule) : PyData := .list (fam.map ruleD)
theorem eq_rule (f : Rule) : (!PyData.eqv (ruleD f) (ruleD f)) = false := by
  have h := eq_tup f.2.1
  simp only [Bool.not_eq_false'] at h ⊢
  simp [ruleD, PyData.eqv, PyData.eqvAll, h]
theorem eq_fam (fam : List Rule) : (!PyData.eqv (famD fam) (famD fam)) = false := by
  induction fam with
  | nil => rfl
  | cons f r ih =>
    have h := eq_rule f
    simp only [Bool.not_eq_false'] at h ih ⊢
    simp only [famD, PyData.eqv, List.map_cons] at ih ⊢
    simp [PyData.eqvAll, h, ih]
theorem rule_dp {K : PySem.W.Frag} {H : Hp} {t r : Addr} {f : Rule} (h1 : H t = some (.tup [.int f.1, .ref r, .int f.2.2])) (h2 : H r = some (.tup (f.2.1.map V.int))) : Dp K H (.ref t) (ruleD f) := .tup (SqT.of h1) (.cons (.int _) (.cons (tup_dp h2) (.cons (.int _) .nil)))
theorem RulesAt.dp {K : PySem.W.Frag} {H : Hp} : ∀ {ts rs : List Addr} {fam : List Rule}, RulesAt H ts rs fam → DpAll K H (ts.map V.ref) (fam.map ruleD)
  | [], _, [], _ => .nil
  | [], _, _ :: _, h => by
    have := h.l1
    cases this
  | _ :: _, _, [], h => by
    have := h.l1
    cases this
  | _ :: _, [], _ :: _, h => by
    have := h.l2
    cases this
  | t :: ts, r :: rs, f :: fam, h => by
    have g := h.at_ 0 t r f rfl rfl rfl
    refine .cons (rule_dp g.1 g.2) (RulesAt.dp (rs := rs) ⟨Nat.succ.inj h.l1, Nat.succ.inj h.l2, fun i t' r' f' a b c => h.at_ (i + 1) t' r' f' a b c⟩)
theorem RulesAt.vt {H : Hp} {ts rs : List Addr} {fam : List Rule} {x : V} (r : RulesAt H ts rs fam) (G : Good fam) (e : Items H x (some (ts.map V.ref))) : FmV H x (some (fam.map fun _ => true)) := by
  have hl : (ts.map V.ref).length = (fam.map fun _ => true).length := by rw [List.length_map, List.length_map, r.l1]
  refine ⟨_, e, fun xs ex => ?_, .inr ⟨_, _, rfl, rfl, hl, fun i v b e1 e2 => ?_⟩⟩
  · cases ex
    rw [List.length_map, r.l1, sizeLine_eq]
    have := G.ln
    omega
  · obtain ⟨t, q, f, rfl, _, _, ef, g1, g2⟩ := r.get e1
    rw [List.getElem?_map, ef] at e2
    cases e2
    have g := G.r f (List.mem_of_getElem? ef)
    rw [← ruleOk_good g]
    have := inR_len g.ra g.as g.m2
    exact .tri (.tup g1) (.int _) (.int _) (.tup g2) (short_ints (by omega)) (pv_ints _)
end Fm
namespace Fm
open PySem PySem.Spec PyProof.Rows L2 Dr Xv LamX Ps Gn
theorem rules_lay : ∀ l : List Rule, PyData.canLayAll0 (l.map ruleD) = true
  | [] => rfl
  | z :: r => by
    show ((PyData.canLay0 (.int z.1) && (PyData.canLay0 (tupD z.2.1) && (PyData.canLay0 (.int z.2.2) && PyData.canLayAll0 []))) && PyData.canLayAll0 (r.map ruleD)) = true
    rw [rules_lay r, tup_lay]
    rfl
theorem rules_depth : ∀ l : List Rule, PyData.depthAll (l.map ruleD) ≤ 2
  | [] => Nat.zero_le _
  | z :: r => by
    show max (PyData.depth (ruleD z)) (PyData.depthAll (r.map ruleD)) ≤ 2
    refine Nat.max_le.mpr ⟨?_, rules_depth r⟩
    have h := tup_depth z.2.1
    show max 0 (max (PyData.depth (tupD z.2.1)) (max 0 0)) + 1 ≤ 2
    omega
theorem fam_shaped (fam : List Rule) : SeqAt.shaped (famD fam) = true := by
  show (PyData.canLayAll0 (fam.map ruleD) && decide (PyData.depthAll (fam.map ruleD) + 1 ≤ 64)) = true
  rw [rules_lay, decide_eq_true (by have := rules_depth fam; omega)]
  rfl
theorem fam_dp {K : PySem.W.Frag} {H : Hp} {a : Addr} {ts rs : List Addr} {fam : List Rule} (e : H a = some (.lst (ts.map V.ref))) (r : RulesAt H ts rs fam) : Dp K H (.ref a) (famD fam) := .lst (SqL.of e) r.dp
end Fm
namespace Fm
open PySem PySem.Spec PyProof.Rows L2 Dr Xv LamX Ps Gn
theorem tup_put {H : Hp} {b D : Addr} {xs ys : List V} {o : HO} (hD : H D = some (.lst ys)) (e : H b = some (.tup xs)) : upd H D o b = some (.tup xs) := by
  rw [upd_ne (fun z => by rw [z, hD] at e; cases e)]
  exact e
theorem FamAt.put {H : Hp} {a D : Addr} {ys : List V} {o : HO} {fam : List Rule} (h : FamAt H a fam) (hD : H D = some (.lst ys)) (n : a ≠ D) : FamAt (upd H D o) a fam := by
  obtain ⟨ts, rs, e, r⟩ := h
  refine ⟨ts, rs, by rw [upd_ne n]; exact e, r.l1, r.l2, fun i t q f a b c => ?_⟩
  obtain ⟨g1, g2⟩ := r.at_ i t q f a b c
  exact ⟨tup_put hD g1, tup_put hD g2⟩
theorem FamAt.ne {H : Hp} {a D : Addr} {fam : List Rule} (h : FamAt H a fam) (n : H D = none) : a ≠ D := by
  obtain ⟨ts, rs, e, r⟩ := h
  exact ne_of_none e n
end Fm

set_option Elab.async false
set_option linter.all false
set_option maxRecDepth 100000
set_option maxHeartbeats 4000000
set_option pp.maxSteps 3000
namespace Xv
open PySem PySem.Spec PyProof.Rows L2
/-! ### x *= e, isqrt -/
def ipIc (c : Int → Int → Prop) (f : Int → Int → Int) : TIp := fun x y H Q => ∃ i j, x = .int i ∧ y = .int j ∧ c i j ∧ Q (.int (f i j)) H
theorem ip_mulW {X : Cx} : PIp X .Mult (ipIc CMulW fun i j => i * j) := by
  intro pins s σ H x y v u Q I r1 r2 h
  obtain ⟨i, j, e1, e2, c, q⟩ := h
  subst e1; subst e2
  obtain ⟨t, rfl⟩ := r1
  obtain ⟨t', rfl⟩ := r2
  exact imul_int ⟨.int _, H, I.tok _, ⟨_, rfl⟩, q⟩ c.ok
def rIsqrt : List V → Hp → VK → Prop := fun vs H Q => ∃ a : Nat, vs = [.int (a : Int)] ∧ a < 2 ^ 64 ∧ ∀ r : Nat, r * r ≤ a → a < (r + 1) * (r + 1) → Q (.int (r : Int)) H
theorem cr_isqrt {X : Cx} : CallR X (.builtin "math.isqrt") rIsqrt := by
  intro pins s σ H vs us Q I r h
  obtain ⟨a, rfl, h1, q⟩ := h
  cases r with
  | cons r rr =>
    cases rr
    obtain ⟨t, rfl⟩ := r
    refine PySem.W.mg_isqrt (by omega) (by exact_mod_cast h1) ?_
    have sp := Float64.isqrt_spec ((a : Int)).toNat
    rw [Int.toNat_natCast] at sp ⊢
    exact ⟨.int _, H, I.tok _, ⟨_, rfl⟩, q _ sp.1 sp.2⟩
/-! ### a written dict from numbers to numbers -/
def ent1 (h : Int) (k v : Int) : Value → Value → Bool
  | .int k' _, .int v' _ => decide (k' = k) && (decide (v' = v) && decide (h = hashInt k))
  | _, _ => false
theorem ent1_ok {h k v : Int} {a b : Value} (e : ent1 h k v a b = true) : ∃ t u, a = .int k t ∧ b = .int v u ∧ h = hashInt k := by
  unfold ent1 at e
  split at e
  · rename_i k' t v' u
    rw [Bool.and_eq_true, Bool.and_eq_true, decide_eq_true_eq, decide_eq_true_eq, decide_eq_true_eq] at e
    obtain ⟨rfl, rfl, e3⟩ := e
    exact ⟨t, u, rfl, rfl, e3⟩
  · cases e
def entB : List DictEntry → List (Int × Int) → Bool
  | [], [] => true
  | e :: es, (k, v) :: r => ent1 e.hash k v e.key e.val && entB es r
  | _, _ => false
structure KDI (K : PySem.W.Frag) (a : Addr) (kvs : List (Int × Int)) : Prop where
  at_ : ∃ es n, K.lookup a = some ⟨.type "dict", none, .dict es n, #[]⟩ ∧ entB es.toList kvs = true
  nd : (kvs.map (·.1)).Nodup
  low : (a == sysModules) = false
def kdiB (K : PySem.W.Frag) (a : Addr) (kvs : List (Int × Int)) : Bool := (match K.lookup a with
  | some ⟨.type "dict", none, .dict es n, sl⟩ => decide (sl.toList = []) && entB es.toList kvs
  | _ => false) && (decide (kvs.map (·.1)).Nodup && !(a == sysModules))
theorem kdiB_ok {K : PySem.W.Frag} {a : Addr} {kvs : List (Int × Int)} (h : kdiB K a kvs = true) : KDI K a kvs := by
  unfold kdiB at h
  rw [Bool.and_eq_true, Bool.and_eq_true] at h
  obtain ⟨h1, h2, h3⟩ := h
  refine ⟨?_, of_decide_eq_true h2, by cases e : (a == sysModules) with
    | false => rfl
    | true => rw [e] at h3; cases h3⟩
  split at h1
  · rename_i es n sl e
    rw [Bool.and_eq_true, decide_eq_true_eq] at h1
    obtain ⟨l⟩ := sl
    obtain ⟨h4, h5⟩ := h1
    have h4' : l = [] := h4
    subst h4'
    exact ⟨es, n, e, h5⟩
  · cases h1
def valI (kvs : List (Int × Int)) (k : Int) : Option Int := (kvs.find? fun kv => kv.1 = k).map (·.2)
theorem ent_pairs {P : Program} {w : World} : ∀ {es : List DictEntry} {kvs : List (Int × Int)}, entB es kvs = true → ∃ vs : List (Key × Value), Pairs (mixKind P w) es vs ∧ vs.map (·.1) = kvs.map (fun kv => Sum.inl kv.1) ∧ (∀ e ∈ es, ∃ k, (mixKind P w).is k e.key = true ∧ e.hash = (mixKind P w).hash k) ∧
    ∀ k : Int, (valueAt vs (Sum.inl k) = none ∧ valI kvs k = none) ∨ ∃ t v, valueAt vs (Sum.inl k) = some (.int v t) ∧ valI kvs k = some v
  | [], [], _ => ⟨[], .nil, rfl, fun e he => (nomatch he), fun k => .inl ⟨rfl, rfl⟩⟩
  | [], _ :: _, h => by cases h
  | e :: es, [], h => by cases h
  | e :: es, (k, v) :: r, h => by
    obtain ⟨eh, ek, ev⟩ := e
    have h' : (ent1 eh k v ek ev && entB es r) = true := h
    rw [Bool.and_eq_true] at h'
    obtain ⟨h1, h2⟩ := h'
    obtain ⟨vs, p1, p2, p3, p4⟩ := ent_pairs (P := P) (w := w) h2
    obtain ⟨t', u', rfl, rfl, rfl⟩ := ent1_ok h1
    refine ⟨(Sum.inl k, .int v u') :: vs, .cons (mixKind_int P w _ _) rfl p1, by rw [List.map_cons, List.map_cons, p2], fun e he => ?_, fun k2 => ?_⟩
    · rcases List.mem_cons.mp he with rfl | he
      · exact ⟨Sum.inl k, mixKind_int P w _ _, rfl⟩
      · exact p3 e he
    · by_cases c : k = k2
      · subst c
        refine .inr ⟨u', v, ?_, ?_⟩
        · simp [valueAt]
        · simp [valI]
      · have c2 : ¬ (Sum.inl k : Key) = Sum.inl k2 := fun z => c (Sum.inl.inj z)
        have e1 : valueAt ((Sum.inl k, Value.int v u') :: vs) (Sum.inl k2) = valueAt vs (Sum.inl k2) := by simp [valueAt, List.find?_cons, c]
        have e2 : valI ((k, v) :: r) k2 = valI r k2 := by simp [valI, List.find?_cons, c]
        rw [e1, e2]
        exact p4 k2
theorem kdi_dict {X : Cx} {pins : List (Addr × Obj)} {σ : L2.St} {H : Hp} {s : Shared} {a : Addr} {kvs : List (Int × Int)} (I : Inv X pins σ H s) (D : KDI X.K a kvs) : ∃ vs : List (Key × Value), s.heap.DictOf (mixKind X.prog X.w) a vs ∧
    ∀ k : Int, (valueAt vs (Sum.inl k) = none ∧ valI kvs k = none) ∨ ∃ t v, valueAt vs (Sum.inl k) = some (.int v t) ∧ valI kvs k = some v := by
  obtain ⟨⟨es, n, hl, he⟩, nd, _⟩ := D
  obtain ⟨vs, p1, p2, p3, p4⟩ := ent_pairs (P := X.prog) (w := X.w) he
  refine ⟨vs, ⟨_, es, n, I.kIn _ _ hl, ⟨rfl, rfl, rfl⟩, rfl, fun e he => p3 e (Array.mem_toList_iff.mpr he), p1, ?_⟩, p4⟩
  rw [p2]
  have e : kvs.map (fun kv => (Sum.inl kv.1 : Key)) = (kvs.map (·.1)).map Sum.inl := by rw [List.map_map]; rfl
  rw [e]
  exact List.Pairwise.map Sum.inl (fun a b h z => h (Sum.inl.inj z)) nd
def rNotInKDI (K : PySem.W.Frag) : R2 := fun x y H Q => ∃ p kvs k, x = .int k ∧ y = .ref p ∧ KDI K p kvs ∧ Q (.bl (!(valI kvs k).isSome)) H
theorem op_notIn_kdi {X : Cx} : OpR X (compareOp .NotIn) (rNotInKDI X.K) := by
  intro pins s σ H x y v u Q I rx ry h
  obtain ⟨p, kvs, k, rfl, rfl, D, q⟩ := h
  obtain ⟨t, rfl⟩ := rx
  obtain rfl : u = Value.ref p := ry
  obtain ⟨vs, dd, hv⟩ := kdi_dict I D
  refine wpAny_notIn_of (mixKind_int X.prog X.w k t) D.low dd.mapOf ?_
  have e : (valueAt vs (Sum.inl k)).isSome = (valI kvs k).isSome := by
    rcases hv k with ⟨h1, h2⟩ | ⟨t, v, h1, h2⟩ <;> rw [h1, h2] <;> rfl
  rw [e]
  exact ⟨.bl _, H, I.tok _, rfl, q⟩
def rIxKDI (K : PySem.W.Frag) : R2 := fun x y H Q => ∃ p kvs k v, x = .ref p ∧ y = .int k ∧ KDI K p kvs ∧ valI kvs k = some v ∧ Q (.int v) H
theorem ix_kdi {X : Cx} : IxR X (rIxKDI X.K) := by
  intro value slice pins s σ H x y v u Q I rx ry h hs
  obtain ⟨p, kvs, k, z, rfl, rfl, D, e, q⟩ := h
  obtain rfl : v = Value.ref p := rx
  obtain ⟨t, rfl⟩ := ry
  obtain ⟨vs, dd, hv⟩ := kdi_dict I D
  rcases hv k with ⟨_, h2⟩ | ⟨t', v', h1, h2⟩
  · rw [h2] at e
    cases e
  · rw [h2] at e
    cases e
    exact tail_any dd.mapOf.typeIs slot_dict_getitem.lookup (wpAny_getItem_of (mixKind_int X.prog X.w k t) dd.mapOf h1 ⟨.int _, H, I.tok _, ⟨_, rfl⟩, q⟩) hs
end Xv

set_option Elab.async false
set_option linter.all false
set_option maxRecDepth 100000
set_option maxHeartbeats 4000000
set_option pp.maxSteps 3000
/-! a range that is kept, walked -/
namespace Gn
open PySem PySem.Spec PyProof.Rows L2 Dr Xv LamX Ps
def iRgv (tl : TE) : TI := fun σ H R => tl σ H fun x H1 => ∃ a i j c n, x = .ref a ∧ H1 a = some (RgX a i j c) ∧ RgC i j c n ∧ R (Itc i c n) H1
theorem pi_rgv {X : Cx} {tg l : Expr} {tl : TE} (hl : PE X l tl) : PI X tg l (iRgv tl) := by
  refine ⟨fun pins s σ H R I h => ?_⟩
  refine thn (hl.run pins s σ H _ I h) fun v s1 ⟨x, H1, I1, r1, q1⟩ => ?_
  obtain ⟨a, i, j, c, n, rfl, ha, hr, q⟩ := q1
  cases r1
  have ho : ObjOk X.prog X.w H1 s1.heap a (RgX a i j c) := I1.hok a _ ha
  obtain ⟨⟨t, u, v, e⟩, _⟩ := ho
  refine wpAny_pyIter_range e hr.2.2.1 ?_
  refine pi_one (tk := s1.toks) I1 _ (turn_rangeC _ i c n) ?_ q
  have e1 : i + ((0 : Nat) : Int) * c = i := by simp
  have e2 : (n : Int) - ((0 : Nat) : Int) = Builtin.Range.rangeSize i j c := by rw [hr.2.2.2]; simp
  show IsRangeIter _ _ (i + ((0 : Nat) : Int) * c) ((n : Int) - ((0 : Nat) : Int)) c
  rw [e1, e2]
  exact Heap.get?_push_size _ rfl

end Gn

set_option Elab.async false
set_option linter.all false
set_option maxRecDepth 100000
set_option maxHeartbeats 4000000
set_option pp.maxSteps 3000
/-! lambdas that are kept (in a list) and called later, within a comprehension of the def that made them -/
namespace Xv
open PySem PySem.Spec PyProof.Rows L2 LamX
/-- the function object itself, known for good -/
def LamZ (f : Addr) (ob : Obj) : HO := .frz ob (.ext fun g => g.get? f = some ob)
theorem lamZ_ok {P : Program} {w : World} {H : Hp} {g : Heap} {f : Addr} {ob : Obj} (e : g.get? f = some ob) : ObjOk P w H g f (LamZ f ob) :=
  ⟨e, e, ⟨ob, e⟩, fun _ _ q st => st _ q⟩
/-- ob is a lambda that X made; its body reads as t -/
def LamIs (X : Cx) (k : Nat) (t : XK → TE) (ob : Obj) (cA : Addr) : Prop := ∃ (prm : Arguments) (bd : Expr) (sc : Scope) (pm ctv : Value),
  ob = PySem.W.kla_obj "<lambda>" (X.env.qual ++ "<lambda>") prm bd sc (cloFrom X.env.cells sc.names []) pm cA ctv ∧ LamS X.env.scope sc ∧
  (∀ (q : Str) (cl : List (Str × Addr)) (p1 p2 p3 : Value), bindArgs (PySem.W.kla_fn "<lambda>" q prm bd sc cl p1 p2 p3) ⟨[], []⟩ = pure []) ∧
  ∀ (B : Around) (outs : List Env) (s : Shared) (H : Hp) (E : XK) (f c' : Addr), Room k (B.deeper (lamEnv X sc s.heap.objs.size f c')) → PE (lamCx X B outs s H E sc f c') bd (t E)
/-- at f stands a lambda of X that reads as t -/
def LamAt (H : Hp) (X : Cx) (k : Nat) (f : Addr) (t : XK → TE) : Prop := ∃ (ob : Obj) (cA : Addr), H f = some (LamZ f ob) ∧ H cA = some (CodeO cA (X.env.qual ++ "<lambda>")) ∧ LamIs X k t ob cA
theorem lamZ_ne {f : Addr} {ob : Obj} (ps : Array Value) : LamZ f ob ≠ .tbl ps := fun z => by
  unfold LamZ at z
  cases z
theorem LamAt.ext {H H' : Hp} {X : Cx} {k : Nat} {f : Addr} {t : XK → TE} (h : LamAt H X k f t) (e : ExtN H H') : LamAt H' X k f t := by
  obtain ⟨ob, cA, h1, h2, h3⟩ := h
  exact ⟨ob, cA, e _ _ h1 lamZ_ne, e _ _ h2 codeO_ne, h3⟩
theorem LamAt.same {H H' : Hp} {X : Cx} {k : Nat} {f : Addr} {t : XK → TE} (h : LamAt H X k f t) (e : ∀ b o, H b = some o → H' b = some o) : LamAt H' X k f t := h.ext fun b o q _ => e b o q
section
variable {X : Cx} {pins : List (Addr × Obj)} {σ : L2.St} {H : Hp} {s : Shared}
/-- the lambda's object is laid, and known -/
theorem lam_laid {f cA : Addr} {g : Heap} {tk tk' : Nat} {ob : Obj} (fr : ob.isFreed = false) (J : Inv X pins σ H { s with heap := g, toks := tk }) (hf : f = g.objs.size) : Inv X pins σ (upd H f (LamZ f ob)) { s with heap := g.push ob, toks := tk' } := by
  subst hf
  exact J.laid (a := g.objs.size) (t' := tk') (fun b o e => Heap.get?_push_of_some _ e) (Nat.le_refl _) (lamZ_ok (Heap.get?_push_size _ fr))
theorem lam_made {T : List (Addr × Str)} {c P : Addr} {prm : Arguments} {bd : Expr} {sc : Scope} {pos : Pos} {E : Value → Shared → Prop} {Q : Value → Shared → Prop} (I : Inv X pins σ H s) (TB : TabB X.base X.mg c P) (hcode : X.env.code = .ref c)
    (hm : (P, X.env.qual ++ "<lambda>") ∈ T) (hu : ∀ p ∈ T, p.1 = P → p.2 = X.env.qual ++ "<lambda>") (hT : Tabs T H) (hdef : defaultsOf prm X.env = ([], [])) (hfree : ∀ y ∈ sc.names, y.2 = .free → ∃ c, X.env.cells.lookup y.1 = some c)
    (go : ∀ (f cA : Addr) (pm ctv : Value) (H1 : Hp) (s' : Shared), Inv X pins σ H1 s' → ExtN H H1 → Tabs T H1 → H f = none →
      H1 f = some (LamZ f (PySem.W.kla_obj "<lambda>" (X.env.qual ++ "<lambda>") prm bd sc (cloFrom X.env.cells sc.names []) pm cA ctv)) → H1 cA = some (CodeO cA (X.env.qual ++ "<lambda>")) → Q (.ref f) s') :
    wpAny (model X.prog X.w) X.A (eval (.Lambda prm bd sc pos) X.env) Q E s := by
  obtain ⟨tab, atP, ord, told⟩ := hT _ hm
  have bltP : s.heap.BuiltinsAt X.mg P := TB.bm.keeps I.bk
  have heapP : s.heap.get? P = some { cls := .none, data := .fields tab } := I.hok P _ atP
  refine PySem.W.kla_eval hdef ?_
  cases seen : codeAmong pos tab.toList with
  | some cv =>
    obtain ⟨cA, rfl, hcA⟩ := told pos cv seen
    refine PySem.W.kla_makeFunctionHit (mg := X.mg) (c := c) (P := P) (ps := tab) (closure_ok hfree) I.ok.glob (I.mod.glob.keeps I.bk) hcode (TB.code.keeps I.bk) heapP ord seen bltP fun ctv g tk kp ge => ?_
    have J : Inv X pins σ H { s with heap := g, toks := tk } := I.kept kp
    have nf : H g.objs.size = none := I.hok.fresh ge
    have eN : ExtN H (upd H g.objs.size (LamZ g.objs.size (PySem.W.kla_obj "<lambda>" (X.env.qual ++ "<lambda>") prm bd sc (cloFrom X.env.cells sc.names []) ((X.mg "__name__").getD .none) cA ctv))) := fun b o e _ => by
      rw [upd_ne (ne_of_none e nf)]
      exact e
    refine go g.objs.size cA ((X.mg "__name__").getD .none) ctv _ _ (lam_laid (cA := cA) (tk' := tk) rfl J rfl) eN (hT.ext fun b o e => ?_) nf upd_same (eN _ _ hcA codeO_ne)
    rw [upd_ne (ne_of_none e nf)]
    exact e
  | none =>
    refine PySem.W.kla_makeFunction (mg := X.mg) (c := c) (P := P) (ps := tab) (closure_ok hfree) I.ok.glob (I.mod.glob.keeps I.bk) hcode (TB.code.keeps I.bk) heapP ord seen TB.gP bltP fun cA ctv g tk kp ge lt rec tabNow => ?_
    obtain ⟨cB, oc, fs, tq, eB, hoc, hdt, hfs⟩ := rec
    cases eB
    have nA : H cA = none := I.hok.fresh ge
    have J := inv_table (t' := tk) (more := #[rawInt pos.line, rawInt pos.col, .ref cA]) (h' := g) I atP (fun b o hb e => kp b o hb e) tabNow ge ⟨oc, fs, tq, hoc, hdt, hfs⟩
    have sz : s.heap.objs.size ≤ g.objs.size := Nat.le_trans ge (Nat.le_of_lt lt)
    have nf : H g.objs.size = none := I.hok.fresh sz
    have nP : g.objs.size ≠ P := Nat.ne_of_gt (Nat.lt_of_lt_of_le (Heap.lt_size heapP) sz)
    have nC : g.objs.size ≠ cA := Nat.ne_of_gt lt
    have eN : ExtN H (upd (upd (upd H P (.tbl (tab ++ #[rawInt pos.line, rawInt pos.col, .ref cA]))) cA (CodeO cA (X.env.qual ++ "<lambda>"))) g.objs.size
        (LamZ g.objs.size (PySem.W.kla_obj "<lambda>" (X.env.qual ++ "<lambda>") prm bd sc (cloFrom X.env.cells sc.names []) ((X.mg "__name__").getD .none) cA ctv))) := fun b o e n => by
      have nb : b ≠ P := fun z => by
        rw [z, atP] at e
        exact n tab (Option.some.inj e).symm
      rw [upd_ne (ne_of_none e nf), upd_ne (ne_of_none e nA), upd_ne nb]
      exact e
    refine go g.objs.size cA ((X.mg "__name__").getD .none) ctv _ _ (lam_laid (cA := cA) (tk' := tk) rfl J rfl) eN (fun p hp => ?_) nf upd_same (by rw [upd_ne nC.symm, upd_same])
    by_cases hb : p.1 = P
    · rw [hu p hp hb, hb]
      refine ⟨tab ++ #[rawInt pos.line, rawInt pos.col, .ref cA], by rw [upd_ne nP.symm, upd_ne (ne_of_none atP nA), upd_same], ?_, fun p' cv hcv => ?_⟩
      · rw [Array.toList_append]
        exact PySem.TriplesOk_snoc _ _ _ _ ord
      · rw [Array.toList_append] at hcv
        rcases among_app _ ord hcv with z | z
        · obtain ⟨c0, e1, e2⟩ := told p' cv z
          exact ⟨c0, e1, eN _ _ e2 codeO_ne⟩
        · exact ⟨cA, z, by rw [upd_ne nC.symm, upd_same]⟩
    · obtain ⟨tab', a1, a2, a3⟩ := hT p hp
      refine ⟨tab', by rw [upd_ne (ne_of_none a1 nf), upd_ne (ne_of_none a1 nA), upd_ne hb]; exact a1, a2, fun p' cv hcv => ?_⟩
      obtain ⟨c0, e1, e2⟩ := a3 p' cv hcv
      exact ⟨c0, e1, eN _ _ e2 codeO_ne⟩
end
/-- lambda: body, as a value -/
def tLamV (X : Cx) (T : List (Addr × Str)) (k : Nat) (t : XK → TE) : TE := fun _ H Q => Tabs T H ∧ ∀ f H1, ExtN H H1 → Tabs T H1 → H f = none → LamAt H1 X k f t → Q (.ref f) H1
theorem pe_lamv {X : Cx} {T : List (Addr × Str)} {c P : Addr} {k : Nat} {prm : Arguments} {bd : Expr} {sc : Scope} {t : XK → TE} {pos : Pos} (TB : TabB X.base X.mg c P) (hcode : X.env.code = .ref c) (hmT : (P, X.env.qual ++ "<lambda>") ∈ T) (hu : ∀ p ∈ T, p.1 = P → p.2 = X.env.qual ++ "<lambda>")
    (L : LamS X.env.scope sc) (hdef : defaultsOf prm X.env = ([], [])) (hbind : ∀ (q : Str) (cl : List (Str × Addr)) (p1 p2 p3 : Value), bindArgs (PySem.W.kla_fn "<lambda>" q prm bd sc cl p1 p2 p3) ⟨[], []⟩ = pure [])
    (hbody : ∀ (B : Around) (outs : List Env) (s : Shared) (H : Hp) (E : XK) (f c' : Addr), Room k (B.deeper (lamEnv X sc s.heap.objs.size f c')) → PE (lamCx X B outs s H E sc f c') bd (t E)) :
    PE X (.Lambda prm bd sc pos) (tLamV X T k t) := by
  refine ⟨fun pins s σ H Q I h => ?_⟩
  obtain ⟨hT, h⟩ := h
  exact lam_made I TB hcode hmT hu hT hdef (L.has I.ok) fun f cA pm ctv H1 s' J eN T1 nf hf hc => ⟨.ref f, H1, J, rfl, h f H1 eN T1 nf ⟨_, cA, hf, hc, prm, bd, sc, pm, ctv, rfl, L, hbind, hbody⟩⟩
/-! a comprehension whose block may ask what its def knows -/
section
variable {X : Cx}
theorem lc_own {pins : List (Addr × Obj)} {s : Shared} {σ : L2.St} {H : Hp} {Q : VK} {elt tg src : Expr} {ifs : List Expr} {bs : Scope} {own : List (Str × Nat)} {pos pos' : Pos} {wi : TI} {g : TG} {tt : TT} {te : TE} {use : Option (Value → Sem Unit)} {Qf : Value → Shared → Prop}
    (I : Inv X pins σ H s) (calm : X.calm = true) (nd : X.N.Nodup) (hi : PI X tg src wi) (ok : BlkOk X.N X.env.scope bs own) (hs : ∀ x, foldedSetIterable src X.env x = pure x)
    (hg : ∀ (s' : Shared) (H' : Hp) (C : Addr) (cl : List (Str × Addr)) (fp : List Addr), PG (X.blk s' H' bs (compEnvC bs cl C X.env) fp) tg g)
    (ht : ∀ (s' : Shared) (H' : Hp) (C : Addr) (cl : List (Str × Addr)) (fp : List Addr), Inv X pins σ H' s' → (∀ b ∈ fp, FpOk X pins H' b ∧ b < s'.heap.objs.size) → PTs (X.blk s' H' bs (compEnvC bs cl C X.env) fp) ifs tt)
    (he : ∀ (s' : Shared) (H' : Hp) (C : Addr) (cl : List (Str × Addr)) (fp : List Addr), Inv X pins σ H' s' → (∀ b ∈ fp, FpOk X pins H' b ∧ b < s'.heap.objs.size) → PE (X.blk s' H' bs (compEnvC bs cl C X.env) fp) elt te)
    (want : tLc wi g tt te (own.map (·.2)) σ H Q)
    (back : ∀ L C s' m H', Inv X pins σ H' s' → Q (.ref L) H' → s'.heap.Ns C m → FpOk X pins H' C → compPost (model X.prog X.w) X.A X.xe use Qf (.ref L) C (.ok .next) s') :
    wpAny (model X.prog X.w) X.A (comprehension (.ListComp elt [⟨tg, src, ifs, 0⟩] bs pos) bs X.env pos' (newList []) false (eval src X.env) use) Qf X.xe s := by
  have cellsThere : ∀ y ∈ bs.names, y.2 = .free → ∃ c, X.env.cells.lookup y.1 = some c := fun y hy e => (ok.free y hy e).elim (fun k => I.ok.has _ (.inl k)) fun k => I.ok.has _ (.inr k)
  refine wpAny_comprehension_free (use := use) rfl hs (closure_ok cellsThere) ok.kind (fun y hy e => by rw [ok.uniq y hy, e]) (thn (hi.run pins s σ H _ I want) fun v0 sa ha => thn ha fun v1 sb hb => ?_)
  obtain ⟨it, fp, on, J, Hb, ev, Ib, tr, on0, fo, rest⟩ := hb
  subst ev
  refine wpAny_newObj_type (newEnv_comp ?_) (by show 0 ≤ sizeLine; decide)
  -- the new list
  generalize eL : sb.heap.objs.size = L
  obtain ⟨W, ⟨n0, w0⟩, turn⟩ := rest L (Ib.hok.fresh (Nat.le_of_eq eL))
  generalize e3 : ({ sb with heap := sb.heap.push { cls := .type "list", data := .seq ([] : List Value).toArray } } : Shared) = sc
  have hsc : sc.heap = sb.heap.push { cls := .type "list", data := .seq ([] : List Value).toArray } := by rw [← e3]
  have Ic : Inv X pins σ (upd Hb L (.lst [])) sc := by
    rw [← e3]
    refine Ib.laid (t' := sb.toks) (fun b o e => Heap.get?_push_of_some _ e) (Nat.le_of_eq eL) ⟨Nat.zero_le _, [], 0, .nil, ?_⟩
    exact eL ▸ Heap.get?_push_size _ rfl
  have older : ∀ b ∈ fp, b < sb.heap.objs.size := fun b hb => let ⟨_, e, _⟩ := tr.obj _ _ on0 b hb; Heap.lt_size e
  have fo3 : ∀ b ∈ fp, FpOk X pins (upd Hb L (.lst [])) b ∧ b < sc.heap.objs.size := fun b hb => by
    have lt := older b hb
    refine ⟨⟨?_, (fo b hb).2⟩, by rw [hsc, Heap.size_push]; exact Nat.lt_succ_of_lt lt⟩
    rw [upd_ne (fun z => by rw [z, ← eL] at lt; exact Nat.lt_irrefl _ lt)]
    exact (fo b hb).1
  have on3 : on 0 sc.heap := tr.keep _ _ _ on0 fun b _ o e => by rw [hsc]; exact Heap.get?_push_of_some _ e
  have Id := block_start Ic ok nd fo3
  generalize eC : cellsFrom (sc.heap.objs.size + 1) bs.names (cloFrom X.env.cells bs.names []) = cl at Id
  have pG := hg sc (upd Hb L (.lst [])) sc.heap.objs.size cl fp
  have pT := ht sc (upd Hb L (.lst [])) sc.heap.objs.size cl fp Ic fo3
  have pE := he sc (upd Hb L (.lst [])) sc.heap.objs.size cl fp Ic fo3
  show codeAny _ _ (.compStart (.ListComp elt [⟨tg, src, ifs, 0⟩] bs pos) 0 (.ref it) (.ref L) (compEnvC bs cl sc.heap.objs.size X.env)) (compPost (model X.prog X.w) X.A X.xe use Qf (.ref L) sc.heap.objs.size) { sc with heap := pushCells (sc.heap.push { cls := .type "dict", data := .dict #[] }) bs.names }
  have gone : ∀ b ∈ fp, (upd Hb L (.lst [])) b = none := fun b hb => (fo3 b hb).1.1
  generalize eEnv : compEnvC bs cl sc.heap.objs.size X.env = env at Id pG pT pE ⊢
  have locs : env.locals = sc.heap.objs.size := by rw [← eEnv]; rfl
  generalize eH : upd Hb L (.lst []) = Hc at Ic Id pG pT pE w0 gone fo3
  generalize e4 : ({ sc with heap := pushCells (sc.heap.push { cls := .type "dict", data := .dict #[] }) bs.names } : Shared) = sd at Id ⊢
  have on4 : on 0 sd.heap := tr.keep _ _ _ on3 fun b _ o e => by rw [← e4]; exact pushCells_keeps _ _ _ _ (Heap.get?_push_of_some _ e)
  have still : ∀ {σ' : L2.St} {H' : Hp} {s' : Shared}, Inv (X.blk sc Hc bs env fp) [] σ' H' s' → (∀ b ∈ fp, H' b = none) → ∀ b ∈ fp, FpOk (X.blk sc Hc bs env fp) [] H' b := fun {_ _ _} J' none' b hb =>
    ⟨none' b hb, (J'.ok.exf b hb).1, J'.ok.exfs b hb, .inl hb, fun x c e => (J'.ok.exf b hb).2 x c e, fun p hp => absurd (show p ∈ ([] : List (Addr × Obj)) ++ [] from hp) (by simp)⟩
  have loop : codeAny (model X.prog X.w) X.A (.compLoop (.ListComp elt [⟨tg, src, ifs, 0⟩] bs pos) 0 (.ref it) (.ref L) env) (compPost (model X.prog X.w) X.A X.xe use Qf (.ref L) sc.heap.objs.size) sd := by
    refine compLoop_any (fun n s' => ∃ i H', Inv (X.blk sc Hc bs env fp) [] (wipe σ (own.map (·.2))) H' s' ∧ on i s'.heap ∧ (∀ b ∈ fp, H' b = none) ∧ W i n H') (fun n se hI => ?_) n0 ⟨0, Hc, Id, on4, gone, w0⟩
    obtain ⟨i, He, Ie, onE, goneE, wE⟩ := hI
    rcases turn i n He wE with ⟨stop, q⟩ | ⟨more, Nx, next, step⟩
    · refine thnF (tr.done (X.blk sc Hc bs env fp) rfl rfl rfl calm i [] se _ He (fun _ _ => False) Ie (still Ie goneE) onE stop) fun r sf hr => ?_
      obtain ⟨rfl, If⟩ := hr
      have Ig : Inv X pins σ He sf := Ic.call' (ch := fp) If.os If.base If.hok If.bare fun b hb => ⟨(fo3 b hb).1.2.2.2.1, (fo3 b hb).1.2.1, (fo3 b hb).1.2.2.2.2.1, (fo3 b hb).1.2.2.2.2.2⟩
      have noFrame : He sc.heap.objs.size = none := locs ▸ (show He env.locals = none from If.free)
      obtain ⟨m, ns, _⟩ := If.loc
      exact back L sc.heap.objs.size sf m He Ig q (locs ▸ (show sf.heap.Ns env.locals m from ns)) (Ic.fpOk (Nat.le_refl _) noFrame)
    · refine thnF (tr.item (X.blk sc Hc bs env fp) rfl rfl rfl calm i [] se _ He (fun _ _ => False) Ie (still Ie goneE) onE more) fun r sf hr => ?_
      obtain ⟨u, rfl, hf⟩ := hr
      refine thnF hf fun _ sg hG => ?_
      obtain ⟨x, Hg, Ig, rg, yg, onG, goneG⟩ := hG
      have Ip := Ig.pinned (still Ig goneG) (tr.obj _ _ onG)
      refine thnF (pG.run _ sg _ Hg x u _ Ip rg (step x Hg yg)) fun _ sh hH => ?_
      obtain ⟨σh, Hh, Ih, wh, qh⟩ := hH
      refine thnF (pT.run _ sh σh Hh _ Ih qh) fun b sj hJ => ?_
      obtain ⟨Hj, Ij, qj⟩ := hJ
      have turned : ∀ {s' : Shared} {H' : Hp}, Inv (X.blk sc Hc bs env fp) ([] ++ pinsAt fp sg.heap) σh H' s' → Nx H' → ∃ m, m < n ∧ ∃ i H', Inv (X.blk sc Hc bs env fp) [] (wipe σ (own.map (·.2))) H' s' ∧ on i s'.heap ∧ (∀ b ∈ fp, H' b = none) ∧ W i m H' := fun {s' H'} J' nx => by
        obtain ⟨m, lt, w'⟩ := next H' nx
        have held : ∀ b ∈ fp, ∀ o, sg.heap.get? b = some o → s'.heap.get? b = some o ∧ H' b = none := fun b hb o e =>
          have z := J'.pin (b, o) (List.mem_append_right _ (List.mem_append_right _ (mem_pinsAt hb e)))
          ⟨z.1, z.2.1⟩
        have len : (wipe σ (own.map (·.2))).length = σh.length := by rw [← wh, wipe_length]
        refine ⟨m, lt, i + 1, H', (J'.unpinned (pins := [])).weak len (fun j v e => ?_), tr.keep _ _ _ onG fun b hb o e => (held b hb o e).1, fun b hb => ?_, w'⟩
        · exact (wipe_some (wh ▸ e)).1
        · obtain ⟨o, e, _⟩ := tr.obj _ _ onG b hb
          exact (held b hb o e).2
      cases b with
      | true =>
        simp only [if_true] at qj ⊢
        refine thnF (pE.run _ sj σh Hj _ Ij qj) fun z sk hK => ?_
        obtain ⟨yv, Hk, Ik, rk, acc, hL, room, nx⟩ := hK
        exact app_ok (X := X.blk sc Hc bs env fp) Ik hL room rk fun sl Il => turned Il nx
      | false =>
        simp only [Bool.false_eq_true, if_false] at qj ⊢
        exact turned Ij qj
  exact codeAny_compStart_list loop (tr.self X.A 0 _ _ _ on4 loop)
/-- [elt for tg in src if ..]: what the block reads may speak of the slots as they were -/
def tLcK (wi : TI) (g : TG) (tt : L2.St → TT) (te : L2.St → TE) (vs : List Nat) : TE := fun σ H Q => tLc wi g (tt σ) (te σ) vs σ H Q
theorem pe_lcK {elt tg src : Expr} {ifs : List Expr} {bs : Scope} {own : List (Str × Nat)} {pos : Pos} {wi : TI} {g : TG} {tt : L2.St → TT} {te : L2.St → TE} (calm : X.calm = true) (nd : X.N.Nodup) (hi : PI X tg src wi) (ok : BlkOk X.N X.env.scope bs own)
    (hg : ∀ (s' : Shared) (H' : Hp) (C : Addr) (cl : List (Str × Addr)) (fp : List Addr), PG (X.blk s' H' bs (compEnvC bs cl C X.env) fp) tg g)
    (ht : ∀ (pins : List (Addr × Obj)) (σ : L2.St) (s' : Shared) (H' : Hp) (C : Addr) (cl : List (Str × Addr)) (fp : List Addr), Inv X pins σ H' s' → (∀ b ∈ fp, FpOk X pins H' b ∧ b < s'.heap.objs.size) → PTs (X.blk s' H' bs (compEnvC bs cl C X.env) fp) ifs (tt σ))
    (he : ∀ (pins : List (Addr × Obj)) (σ : L2.St) (s' : Shared) (H' : Hp) (C : Addr) (cl : List (Str × Addr)) (fp : List Addr), Inv X pins σ H' s' → (∀ b ∈ fp, FpOk X pins H' b ∧ b < s'.heap.objs.size) → PE (X.blk s' H' bs (compEnvC bs cl C X.env) fp) elt (te σ))
    (hs : ∀ x, foldedSetIterable src X.env x = pure x := by intro _; rfl) :
    PE X (.ListComp elt [⟨tg, src, ifs, 0⟩] bs pos) (tLcK wi g tt te (own.map (·.2))) := by
  refine ⟨fun pins s σ H Q I h => ?_⟩
  rw [eval_ListComp]
  refine lc_own I calm nd hi ok hs hg (ht pins σ) (he pins σ) h fun L C s' m H' J q ns fo => ⟨m, ns, fun g' keep => ?_⟩
  obtain ⟨f1, f2, f3, f4, f5, f6⟩ := fo
  exact ⟨.ref L, H', J.turned (t' := s'.toks) (fun b o hb e => (keep.2 b hb).trans e) f1 f2 f4 f5 f6, rfl, q⟩
end
/-! the kept lambda is called: by a def that got it -/
section
variable {X : Cx} {pins : List (Addr × Obj)} {σ : L2.St} {H : Hp} {s : Shared}
/-- a(), in the def that got the lambda; Inv tells the def that made it, as it stood at the call -/
theorem pe_actK {CXg : CXT} {Eg : XK} {Ng : List Str} {qg : Str} {sg : Scope} {g f cA : Addr} {cdg pm ctv : Value} {prm : Arguments} {bd : Expr} {sc : Scope} {k i : Nat} {a : Str} {pn : List (Addr × Obj)} {xe : Value → Shared → Prop} {W : WX} {E : XK} {tb : TE} {p1 p2 : Pos}
    (I : Inv X pins σ H s) (L : LamS X.env.scope sc) (known : H f = some (LamZ f (PySem.W.kla_obj "<lambda>" (X.env.qual ++ "<lambda>") prm bd sc (cloFrom X.env.cells sc.names []) pm cA ctv)))
    (hbind : bindArgs (PySem.W.kla_fn "<lambda>" (X.env.qual ++ "<lambda>") prm bd sc (cloFrom X.env.cells sc.names []) pm (.ref cA) ctv) ⟨[], []⟩ = pure [])
    (tk : Takes ((cxOf CXg X.prog X.w X.K X.mg X.base Ng qg sg g cdg X.A X.stack s H Eg).tr pn xe) W) (hW : ∀ cls d σ' H', E cls d H' → W cls d σ' H') (hr : Room (k + 1) (X.A.deeper (envOfC qg sg s.heap.objs.size g cdg)))
    (hbody : ∀ (B : Around) (outs : List Env) (s' : Shared) (H' : Hp), Room k (B.deeper (lamEnv X sc s'.heap.objs.size f cA)) → PE (lamCx X B outs s' H' E sc f cA) bd tb)
    (hN : Ng[i]? = some a) (hv : Vis sg a) (hd : (a == ("__debug__" : Str)) = false := by decide) (hcd : (a == ("__classdict__" : Str)) = false := by decide) :
    PE ((cxOf CXg X.prog X.w X.K X.mg X.base Ng qg sg g cdg X.A X.stack s H Eg).tr pn xe) (.Call (.Name a p1) [] [] p2)
      (fun σZ HZ Q => σZ[i]? = some (some (.ref f)) ∧ HZ cA = some (CodeO cA (X.env.qual ++ "<lambda>")) ∧ tb σ HZ Q) := by
  refine ⟨fun pz sz σz Hz Q Iz h => ?_⟩
  obtain ⟨at_, code, ask⟩ := h
  refine wpAny_Call_Name_kw (thn ((pe_var (pos := p1) (i := i) hN hv hd hcd).run pz sz σz Hz (fun v H1 => v = .ref f ∧ H1 = Hz) Iz ⟨.ref f, at_, rfl, rfl⟩) fun u sy hy => ?_)
  obtain ⟨v1, Hy, Iy, ry, ev, eH⟩ := hy
  subst ev
  rw [eH] at Iy
  obtain rfl : u = Value.ref f := ry
  have un : Un (frs X.stack) [] H Hz s.heap sy.heap := Iy.base
  obtain ⟨obj, _⟩ := Iy.hok f _ (un.frzs f _ _ known)
  obtain ⟨⟨oc, vs, t, hoc, hdc, hvc⟩, _, _⟩ := Iy.hok cA _ code
  refine PySem.W.callWith_F0 ⟨_, _, _, _, obj⟩ ?_
  have passes : Passes (L2.CX X.prog X.w) ((cxOf CXg X.prog X.w X.K X.mg X.base Ng qg sg g cdg X.A X.stack s H Eg).tr pn xe) E := passes_call tk hW
  have run : codeAny (model X.prog X.w) (X.A.deeper (envOfC qg sg s.heap.objs.size g cdg)) (.call (.ref f) ⟨[], []⟩) (CR (L2.CX X.prog X.w) (envOfC qg sg s.heap.objs.size g cdg :: X.stack) X.prog X.w Hz sy Q E) sy := by
    refine PySem.W.kla_callFunE hr.depth obj rfl L.co L.gen rfl ⟨cA, oc, vs, t, rfl, hoc, hdc, hvc⟩ ?_
    rw [hbind]
    refine wpAny_pure (wpAny_newFunctionEnv (fun y hy => (L.own y hy).2) (fun y hy => absurd hy (by simp)) (fun g1 ns keep => ⟨Iy.nolimit.fresh _ keep, ?_⟩) L.kind)
    show codeAny _ _ (.expr bd (lamEnv X sc sy.heap.objs.size f cA)) _ _
    have J := lam_start2 (E := E) (f := f) (c' := cA) (tk := sy.toks + ([] : List (Str × Value)).length) I L Iy.env0 hr.hd un ns fun b o e => keep.extBut b o (Nat.ne_of_lt (Heap.lt_size e)) (Heap.get?_push_of_some _ e)
    refine PySem.W.kla_codeExpr (wpAny_mono ((hbody _ _ sy Hz (hr.deeper _)).run [] _ _ Hz Q J ask) (fun v s' hq => ?_) fun e s' hq => hq)
    obtain ⟨w', H', J', rv, q⟩ := hq
    exact ⟨w', H', J'.os, J'.bare, J'.base, J'.hok, rv, q⟩
  refine wpAny_call (codeAny_mono run fun r s' hq => ?_)
  match r, hq with
  | .error e, hq => exact passes pz σz Hz sy e s' Iy hq
  | .ok (.ret u), hq => exact Iy.after hq
/-- g(work), read in the comprehension's block: work a lambda that the def made -/
def tKept (X : Cx) (k : Nat) (TT : (XK → Hp → VK → Prop) → Hp → VK → Prop) (iw : Nat) (σ0 : L2.St) : TE := fun σ H Q => ∃ (f : Addr) (t : XK → TE), σ[iw]? = some (some (.ref f)) ∧ LamAt H X k f t ∧ TT (fun E H' Q' => t E σ0 H' Q') H Q
theorem pe_kept {TT : (XK → Hp → VK → Prop) → Hp → VK → Prop} {x a wn : Str} {g : Addr} {k iw : Nat} {pg : Arguments} {bg : List Stmt} {sg : Scope} {dV kV doc pm cdv ct oc : Value} {an od : Option Addr} {osl : Array (Option Value)} {Ng : List Str} {p pw pos : Pos} {bs : Scope} {C : Addr} {cl : List (Str × Addr)} {fp : List Addr}
    (hm : X.mg x = some (.ref g)) (hk : PySem.W.keepIn X.K (.ref g) = true) (lk : X.K.lookup g = some ⟨oc, od, .func (PySem.W.fnOf x x pg bg sg dV kV doc pm an cdv ct), osl⟩) (hcg : PySem.W.codeIn X.K cdv x = true) (hb : L2.Binds X.K (PySem.W.fnOf x x pg bg sg dV kV doc pm an cdv ct) [a] [])
    (Sg : FnScope Ng [a] sg) (hNg : Ng[0]? = some a) (hva : Vis sg a) (hG : GivesTo X Ng x sg g cdv bg a (X.env.qual ++ "<lambda>") TT) (hr : Room (k + 2) X.A)
    (I : Inv X pins σ H s) (fo : ∀ b ∈ fp, FpOk X pins H b ∧ b < s.heap.objs.size) (hg : Gl (X.blk s H bs (compEnvC bs cl C X.env) fp) x) (hN : X.N[iw]? = some wn) (hv : Vis (compEnvC bs cl C X.env).scope wn)
    (hw1 : (wn == ("__debug__" : Str)) = false := by decide) (hw2 : (wn == ("__classdict__" : Str)) = false := by decide) (hdb : (x == ("__debug__" : Str)) = false := by decide) (hd : (a == ("__debug__" : Str)) = false := by decide) (hcd : (a == ("__classdict__" : Str)) = false := by decide) :
    PE (X.blk s H bs (compEnvC bs cl C X.env) fp) (.Call (.Name x p) [.Name wn pw] [] pos) (tKept X k TT iw σ) := by
  refine ⟨fun pb sb σb Hb Q Ib h => ?_⟩
  obtain ⟨f, t, at_, ⟨ob, cA, known, code, prm, bd, sc, pm', ctv, eob, L, hbind, hbody⟩, ask⟩ := h
  subst eob
  refine wpAny_Call_Name_kw (ld_glob Ib hg hm ?_ hdb)
  refine PySem.W.callWith_K (h₀ := X.base) I.ok.mod.kin hk ?_ (by rfl) (by rfl)
  show wpAny _ _ (spliced ((false, eval (.Name wn pw) (compEnvC bs cl C X.env)) :: backTo pos (starEach [] (compEnvC bs cl C X.env)))) _ _ sb
  refine Calls.spliced_cons (thn ((pe_var (X := X.blk s H bs (compEnvC bs cl C X.env) fp) (pos := pw) (i := iw) hN hv hw1 hw2).run pb sb σb Hb (fun v H1 => v = .ref f ∧ H1 = Hb) Ib ⟨.ref f, at_, rfl, rfl⟩) fun u sy hy => ?_)
  obtain ⟨v1, Hy, Iy, ry, ev, eH⟩ := hy
  subst ev
  rw [eH] at Iy
  obtain rfl : u = Value.ref f := ry
  refine Calls.spliced_nil ⟨Iy.kIn, ?_⟩
  -- the def that made the lambda, as it stands now
  have now : L2.Inv X pins σ Hb sy := I.call' (ch := fp) Iy.os Iy.base Iy.hok Iy.bare fun b hb => ⟨(fo b hb).1.2.2.2.1, (fo b hb).1.2.1, (fo b hb).1.2.2.2.2.1, (fo b hb).1.2.2.2.2.2⟩
  have run : codeAny (model X.prog X.w) X.A (.call (.ref g) ⟨[.ref f], []⟩) (CR C8.CX0 X.stack X.prog X.w Hb sy Q C8.E0) sy := by
    refine run_ofS (N := Ng) (ps := [a]) (us := [.ref f]) (vs := [.ref f]) lk hcg Sg hr now.env0 (hb sy [.ref f] now.kIn rfl) (.cons rfl .nil) rfl fun hr' => ?_
    obtain ⟨t', ht', hq'⟩ := hG f cA sy Hb Q (fun E H' Q' => t E σ H' Q') (fun W pn xe E p1 p2 tk hW => pe_actK (i := 0) now L known (hbind _ _ _ _ _) tk hW hr' (fun B outs s' H' hr2 => hbody B outs s' H' E f cA hr2) hNg hva hd hcd) code ask
    exact ⟨t', ht'.nox, hq'⟩
  refine wpAny_call (codeAny_mono run fun r s2 hq => ?_)
  match r, hq with
  | .error e, hq => exact (show False from hq).elim
  | .ok (.ret u), hq => exact Iy.after hq
end
end Xv

set_option Elab.async false
set_option linter.all false
set_option maxRecDepth 100000
set_option maxHeartbeats 4000000
set_option pp.maxSteps 3000
/-! dict(pairs) whose keys are tuples; min of a list of tuples -/
namespace Gn
open PySem PySem.Spec PyProof.Rows L2
section
variable {X : Cx}
theorem stored_fresh {κ : Type} [DecidableEq κ] (ps : List (κ × Addr × Value)) : ∀ xs : List (κ × Addr × Value), ((xs ++ ps).map (·.1)).Nodup → storedAllH xs ps = xs ++ ps := by
  induction ps with
  | nil => exact fun xs _ => (List.append_nil xs).symm
  | cons p ps ih =>
    intro xs h
    have e : atKey xs p.1 = none := by
      unfold atKey
      rw [Option.map_eq_none_iff, List.find?_eq_none]
      intro y hy z
      rw [List.map_append, List.nodup_append] at h
      exact h.2.2 y.1 (List.mem_map_of_mem hy) p.1 (List.mem_map_of_mem List.mem_cons_self) (of_decide_eq_true z)
    show storedAllH (storedH xs p.1 p.2.1 p.2.2) ps = _
    rw [storedH_new e, ih _ (by simpa using h)]
    simp
abbrev TP := List L2.Key × Addr × V
theorem tpairs_of {pins : List (Addr × Obj)} {σ : L2.St} {H : Hp} {s : Shared} (I : L2.Inv X pins σ H s) : ∀ {ps : List Addr} {ks : List TP}, Paired (fun p x => SqT X.K H p [.ref x.2.1, x.2.2] ∧ H x.2.1 = some (.tup (x.1.map kV))) ps ks →
    ∃ hs : List (List L2.Key × Addr × Value), L2.KT H (ks.map fun x => (x.1, x.2.2)) hs ∧ hs.length = ps.length ∧ hs.map (·.1) = ks.map (·.1) ∧ ∀ (j : Nat) (q : List L2.Key × Addr × Value), hs[j]? = some q → ∃ b : Addr, ps[j]? = some b ∧ s.heap.IsTuple b #[.ref q.2.1, q.2.2] ∧ H q.2.1 = some (.tup (q.1.map kV))
  | _, _, .nil => ⟨[], .nil, rfl, rfl, fun j q e => by simp at e⟩
  | _, _, .cons (a := p) (b := x) h t => by
    obtain ⟨hs, r, hl, hk, hp⟩ := tpairs_of I t
    obtain ⟨its, rv, ht, _⟩ := I.tuple h.1
    obtain ⟨u, y, ei, ru, ry⟩ := vals2 rv
    subst ei
    obtain rfl : u = Value.ref x.2.1 := ru
    refine ⟨(x.1, x.2.1, y) :: hs, .cons ⟨rfl, h.2, ry⟩ r, by rw [List.length_cons, List.length_cons, hl], by rw [List.map_cons, List.map_cons, hk], fun j q e => ?_⟩
    cases j with
    | zero =>
      have e' : (x.1, x.2.1, y) = q := Option.some.inj e
      subst e'
      exact ⟨p, rfl, ht, h.2⟩
    | succ j =>
      obtain ⟨b, e1, e2, e3⟩ := hp j q (by simpa using e)
      exact ⟨b, by simpa using e1, e2, e3⟩
/-- dict(xs) of a list of pairs (key, value), the keys tuples, no two alike -/
def rDictT (K : PySem.W.Frag) : List V → Hp → VK → Prop := fun xs H Q => ∃ (a : Addr) (ps : List Addr) (ks : List TP), xs = [.ref a] ∧ SqL K H a (ps.map V.ref) ∧ Paired (fun p x => SqT K H p [.ref x.2.1, x.2.2] ∧ H x.2.1 = some (.tup (x.1.map kV))) ps ks ∧ (ks.map (·.1)).Nodup ∧
  ∀ p, H p = none → Q (.ref p) (upd H p (.dT (ks.map fun x => (x.1, x.2.2))))
theorem call_dictT (hcalm : X.calm = true) (hu : X.A.units + 2 < cLine) : CallR X (.type "dict") (rDictT X.K) := by
  intro pins s σ H xs us Q I r q
  obtain ⟨a, ps, ks, rfl, hq, hp, nd, q⟩ := q
  obtain ⟨u, rfl, rx⟩ := vals1 r
  obtain rfl : u = Value.ref a := rx
  obtain ⟨its, rv, pl, hz⟩ := I.list hq
  obtain rfl := refs_at rv
  rw [List.length_map] at hz
  obtain ⟨hs, rel, hl, hk, hpr⟩ := tpairs_of I hp
  have hd : (hs.map (·.1)).Nodup := hk ▸ nd
  have P := PairArg.list (prog := X.prog) (w := X.w) a (ps.map Value.ref).toArray (fun j => (ps[j]?).getD 0) (hs.map fun q => (Value.ref q.2.1, q.2.2))
  rw [List.length_map] at P
  refine call_dict_pairsH (knd := tupleKind (mixKind X.prog X.w)) (ps := hs) P (I.ok.hd hcalm) ?_ ⟨?_, ?_⟩ ⟨rfl, fun i k v e => ?_⟩ (fun g kp x hx => ?_) (by rw [hl]; exact hz) fun g tk hg kp => ?_
  · show X.A.in1.in1.units < cLine
    exact hu
  · obtain ⟨o, n, ho, hc, hd, hdat⟩ := pl
    exact ⟨o, n, ho, hc, hd, hdat⟩
  · refine ⟨by simp [hl], fun j k v e => ?_⟩
    rw [List.getElem?_map] at e
    cases eq : hs[j]? with
    | none =>
      rw [eq] at e
      cases e
    | some q =>
      rw [eq] at e
      cases e
      obtain ⟨b, e1, e2, _⟩ := hpr j q eq
      refine ⟨by simp [e1], .inl ?_⟩
      show s.heap.IsTuple ((ps[j]?).getD 0) _
      rw [e1]
      exact e2
  · have e : (hs.map fun q => (Value.ref q.2.1, q.2.2))[i]? = some (k, v) := e
    rw [List.getElem?_map] at e
    cases eq : hs[i]? with
    | none =>
      rw [eq] at e
      cases e
    | some q =>
      rw [eq] at e
      cases e
      exact ⟨q.1, q.2.1, rfl, rfl⟩
  · obtain ⟨j, hj⟩ := List.mem_iff_getElem?.mp hx
    obtain ⟨b, _, _, e3⟩ := hpr j x hj
    obtain ⟨o, items, n, ho, rest⟩ := key_of I.hok e3
    exact ⟨o, items, n, kp _ _ (Nat.ne_of_lt (Heap.lt_size ho)) (fun z => nomatch z) ho, rest⟩
  · rw [stored_fresh hs [] (by simpa using hd)] at hg
    obtain ⟨o, es, ep, h1, h2, h3, h4, h5, h6⟩ := hg
    have hm : (s.heap.objs.size == sysModules) = false := beq_eq_false_iff_ne.mpr (Nat.ne_of_gt I.big)
    have nS : H s.heap.objs.size = none := I.hok.fresh (Nat.le_refl _)
    refine ⟨.ref s.heap.objs.size, upd H s.heap.objs.size (.dT (ks.map fun x => (x.1, x.2.2))), I.laid (t' := tk) (fun b o e => kp b o (fun z => nomatch z) e) (Nat.le_refl _) ?_, rfl, q _ nS⟩
    refine ⟨?_, hm, hs, L2.Paired.mapP rel fun p q z => ⟨z.1, ?_, z.2.2⟩, o, es, ep, h1, h2, h3, h4, h6⟩
    · rw [List.length_map, ← List.length_map (f := fun x : TP => x.1), ← hk, List.length_map, hl]
      exact hz
    · rw [upd_ne (ne_of_none z.2.1 nS)]
      exact z.2.1
/-- the data of a tuple of two ints -/
theorem reads_pair {pins : List (Addr × Obj)} {σ : L2.St} {H : Hp} {s : Shared} (I : L2.Inv X pins σ H s) {p : Addr} {a b : Int} (h : SqT X.K H p [.int a, .int b]) : PySem.W.Holds (α := Int × Int) s.heap (.ref p) (a, b) := by
  obtain ⟨its, rv, ⟨o, ho, hc, n, hs⟩, _⟩ := I.tuple h
  obtain ⟨u, y, rfl, ru, ry⟩ := vals2 rv
  obtain ⟨t1, rfl⟩ : ∃ t, u = Value.int a t := ru
  obtain ⟨t2, rfl⟩ : ∃ t, y = Value.int b t := ry
  exact ⟨_, .tuple ho hc hs (.cons (.int a t1) (.cons (.int b t2) .nil))⟩
theorem holds_pair {h : Heap} {p : Addr} {z : Int × Int} {a b : Int} {t1 t2 : Tok} {o : Obj} {n : Nat} (H : PySem.W.Holds h (.ref p) z) (ho : h.get? p = some o) (hs : o.data = .seq #[.int a t1, .int b t2] n) : z = (a, b) := by
  obtain ⟨as, r⟩ := H
  have r' : Reads h (.ref p) (.tuple [.int z.1, .int z.2]) as := r
  cases r' with
  | tuple e1 e2 e3 e4 =>
    rw [ho] at e1
    cases e1
    rw [hs] at e3
    cases e3
    cases e4 with
    | cons q1 q2 =>
      cases q2 with
      | cons q3 q4 =>
        obtain ⟨x, y⟩ := z
        cases q1
        cases q3
        rfl
theorem pairs_hold {pins : List (Addr × Obj)} {σ : L2.St} {H : Hp} {s : Shared} (I : L2.Inv X pins σ H s) : ∀ {ps : List Addr} {zs : List (Int × Int)}, Paired (fun p z => SqT X.K H p [.int z.1, .int z.2]) ps zs → PySem.W.HoldAll s.heap (ps.map Value.ref) zs
  | _, _, .nil => ⟨[], .nil⟩
  | _, _, .cons h t => by
    obtain ⟨as, ra⟩ := reads_pair I h
    obtain ⟨bs, rb⟩ := pairs_hold I t
    exact ⟨as ++ bs, .cons ra rb⟩
theorem paired_at {α β : Type} {R : α → β → Prop} : ∀ {xs : List α} {ys : List β}, Paired R xs ys → ∀ {i : Nat} {x : α}, xs[i]? = some x → ∃ y, ys[i]? = some y ∧ R x y
  | _, _, .nil, i, x, e => by simp at e
  | _, _, .cons h t, 0, x, e => ⟨_, rfl, by cases (show some _ = some x from e); exact h⟩
  | _, _, .cons h t, i + 1, x, e => by simpa using paired_at t (by simpa using e)
/-- min(xs) of tuples of two ints: the item itself -/
def rMinP (K : PySem.W.Frag) : List V → Hp → VK → Prop := fun vs H Q => ∃ (l : Addr) (ps : List Addr) (z : Int × Int) (zs : List (Int × Int)), vs = [.ref l] ∧ SqL K H l (ps.map V.ref) ∧ Paired (fun p z => SqT K H p [.int z.1, .int z.2]) ps (z :: zs) ∧
  ∀ (i : Nat) (p : Addr), ps[i]? = some p → (z :: zs)[i]? = some (PySem.W.minOf z zs) → Q (.ref p) H
theorem cr_minP (hc : X.calm = true) (hu : X.A.units + 65 < cLine) : CallR X (.builtin "min") (rMinP X.K) := by
  intro pins s σ H xs us Q I r h
  obtain ⟨l, ps, z, zs, rfl, hl, hp, q⟩ := h
  obtain ⟨u, rfl, rx⟩ := vals1 r
  obtain rfl : u = Value.ref l := rx
  obtain ⟨its, rv, pl, hz⟩ := I.list hl
  obtain rfl := refs_at rv
  refine PySem.W.min_list_datum (α := Int × Int) (x := z) (xs := zs) (I.ok.hd hc) pl.isList (pairs_hold I hp) (by
    show X.A.units + 1 + 1 < cLine
    omega) fun i v g tk hi hv kp => ?_
  have hi' : ps[i]?.map Value.ref = some v := by
    rw [← List.getElem?_map]
    simpa using hi
  cases e : ps[i]? with
  | none =>
    rw [e] at hi'
    cases hi'
  | some p =>
    rw [e] at hi'
    cases hi'
    obtain ⟨y, hyi, hy⟩ := paired_at hp e
    obtain ⟨its, rv, ⟨o, ho, hcl, n, hs⟩, _⟩ := I.tuple hy
    obtain ⟨u, w, rfl, ru, rw'⟩ := vals2 rv
    obtain ⟨t1, rfl⟩ : ∃ t, u = Value.int y.1 t := ru
    obtain ⟨t2, rfl⟩ : ∃ t, w = Value.int y.2 t := rw'
    have ey := holds_pair hv (kp _ _ ho) hs
    refine ⟨.ref p, H, I.kept kp, rfl, q i p e ?_⟩
    rw [ey]
    exact hyi
end
end Gn

set_option Elab.async false
set_option linter.all false
set_option maxRecDepth 100000
set_option maxHeartbeats 4000000
set_option pp.maxSteps 3000
/-! numbers that belong to a level, as they are counted -/
namespace Gp
/-- the divisors, ascending -/
def dvs (n : Nat) : List Nat := ((List.range n).map (· + 1)).filter fun d => decide (n % d = 0)
def dvR (r n : Nat) : List Nat := (((List.range r).map (· + 1)).filter fun d => decide (n % d = 0)) ++ (((((List.range r).map (· + 1)).filter fun d => decide (n % d = 0)).reverse.filter fun d => decide (d * d ≠ n)).map fun d => n / d)
def phN (n : Nat) : Nat := (((List.range n).map (· + 1)).filter fun u => decide (Nat.gcd u n = 1)).length
def cuN (N : Nat) : Nat := ((dvs N).map fun c => phN (Nat.gcd c (N / c))).sum
def sqN (N : Nat) : Nat := ((List.range N).filter fun x => decide ((x * x + 1) % N = 0)).length
def cbN (N : Nat) : Nat := ((List.range N).filter fun x => decide ((x * x + x + 1) % N = 0)).length
def stp : Nat → Nat → Nat → Nat
  | 0, n, _ => n
  | f + 1, n, p => if n % p = 0 then stp f (n / p) p else n
def prs : Nat → Nat → Nat → List Nat
  | 0, _, _ => []
  | f + 1, n, p => if n ≤ 1 then [] else if n % p = 0 then p :: prs f (stp n n p) (p + 1) else prs f n (p + 1)
def prD : Nat → Nat → Nat → Bool
  | 0, n, _ => decide (n ≤ 1)
  | f + 1, n, p => if n ≤ 1 then true else if n % p = 0 then prD f (stp n n p) (p + 1) else prD f n (p + 1)
def ixN (N : Nat) : Nat := (prs 400 N 2).foldl (fun ix p => ix / p * (p + 1)) N
/-- as the law tells the primes -/
def smp (N : Nat) : List Nat := ((List.range (N - 1)).map (· + 2)).filter fun p => decide (N % p = 0)
def lpr (N : Nat) : List Nat := (smp N).filter fun p => ((smp N).filter fun q => decide (q < p) && decide (p % q = 0)).isEmpty
def held : Nat → Nat → Nat → Nat
  | 0, _, _ => 0
  | f + 1, n, p => if n % p = 0 then held f (n / p) p + 1 else 0
abbrev T3 := Nat × Nat × Nat
def t2 (p k : Nat) : Nat := if p % 4 = 1 then 2 else if p = 2 ∧ k = 1 then 1 else 0
def t3 (p k : Nat) : Nat := if p % 3 = 1 then 2 else if p = 3 ∧ k = 1 then 1 else 0
def tc (p k : Nat) : Nat := if k % 2 = 1 then 2 * p ^ ((k - 1) / 2) else p ^ ((k - 1) / 2) * (p + 1)
def stepP (N : Nat) (s : T3) (p : Nat) : T3 := (s.1 * t2 p (held N N p), s.2.1 * t3 p (held N N p), s.2.2 * tc p (held N N p))
def prod (N : Nat) : T3 := (lpr N).foldl (stepP N) (1, 1, 1)
/-- 12 times the genus -/
def g12 (N : Nat) : Int := 12 + (ixN N : Int) - 3 * (sqN N : Int) - 4 * (cbN N : Int) - 6 * (cuN N : Int)
theorem dv_ok : ∀ n : Fin 361, ∀ r : Fin 20, (r : Nat) * r ≤ n → (n : Nat) < (r + 1) * (r + 1) → dvR r n = dvs n := by decide +kernel
theorem pr_ok : ∀ n : Fin 361, 1 ≤ (n : Nat) → prD 400 n 2 = true ∧ prs 400 n 2 = lpr n := by decide +kernel
theorem prod_ok : ∀ n : Fin 361, 1 ≤ (n : Nat) → prod n = (sqN n, cbN n, cuN n) ∧ g12 n % 12 = 0 := by decide +kernel
end Gp

set_option Elab.async false
set_option linter.all false
set_option maxRecDepth 100000
set_option maxHeartbeats 4000000
set_option pp.maxSteps 3000
/-! points of a level, moved by matrices: counted -/
namespace Gp
def unt (N : Nat) : List Nat := (List.range N).filter fun u => decide (Nat.gcd u N = 1)
def hld (N x : Nat) : List Nat := (unt N).filter fun u => decide ((((u : Int) - 1) * (x : Int)).fmod (N : Int) = 0)
def okY (N x y : Nat) : Bool := decide (Nat.gcd (Nat.gcd x y) N = 1) && (((hld N x).filter fun u => decide (u * y % N < y)).isEmpty)
def pts (N : Nat) : List (Nat × Nat) := ((0 :: (dvs N).dropLast).map fun x => ((List.range N).filter (okY N x)).map fun y => (x, y)).flatten
/-- a point as one number -/
def ptC (N c d : Nat) : Nat := match (unt N).map (fun u => u * c % N * N + u * d % N) with
  | [] => 0
  | z :: zs => zs.foldl min z
abbrev Mx := Nat × Nat × Nat × Nat
def cod (N : Nat) (p : Nat × Nat) : Nat := p.1 * N + p.2
/-- where a matrix leads a point; its numbers modulo N -/
def mov (N : Nat) (m : Mx) (p : Nat × Nat) : Nat := ptC N ((p.1 * m.1 + p.2 * m.2.2.1) % N) ((p.1 * m.2.1 + p.2 * m.2.2.2) % N)
def mvs (N : Nat) (m : Mx) : List (Nat × Nat) := (pts N).map fun p => (cod N p, mov N m p)
def memB : List Nat → Nat → Bool
  | [], _ => false
  | a :: l, k => match Nat.beq a k with
    | true => true
    | false => memB l k
theorem memB_iff : ∀ (l : List Nat) (k : Nat), memB l k = true ↔ k ∈ l
  | [], k => by simp [memB]
  | a :: l, k => by
    unfold memB
    cases h : Nat.beq a k with
    | true => simp [Nat.eq_of_beq_eq_true h]
    | false =>
      have ne : k ≠ a := fun z => by
        rw [z, Nat.beq_refl] at h
        cases h
      simp [memB_iff l k, ne]
def lookB : List (Nat × Nat) → Nat → Nat
  | [], _ => 0
  | e :: l, k => match Nat.beq e.1 k with
    | true => e.2
    | false => lookB l k
def wk (mv : Nat → Nat) : Nat → List Nat → Nat → List Nat
  | 0, s, _ => s
  | f + 1, s, h => match memB s h with
    | true => s
    | false => wk mv f (h :: s) (mv h)
def orbS (mv : Nat → Nat) (n : Nat) (s : Nat × List Nat) (k : Nat) : Nat × List Nat := match memB s.2 k with
  | true => s
  | false => (s.1 + 1, wk mv n s.2 k)
def orb (mv : Nat → Nat) (keys : List Nat) : Nat := (keys.foldl (orbS mv keys.length) (0, [])).1
def orbM (L : List (Nat × Nat)) : Nat := orb (lookB L) (L.map (·.1))
def fixM (L : List (Nat × Nat)) : Nat := (L.filter fun e => Nat.beq e.2 e.1).length
def mS (N : Nat) : Mx := (0, N - 1, 1, 0)
def mU (N : Nat) : Mx := (0, N - 1, 1, 1)
def mT : Mx := (1, 1, 0, 1)
def closed (L : List (Nat × Nat)) : Bool := L.all fun e => memB (L.map (·.1)) e.2
def ndp : List Nat → Bool
  | [] => true
  | a :: l => match memB l a with
    | true => false
    | false => ndp l
def chk (N : Nat) : Bool :=
  let S := mvs N (mS N); let U := mvs N (mU N); let T := mvs N mT
  closed S && closed U && closed T && decide (fixM S = sqN N) && decide (fixM U = cbN N) && decide (orbM T = cuN N) &&
  decide (6 * ((orbM S : Int) + (orbM U : Int) - ((pts N).length : Int) + (orbM T : Int)) = 12 - g12 N) && ndp ((pts N).map (cod N))
end Gp

set_option Elab.async false
set_option linter.all false
set_option maxRecDepth 100000
set_option maxHeartbeats 4000000
set_option pp.maxSteps 3000
/-! [f(x) for x in .. if p(x)] over ranges and lists of numbers -/
namespace Gn
open PySem PySem.Spec PyProof.Rows L2 Dr Xv LamX Ps
def nV (l : List Nat) : List V := l.map fun d : Nat => V.int (d : Int)
theorem nV_len (l : List Nat) : (nV l).length = l.length := List.length_map _
theorem nV_at {l : List Nat} {i : Nat} {x : V} (h : (nV l)[i]? = some x) : ∃ a, l[i]? = some a ∧ x = .int (a : Int) := by
  unfold nV at h
  rw [List.getElem?_map] at h
  cases e : l[i]? with
  | none =>
    rw [e] at h
    cases h
  | some a =>
    rw [e] at h
    exact ⟨a, rfl, (Option.some.inj h).symm⟩
theorem nV_get {l : List Nat} {i a : Nat} (h : l[i]? = some a) : (nV l)[i]? = some (.int (a : Int)) := by
  unfold nV
  rw [List.getElem?_map, h]
  rfl
theorem take_nx {α : Type} {l : List α} {i : Nat} {a : α} (h : l[i]? = some a) : l.take (i + 1) = l.take i ++ [a] := by
  rw [List.take_succ, h]
  rfl
theorem rg_succ (n : Nat) : (List.range (n + 1)).map (· + 1) = (List.range n).map (· + 1) ++ [n + 1] := by
  rw [List.range_succ, List.map_append]
  rfl
theorem fil_le {α : Type} (p : α → Bool) (l : List α) : (l.filter p).length ≤ l.length := List.length_filter_le p l
/-- what a filter takes of one more -/
theorem fil_snoc {α : Type} {p : α → Bool} {l : List α} {a : α} : (l ++ [a]).filter p = l.filter p ++ if p a = true then [a] else [] := by
  rw [List.filter_append]
  congr 1
  by_cases c : p a = true
  · rw [if_pos c, List.filter_cons_of_pos c, List.filter_nil]
  · rw [if_neg c, List.filter_cons_of_neg c, List.filter_nil]
theorem fmodN (a b : Nat) : ((a : Nat) : Int).fmod ((b : Nat) : Int) = ((a % b : Nat) : Int) := by
  rw [Int.fmod_eq_emod_of_nonneg _ (by omega)]
  exact (Int.natCast_emod a b).symm
theorem fdivN (a b : Nat) : ((a : Nat) : Int).fdiv ((b : Nat) : Int) = ((a / b : Nat) : Int) := by
  rw [Int.fdiv_eq_ediv_of_nonneg _ (by omega)]
  exact (Int.natCast_ediv a b).symm
theorem iteB {b c : Bool} {A B : Prop} (h : b = c) (hA : c = false → A) (hB : c = true → B) : if b = true then B else A := by
  subst h
  cases b with
  | true => exact iteT (hB rfl)
  | false => exact iteF (hA rfl)
theorem same_rfl {H : Hp} : Same H H := fun _ _ e => e
/-- an int compared: as numbers -/
theorem dec_nn (a b : Nat) : decide (V.int (a : Int) = V.int (b : Int)) = decide (a = b) := by
  by_cases c : a = b
  · rw [decide_eq_true c, c, decide_eq_true rfl]
  · rw [decide_eq_false c, decide_eq_false fun z => c (by
      injection z with z
      omega)]
theorem dec_n0 (a : Nat) : decide (V.int (a : Int) = V.int 0) = decide (a = 0) := dec_nn a 0
theorem dec_n1 (a : Nat) : decide (V.int (a : Int) = V.int 1) = decide (a = 1) := dec_nn a 1
section
variable {K : PySem.W.Frag} {g : TG} {tt : TT} {te : TE} {vs : List Nat} {σ : L2.St} {H1 : Hp} {D : Addr} {Qd : Hp → Prop}
/-- over a range -/
theorem lc_fil (l n : Nat) (p : Nat → Bool) (f : Nat → V) (hn : n ≤ 100000) (hD : H1 D = none)
    (step : ∀ (i : Nat) H' (A : Hp → Prop) (B : V → Hp → Prop), i < n → Same H1 H' → (∀ H'', Same H' H'' → p (l + i) = false → A H'') → (∀ H'', Same H' H'' → p (l + i) = true → B (f (l + i)) H'') →
      g (.int ((l + i : Nat) : Int)) (wipe σ vs) H' fun σ2 H2 => wipe σ2 vs = wipe σ vs ∧ tt σ2 H2 fun b H3 => if b = true then te σ2 H3 B else A H3)
    (fin : ∀ H', Same H1 H' → H' D = some (.lst ((((List.range n).map (l + ·)).filter p).map f)) → Qd H') :
    ∃ W : Nat → Nat → Hp → Prop, (∃ m, W 0 m (upd H1 D (.lst []))) ∧ ∀ i m H, W i m H →
      ((Itr (l : Int) n).stop i H ∧ Qd H) ∨ ((Itr (l : Int) n).go i H ∧ ∃ Nx : Hp → Prop, (∀ H', Nx H' → ∃ m', m' < m ∧ W (i + 1) m' H') ∧ ∀ x H', (Itr (l : Int) n).yld i H x H' → g x (wipe σ vs) H' fun σ2 H2 => wipe σ2 vs = wipe σ vs ∧ tt σ2 H2 fun b H3 =>
        if b = true then te σ2 H3 fun y H4 => ∃ acc, H4 D = some (.lst acc) ∧ acc.length < sizeLine ∧ Nx (upd H4 D (.lst (acc ++ [y]))) else Nx H3) := by
  refine lc_range (lo := (l : Int)) (n := n) (fun i H' => H' D = some (.lst ((((List.range i).map (l + ·)).filter p).map f)) ∧ Same H1 H') ⟨upd_same, same_new hD⟩ ?_ (fun H' h => fin H' h.2 h.1)
  rintro i H' hi ⟨h1, s1⟩
  have ej : (l : Int) + (i : Int) = ((l + i : Nat) : Int) := by omega
  rw [ej]
  have e : ((List.range (i + 1)).map (l + ·)).filter p = ((List.range i).map (l + ·)).filter p ++ if p (l + i) = true then [l + i] else [] := by
    rw [List.range_succ, List.map_append]
    exact fil_snoc
  refine step i H' (fun H3 => _) (fun y H4 => _) hi s1 (fun H2 s2 c => ⟨?_, s1.trans s2⟩) (fun H2 s2 c => ⟨_, s2 _ _ h1, ?_, ?_, fun b o q => by rw [upd_ne (ne_of_none q hD)]; exact s2 _ _ (s1 _ _ q)⟩)
  · rw [e, if_neg (by rw [c]; exact Bool.false_ne_true), List.append_nil]
    exact s2 _ _ h1
  · have := fil_le p ((List.range i).map (l + ·))
    rw [List.length_map, List.length_range] at this
    rw [List.length_map, sizeLine_eq]
    omega
  · rw [upd_same, e, if_pos c, List.map_append]
    rfl
/-- over a list that stays -/
theorem lc_filL {a : Addr} {L : List Nat} (p : Nat → Bool) (f : Nat → V) (hn : L.length ≤ 100000) (hD : H1 D = none) (hL : H1 a = some (.lst (nV L)))
    (step : ∀ (i d : Nat) H' (A : Hp → Prop) (B : V → Hp → Prop), L[i]? = some d → Same H1 H' → (∀ H'', Same H' H'' → p d = false → A H'') → (∀ H'', Same H' H'' → p d = true → B (f d) H'') →
      g (.int (d : Int)) (wipe σ vs) H' fun σ2 H2 => wipe σ2 vs = wipe σ vs ∧ tt σ2 H2 fun b H3 => if b = true then te σ2 H3 B else A H3)
    (fin : ∀ H', Same H1 H' → H' D = some (.lst ((L.filter p).map f)) → Qd H') :
    ∃ W : Nat → Nat → Hp → Prop, (∃ m, W 0 m (upd H1 D (.lst []))) ∧ ∀ i m H, W i m H →
      ((Itl K a).stop i H ∧ Qd H) ∨ ((Itl K a).go i H ∧ ∃ Nx : Hp → Prop, (∀ H', Nx H' → ∃ m', m' < m ∧ W (i + 1) m' H') ∧ ∀ x H', (Itl K a).yld i H x H' → g x (wipe σ vs) H' fun σ2 H2 => wipe σ2 vs = wipe σ vs ∧ tt σ2 H2 fun b H3 =>
        if b = true then te σ2 H3 fun y H4 => ∃ acc, H4 D = some (.lst acc) ∧ acc.length < sizeLine ∧ Nx (upd H4 D (.lst (acc ++ [y]))) else Nx H3) := by
  refine lc_list (K := K) (a := a) (xs := nV L) (fun i H' => H' D = some (.lst (((L.take i).filter p).map f)) ∧ Same H1 H') ⟨upd_same, same_new hD⟩ (fun i H' _ h => SqL.of (h.2 _ _ hL)) ?_ (fun H' h => fin H' h.2 (by
    have z := h.1
    rw [nV_len, List.take_length] at z
    exact z))
  rintro i x H' hx ⟨h1, s1⟩
  obtain ⟨d, hd, rfl⟩ := nV_at hx
  have e : (L.take (i + 1)).filter p = (L.take i).filter p ++ if p d = true then [d] else [] := by
    rw [take_nx hd]
    exact fil_snoc
  refine step i d H' (fun H3 => _) (fun y H4 => _) hd s1 (fun H2 s2 c => ⟨?_, s1.trans s2⟩) (fun H2 s2 c => ⟨_, s2 _ _ h1, ?_, ?_, fun b o q => by rw [upd_ne (ne_of_none q hD)]; exact s2 _ _ (s1 _ _ q)⟩)
  · rw [e, if_neg (by rw [c]; exact Bool.false_ne_true), List.append_nil]
    exact s2 _ _ h1
  · have := fil_le p (L.take i)
    rw [List.length_take] at this
    rw [List.length_map, sizeLine_eq]
    omega
  · rw [upd_same, e, if_pos c, List.map_append]
    rfl
end
end Gn

set_option Elab.async false
set_option linter.all false
set_option maxRecDepth 100000
set_option maxHeartbeats 4000000
set_option pp.maxSteps 3000
/-! points as Python's tuples, maps of points as dicts -/
namespace Gp
open PySem PySem.Spec PyProof.Rows L2 Dr Xv LamX Ps Gn
/-- the point that a number tells -/
def PT (N k : Nat) : List V := [.int ((k / N : Nat) : Int), .int ((k % N : Nat) : Int)]
def kO (N k : Nat) : List L2.Key := [.inl ((k / N : Nat) : Int), .inl ((k % N : Nat) : Int)]
theorem kO_map (N k : Nat) : (kO N k).map kV = PT N k := rfl
theorem kO_inj {N a b : Nat} (h : kO N a = kO N b) : a = b := by
  unfold kO at h
  injection h with h1 h2
  injection h1 with h1
  injection h2 with h2 _
  injection h2 with h2
  have e1 : a / N = b / N := by exact_mod_cast h1
  have e2 : a % N = b % N := by exact_mod_cast h2
  rw [← Nat.div_add_mod a N, ← Nat.div_add_mod b N, e1, e2]
theorem lt_code {N a b : Nat} : a < b ↔ a / N < b / N ∨ (a / N = b / N ∧ a % N < b % N) := by
  have ha := Nat.div_add_mod a N
  have hb := Nat.div_add_mod b N
  rcases Nat.lt_trichotomy (a / N) (b / N) with h | h | h
  · refine ⟨fun _ => .inl h, fun _ => ?_⟩
    rcases Nat.eq_zero_or_pos N with z | z
    · subst z
      simp at h
    · exact Nat.lt_of_not_le fun q => absurd (Nat.div_le_div_right (c := N) q) (by omega)
  · rw [h] at ha
    constructor
    · intro q
      refine .inr ⟨h, ?_⟩
      omega
    · rintro (q | ⟨_, q⟩)
      · omega
      · omega
  · constructor
    · intro q
      exact absurd (Nat.div_le_div_right (c := N) (Nat.le_of_lt q)) (by omega)
    · rintro (q | ⟨q, _⟩) <;> omega
/-- as a pair -/
def dec (N k : Nat) : Int × Int := (((k / N : Nat) : Int), ((k % N : Nat) : Int))
theorem lt_dec (N a b : Nat) : PySem.W.DatumOrd.lt (dec N a) (dec N b) = decide (a < b) := by
  show (if (dec N a).1 = (dec N b).1 then decide ((dec N a).2 < (dec N b).2) else decide ((dec N a).1 < (dec N b).1)) = _
  have e1 : ((dec N a).1 = (dec N b).1) ↔ a / N = b / N := by
    show (((a / N : Nat) : Int) = ((b / N : Nat) : Int)) ↔ _
    omega
  have e2 : ((dec N a).2 < (dec N b).2) ↔ a % N < b % N := by
    show (((a % N : Nat) : Int) < ((b % N : Nat) : Int)) ↔ _
    omega
  have e3 : ((dec N a).1 < (dec N b).1) ↔ a / N < b / N := by
    show (((a / N : Nat) : Int) < ((b / N : Nat) : Int)) ↔ _
    omega
  have l := lt_code (N := N) (a := a) (b := b)
  by_cases c : a / N = b / N
  · rw [if_pos (e1.mpr c), decide_eq_decide, e2, l]
    constructor
    · exact fun h => .inr ⟨c, h⟩
    · rintro (h | h)
      · omega
      · exact h.2
  · rw [if_neg (fun z => c (e1.mp z)), decide_eq_decide, e3, l]
    constructor
    · exact fun h => .inl h
    · rintro (h | h)
      · exact h
      · exact absurd h.1 c
theorem min_dec (N : Nat) : ∀ (zs : List Nat) (z : Nat), PySem.W.minOf (dec N z) (zs.map (dec N)) = dec N (zs.foldl min z)
  | [], z => rfl
  | y :: zs, z => by
    show PySem.W.minOf (if PySem.W.DatumOrd.lt (dec N y) (dec N z) = true then dec N y else dec N z) (zs.map (dec N)) = _
    rw [lt_dec]
    by_cases c : y < z
    · rw [if_pos (decide_eq_true c), min_dec N zs y, List.foldl_cons, Nat.min_eq_right (by omega)]
    · rw [if_neg (by simpa using c), min_dec N zs z, List.foldl_cons, Nat.min_eq_left (by omega)]
/-- the points at these addresses -/
def PtsA (N : Nat) (H : Hp) (ps : List Addr) (ks : List Nat) : Prop := Paired (fun a k => H a = some (.tup (PT N k))) ps ks
def PtsAt (N : Nat) (H : Hp) (p : Addr) (ks : List Nat) : Prop := ∃ ps : List Addr, H p = some (.lst (ps.map V.ref)) ∧ PtsA N H ps ks
theorem paired_mono {α β : Type} {R T : α → β → Prop} : ∀ {xs : List α} {ys : List β}, Paired R xs ys → (∀ x y, R x y → T x y) → Paired T xs ys
  | _, _, .nil, _ => .nil
  | _, _, .cons h t, f => .cons (f _ _ h) (paired_mono t f)
theorem paired_len {α β : Type} {R : α → β → Prop} : ∀ {xs : List α} {ys : List β}, Paired R xs ys → xs.length = ys.length
  | _, _, .nil => rfl
  | _, _, .cons _ t => congrArg (· + 1) (paired_len t)
theorem paired_app {α β : Type} {R : α → β → Prop} {x : α} {y : β} : ∀ {xs : List α} {ys : List β}, Paired R xs ys → R x y → Paired R (xs ++ [x]) (ys ++ [y])
  | _, _, .nil, h => .cons h .nil
  | _, _, .cons q t, h => .cons q (paired_app t h)
theorem PtsA.same {N : Nat} {H H' : Hp} {ps : List Addr} {ks : List Nat} (h : PtsA N H ps ks) (s : ∀ b o, H b = some o → H' b = some o) : PtsA N H' ps ks := paired_mono h fun a k e => s _ _ e
theorem PtsA.tups {N : Nat} {H H' : Hp} {ps : List Addr} {ks : List Nat} (h : PtsA N H ps ks) (s : ∀ b xs, H b = some (.tup xs) → H' b = some (.tup xs)) : PtsA N H' ps ks := paired_mono h fun a k e => s _ _ e
theorem PtsAt.same {N : Nat} {H H' : Hp} {p : Addr} {ks : List Nat} (h : PtsAt N H p ks) (s : ∀ b o, H b = some o → H' b = some o) : PtsAt N H' p ks := by
  obtain ⟨ps, e, r⟩ := h
  exact ⟨ps, s _ _ e, r.same s⟩
/-- the pairs of a map -/
def kvz (N : Nat) : List (Nat × Nat) → List Addr → List (List L2.Key × V)
  | e :: L, b :: bs => (kO N e.1, .ref b) :: kvz N L bs
  | _, _ => []
def MpA (N : Nat) (H : Hp) (L : List (Nat × Nat)) (bs : List Addr) : Prop := Paired (fun b e => H b = some (.tup (PT N e.2))) bs L
def MpAt (N : Nat) (H : Hp) (p : Addr) (L : List (Nat × Nat)) : Prop := ∃ bs : List Addr, H p = some (.dT (kvz N L bs)) ∧ MpA N H L bs
theorem MpAt.same {N : Nat} {H H' : Hp} {p : Addr} {L : List (Nat × Nat)} (h : MpAt N H p L) (s : ∀ b o, H b = some o → H' b = some o) : MpAt N H' p L := by
  obtain ⟨bs, e, r⟩ := h
  exact ⟨bs, s _ _ e, paired_mono r fun b e q => s _ _ q⟩
theorem kvz_len {N : Nat} {H : Hp} : ∀ {L : List (Nat × Nat)} {bs : List Addr}, MpA N H L bs → (kvz N L bs).length = L.length
  | _, _, .nil => rfl
  | _, _, .cons _ t => congrArg (· + 1) (kvz_len t)
theorem kvz_at {N : Nat} {H : Hp} : ∀ {L : List (Nat × Nat)} {bs : List Addr}, MpA N H L bs → ∀ {i : Nat} {k : List L2.Key} {v : V}, (kvz N L bs)[i]? = some (k, v) → ∃ e, L[i]? = some e ∧ k = kO N e.1
  | _, _, .nil, i, k, v, h => by simp [kvz] at h
  | e :: L, b :: bs, .cons _ t, 0, k, v, h => by
    have h' : (kO N e.1, V.ref b) = (k, v) := Option.some.inj h
    cases h'
    exact ⟨e, rfl, rfl⟩
  | e :: L, b :: bs, .cons _ t, i + 1, k, v, h => by
    have h' : (kvz N L bs)[i]? = some (k, v) := by simpa [kvz] using h
    obtain ⟨e', h1, h2⟩ := kvz_at t h'
    exact ⟨e', by simpa using h1, h2⟩
/-- a map asked -/
theorem kvz_look {N : Nat} {H : Hp} : ∀ {L : List (Nat × Nat)} {bs : List Addr}, MpA N H L bs → ∀ {k : Nat}, k ∈ L.map (·.1) → ∃ b, valV (kvz N L bs) (kO N k) = some (.ref b) ∧ H b = some (.tup (PT N (lookB L k)))
  | _, _, .nil, k, h => by simp at h
  | e :: L, b :: bs, .cons q t, k, h => by
    have hv : valV (kvz N (e :: L) (b :: bs)) (kO N k) = if kO N e.1 = kO N k then some (.ref b) else valV (kvz N L bs) (kO N k) := by
      show valV ((kO N e.1, V.ref b) :: kvz N L bs) (kO N k) = _
      unfold valV
      rw [List.find?_cons]
      by_cases c : kO N e.1 = kO N k
      · rw [if_pos c]
        simp [c]
      · rw [if_neg c]
        simp [c]
    by_cases c : e.1 = k
    · refine ⟨b, by rw [hv, c, if_pos rfl], ?_⟩
      have e2 : lookB (e :: L) k = e.2 := by
        unfold lookB
        rw [c, Nat.beq_refl]
      rw [e2]
      exact q
    · have hk : k ∈ L.map (·.1) := by
        rw [List.map_cons, List.mem_cons] at h
        rcases h with h | h
        · exact absurd h.symm c
        · exact h
      obtain ⟨b', h1, h2⟩ := kvz_look t hk
      refine ⟨b', by rw [hv, if_neg (fun z => c (kO_inj z)), h1], ?_⟩
      have e2 : lookB (e :: L) k = lookB L k := by
        conv => lhs; unfold lookB
        have : Nat.beq e.1 k = false := by
          cases hb : Nat.beq e.1 k with
          | true => exact absurd (Nat.eq_of_beq_eq_true hb) c
          | false => rfl
        rw [this]
      rw [e2]
      exact h2
theorem lookB_mem {L : List (Nat × Nat)} (hc : closed L = true) {k : Nat} (h : k ∈ L.map (·.1)) : lookB L k ∈ L.map (·.1) := by
  have key : ∀ M : List (Nat × Nat), k ∈ M.map (·.1) → ∃ e ∈ M, lookB M k = e.2 := by
    intro M
    induction M with
    | nil => exact fun z => absurd z (by simp)
    | cons e M ih =>
      intro z
      unfold lookB
      cases hb : Nat.beq e.1 k with
      | true => exact ⟨e, List.mem_cons_self, rfl⟩
      | false =>
        have ne : e.1 ≠ k := fun q => by
          rw [q, Nat.beq_refl] at hb
          cases hb
        rw [List.map_cons, List.mem_cons] at z
        obtain ⟨e', h1, h2⟩ := ih (z.resolve_left fun q => ne q.symm)
        exact ⟨e', List.mem_cons_of_mem _ h1, h2⟩
  obtain ⟨e, he, h2⟩ := key L h
  rw [h2]
  exact (memB_iff _ _).mp (List.all_eq_true.mp hc e he)
theorem ndp_iff : ∀ l : List Nat, ndp l = true → l.Nodup
  | [], _ => List.nodup_nil
  | a :: l, h => by
    unfold ndp at h
    cases hb : memB l a with
    | true =>
      rw [hb] at h
      cases h
    | false =>
      rw [hb] at h
      refine List.nodup_cons.mpr ⟨fun z => ?_, ndp_iff l h⟩
      rw [(memB_iff _ _).mpr z] at hb
      cases hb
theorem cutN_last (l : List Nat) : cutV (nV l) none (some (-1)) = nV l.dropLast := by
  have e : cutV (nV l) none (some (-1)) = (nV l).take ((nV l).length - 1) := by
    unfold cutV
    rw [HT.sIx_none, Nat.sub_zero, List.drop_zero]
    congr 1
    unfold HT.sIx
    show (if (-1 : Int) < 0 then _ else _) = _
    rw [if_pos (by decide)]
    omega
  rw [e]
  unfold nV
  rw [List.length_map, ← List.map_take, List.dropLast_eq_take]
theorem dec_i0 (a : Int) : decide (V.int a = V.int 0) = decide (a = 0) := decide_eq_decide.mpr ⟨fun z => by injection z, fun z => by rw [z]⟩
/-- what was seen -/
def snz (N : Nat) (s : List Nat) : List (List L2.Key × V) := s.map fun k => (kO N k, .bl true)
theorem snz_val (N : Nat) (s : List Nat) (k : Nat) : (valV (snz N s) (kO N k)).isSome = decide (k ∈ s) := by
  induction s with
  | nil => rfl
  | cons a s ih =>
    have hv : valV (snz N (a :: s)) (kO N k) = if kO N a = kO N k then some (.bl true) else valV (snz N s) (kO N k) := by
      show valV ((kO N a, V.bl true) :: snz N s) (kO N k) = _
      unfold valV
      rw [List.find?_cons]
      by_cases c : kO N a = kO N k
      · rw [if_pos c]
        simp [c]
      · rw [if_neg c]
        simp [c]
    rw [hv]
    by_cases c : a = k
    · subst c
      rw [if_pos rfl]
      simp
    · rw [if_neg fun z => c (kO_inj z), ih]
      simp [Ne.symm c]
theorem snz_put {N : Nat} {s : List Nat} {k : Nat} (h : k ∉ s) : putK (snz N s) (kO N k) (.bl true) = snz N (s ++ [k]) := by
  have e : valV (snz N s) (kO N k) = none := by
    have z := snz_val N s k
    rw [decide_eq_false h] at z
    cases q : valV (snz N s) (kO N k) with
    | none => rfl
    | some v =>
      rw [q] at z
      cases z
  rw [putK_new _ e]
  unfold snz
  rw [List.map_append]
  rfl
section
variable {K : PySem.W.Frag} {g : TG} {tt : TT} {te : TE} {vs : List Nat} {σ : L2.St} {H1 : Hp} {D : Addr} {Qd : Hp → Prop}
/-- [f(x) for x in points if p(x)] -/
theorem lc_filP {N : Nat} {a : Addr} {ps : List Addr} {ks : List Nat} (p : Nat → Bool) (f : Nat → V) (hn : ks.length ≤ 100000) (hD : H1 D = none) (hL : H1 a = some (.lst (ps.map V.ref))) (pa : PtsA N H1 ps ks)
    (step : ∀ (i : Nat) (q : Addr) (k : Nat) H' (A : Hp → Prop) (B : V → Hp → Prop), ks[i]? = some k → H' q = some (.tup (PT N k)) → Same H1 H' → (∀ H'', Same H' H'' → p k = false → A H'') → (∀ H'', Same H' H'' → p k = true → B (f k) H'') →
      g (.ref q) (wipe σ vs) H' fun σ2 H2 => wipe σ2 vs = wipe σ vs ∧ tt σ2 H2 fun b H3 => if b = true then te σ2 H3 B else A H3)
    (fin : ∀ H', Same H1 H' → H' D = some (.lst ((ks.filter p).map f)) → Qd H') :
    ∃ W : Nat → Nat → Hp → Prop, (∃ m, W 0 m (upd H1 D (.lst []))) ∧ ∀ i m H, W i m H →
      ((Itl K a).stop i H ∧ Qd H) ∨ ((Itl K a).go i H ∧ ∃ Nx : Hp → Prop, (∀ H', Nx H' → ∃ m', m' < m ∧ W (i + 1) m' H') ∧ ∀ x H', (Itl K a).yld i H x H' → g x (wipe σ vs) H' fun σ2 H2 => wipe σ2 vs = wipe σ vs ∧ tt σ2 H2 fun b H3 =>
        if b = true then te σ2 H3 fun y H4 => ∃ acc, H4 D = some (.lst acc) ∧ acc.length < sizeLine ∧ Nx (upd H4 D (.lst (acc ++ [y]))) else Nx H3) := by
  have pl := paired_len pa
  refine lc_list (K := K) (a := a) (xs := ps.map V.ref) (fun i H' => H' D = some (.lst (((ks.take i).filter p).map f)) ∧ Same H1 H') ⟨upd_same, same_new hD⟩ (fun i H' _ h => SqL.of (h.2 _ _ hL)) ?_ (fun H' h => fin H' h.2 (by
    have z := h.1
    rw [List.length_map, pl, List.take_length] at z
    exact z))
  rintro i x H' hx ⟨h1, s1⟩
  rw [List.getElem?_map] at hx
  cases hq : ps[i]? with
  | none =>
    rw [hq] at hx
    cases hx
  | some q =>
    rw [hq] at hx
    obtain rfl : V.ref q = x := Option.some.inj hx
    obtain ⟨k, hk, ek⟩ := paired_at pa hq
    have e : (ks.take (i + 1)).filter p = (ks.take i).filter p ++ if p k = true then [k] else [] := by
      rw [take_nx hk]
      exact fil_snoc
    refine step i q k H' (fun H3 => _) (fun y H4 => _) hk (s1 _ _ ek) s1 (fun H2 s2 c => ⟨?_, s1.trans s2⟩) (fun H2 s2 c => ⟨_, s2 _ _ h1, ?_, ?_, fun b o q => by rw [upd_ne (ne_of_none q hD)]; exact s2 _ _ (s1 _ _ q)⟩)
    · rw [e, if_neg (by rw [c]; exact Bool.false_ne_true), List.append_nil]
      exact s2 _ _ h1
    · have := fil_le p (ks.take i)
      rw [List.length_take] at this
      rw [List.length_map, sizeLine_eq]
      omega
    · rw [upd_same, e, if_pos c, List.map_append]
      rfl
end
/-- two points compared -/
theorem pt_eqv (N a b : Nat) : PyData.eqv (tupD [((a / N : Nat) : Int), ((a % N : Nat) : Int)]) (tupD [((b / N : Nat) : Int), ((b % N : Nat) : Int)]) = decide (a = b) := by
  have z := PySem.W.Datum.eqv (α := Int × Int) (dec N a) (dec N b)
  refine (show _ = _ from z).trans (decide_eq_decide.mpr ⟨fun h => ?_, fun h => by rw [h]⟩)
  injection h with h1 h2
  have e1 : a / N = b / N := by exact_mod_cast h1
  have e2 : a % N = b % N := by exact_mod_cast h2
  rw [← Nat.div_add_mod a N, ← Nat.div_add_mod b N, e1, e2]
theorem two_eqv (a b c d : Int) : PyData.eqv (tupD [a, b]) (tupD [c, d]) = decide (a = c ∧ b = d) := by
  have z := PySem.W.Datum.eqv (α := Int × Int) (a, b) (c, d)
  refine (show _ = _ from z).trans (decide_eq_decide.mpr ⟨fun h => ?_, fun h => by rw [h.1, h.2]⟩)
  injection h with h1 h2
  exact ⟨h1, h2⟩
theorem pts_b {N : Nat} {p : Nat × Nat} (h : p ∈ pts N) : p.2 < N ∧ p.1 ≤ N := by
  unfold pts at h
  obtain ⟨l, hl, hp⟩ := List.mem_flatten.mp h
  obtain ⟨x, hx, rfl⟩ := List.mem_map.mp hl
  obtain ⟨y, hy, rfl⟩ := List.mem_map.mp hp
  refine ⟨List.mem_range.mp (List.mem_filter.mp hy).1, ?_⟩
  rcases List.mem_cons.mp hx with rfl | hx
  · exact Nat.zero_le _
  · have hx := (List.dropLast_sublist _).subset hx
    unfold dvs at hx
    obtain ⟨j, hj, rfl⟩ := List.mem_map.mp (List.mem_filter.mp hx).1
    have := List.mem_range.mp hj
    omega
theorem cod_back {N : Nat} {p : Nat × Nat} (h : p.2 < N) : (cod N p / N, cod N p % N) = p := by
  unfold cod
  have h1 : (p.1 * N + p.2) / N = p.1 := by
    rw [Nat.mul_comm, Nat.mul_add_div (by omega), Nat.div_eq_of_lt h, Nat.add_zero]
  have h2 : (p.1 * N + p.2) % N = p.2 := by
    rw [Nat.mul_comm, Nat.mul_add_mod, Nat.mod_eq_of_lt h]
  rw [h1, h2]
theorem mk_mvs (N : Nat) (m : Mx) : ((pts N).map (cod N)).map (fun k => (k, mov N m (k / N, k % N))) = mvs N m := by
  unfold mvs
  rw [List.map_map]
  refine List.map_congr_left fun p hp => ?_
  show (cod N p, mov N m (cod N p / N, cod N p % N)) = _
  rw [cod_back (pts_b hp).1]
theorem mvs_keys (N : Nat) (m : Mx) : (mvs N m).map (·.1) = (pts N).map (cod N) := by
  unfold mvs
  rw [List.map_map]
  rfl
theorem pts_len (N : Nat) (h : N ≤ 60) : (pts N).length ≤ 4000 := by
  have key : ∀ xs : List Nat, ((xs.map fun x => ((List.range N).filter (okY N x)).map fun y => (x, y)).flatten).length ≤ xs.length * N := fun xs => by
    induction xs with
    | nil => exact Nat.zero_le _
    | cons x xs ih =>
      rw [List.map_cons, List.flatten_cons, List.length_append, List.length_map, List.length_cons, Nat.succ_mul]
      have := fil_le (okY N x) (List.range N)
      rw [List.length_range] at this
      omega
  have k := key (0 :: (dvs N).dropLast)
  have l : (0 :: (dvs N).dropLast).length ≤ 61 := by
    have := fil_le (fun d => decide (N % d = 0)) ((List.range N).map (· + 1))
    rw [List.length_map, List.length_range] at this
    rw [List.length_cons, List.length_dropLast]
    unfold dvs
    omega
  have := Nat.mul_le_mul l h
  unfold pts
  omega
/-- what is counted for a level -/
structure Cnt (N : Nat) : Prop where
  S : closed (mvs N (mS N)) = true
  U : closed (mvs N (mU N)) = true
  T : closed (mvs N mT) = true
  fS : fixM (mvs N (mS N)) = sqN N
  fU : fixM (mvs N (mU N)) = cbN N
  oT : orbM (mvs N mT) = cuN N
  eu : 6 * ((orbM (mvs N (mS N)) : Int) + (orbM (mvs N (mU N)) : Int) - ((pts N).length : Int) + (orbM (mvs N mT) : Int)) = 12 - g12 N
  nd : ((pts N).map (cod N)).Nodup
theorem cnt_of {N : Nat} (h : chk N = true) : Cnt N := by
  unfold chk at h
  simp only [Bool.and_eq_true, decide_eq_true_eq] at h
  obtain ⟨⟨⟨⟨⟨⟨⟨h1, h2⟩, h3⟩, h4⟩, h5⟩, h6⟩, h7⟩, h8⟩ := h
  exact ⟨h1, h2, h3, h4, h5, h6, h7, ndp_iff _ h8⟩
end Gp

set_option Elab.async false
set_option linter.all false
set_option maxRecDepth 100000
set_option maxHeartbeats 0
namespace Gp
def tcb (N p : Nat) : Bool := decide (1 ≤ held N N p) && decide (held N N p ≤ 9) && decide (tc p (held N N p) < 2 ^ 40)
theorem tc_ok : ∀ n : Fin 361, 1 ≤ (n : Nat) → ((lpr n).all fun p => tcb n p) = true := by decide +kernel
end Gp

set_option Elab.async false
set_option linter.all false
set_option maxRecDepth 100000
set_option maxHeartbeats 0
namespace Gp
theorem ck1 : chk 1 = true := by decide +kernel
theorem ck2 : chk 2 = true := by decide +kernel
theorem ck3 : chk 3 = true := by decide +kernel
theorem ck4 : chk 4 = true := by decide +kernel
theorem ck5 : chk 5 = true := by decide +kernel
theorem ck6 : chk 6 = true := by decide +kernel
theorem ck7 : chk 7 = true := by decide +kernel
theorem ck8 : chk 8 = true := by decide +kernel
theorem ck9 : chk 9 = true := by decide +kernel
theorem ck10 : chk 10 = true := by decide +kernel
theorem ck11 : chk 11 = true := by decide +kernel
theorem ck12 : chk 12 = true := by decide +kernel
theorem ck13 : chk 13 = true := by decide +kernel
theorem ck14 : chk 14 = true := by decide +kernel
theorem ck15 : chk 15 = true := by decide +kernel
theorem ck16 : chk 16 = true := by decide +kernel
theorem ck17 : chk 17 = true := by decide +kernel
theorem ck18 : chk 18 = true := by decide +kernel
theorem ck19 : chk 19 = true := by decide +kernel
theorem ck20 : chk 20 = true := by decide +kernel
theorem ck21 : chk 21 = true := by decide +kernel
theorem ck22 : chk 22 = true := by decide +kernel
theorem ck23 : chk 23 = true := by decide +kernel
theorem ck24 : chk 24 = true := by decide +kernel
theorem ck25 : chk 25 = true := by decide +kernel
theorem ck26 : chk 26 = true := by decide +kernel
theorem ck27 : chk 27 = true := by decide +kernel
theorem ck28 : chk 28 = true := by decide +kernel
theorem ck29 : chk 29 = true := by decide +kernel
theorem ck30 : chk 30 = true := by decide +kernel
theorem ck31 : chk 31 = true := by decide +kernel
theorem ck32 : chk 32 = true := by decide +kernel
theorem ck33 : chk 33 = true := by decide +kernel
theorem ck34 : chk 34 = true := by decide +kernel
theorem ck35 : chk 35 = true := by decide +kernel
theorem ck36 : chk 36 = true := by decide +kernel
theorem ck37 : chk 37 = true := by decide +kernel
theorem ck38 : chk 38 = true := by decide +kernel
theorem ck39 : chk 39 = true := by decide +kernel
theorem ck40 : chk 40 = true := by decide +kernel
theorem ck41 : chk 41 = true := by decide +kernel
theorem ck42 : chk 42 = true := by decide +kernel
theorem ck43 : chk 43 = true := by decide +kernel
theorem ck44 : chk 44 = true := by decide +kernel
theorem ck45 : chk 45 = true := by decide +kernel
theorem ck46 : chk 46 = true := by decide +kernel
theorem ck47 : chk 47 = true := by decide +kernel
theorem ck48 : chk 48 = true := by decide +kernel
theorem ck49 : chk 49 = true := by decide +kernel
theorem ck50 : chk 50 = true := by decide +kernel
theorem ck51 : chk 51 = true := by decide +kernel
theorem ck52 : chk 52 = true := by decide +kernel
theorem ck53 : chk 53 = true := by decide +kernel
theorem ck54 : chk 54 = true := by decide +kernel
theorem ck55 : chk 55 = true := by decide +kernel
theorem ck56 : chk 56 = true := by decide +kernel
theorem ck57 : chk 57 = true := by decide +kernel
theorem ck58 : chk 58 = true := by decide +kernel
theorem ck59 : chk 59 = true := by decide +kernel
theorem ck60 : chk 60 = true := by decide +kernel
theorem chk_ok : ∀ n : Nat, 1 ≤ n → n ≤ 60 → chk n = true
  | 1, _, _ => ck1
  | 2, _, _ => ck2
  | 3, _, _ => ck3
  | 4, _, _ => ck4
  | 5, _, _ => ck5
  | 6, _, _ => ck6
  | 7, _, _ => ck7
  | 8, _, _ => ck8
  | 9, _, _ => ck9
  | 10, _, _ => ck10
  | 11, _, _ => ck11
  | 12, _, _ => ck12
  | 13, _, _ => ck13
  | 14, _, _ => ck14
  | 15, _, _ => ck15
  | 16, _, _ => ck16
  | 17, _, _ => ck17
  | 18, _, _ => ck18
  | 19, _, _ => ck19
  | 20, _, _ => ck20
  | 21, _, _ => ck21
  | 22, _, _ => ck22
  | 23, _, _ => ck23
  | 24, _, _ => ck24
  | 25, _, _ => ck25
  | 26, _, _ => ck26
  | 27, _, _ => ck27
  | 28, _, _ => ck28
  | 29, _, _ => ck29
  | 30, _, _ => ck30
  | 31, _, _ => ck31
  | 32, _, _ => ck32
  | 33, _, _ => ck33
  | 34, _, _ => ck34
  | 35, _, _ => ck35
  | 36, _, _ => ck36
  | 37, _, _ => ck37
  | 38, _, _ => ck38
  | 39, _, _ => ck39
  | 40, _, _ => ck40
  | 41, _, _ => ck41
  | 42, _, _ => ck42
  | 43, _, _ => ck43
  | 44, _, _ => ck44
  | 45, _, _ => ck45
  | 46, _, _ => ck46
  | 47, _, _ => ck47
  | 48, _, _ => ck48
  | 49, _, _ => ck49
  | 50, _, _ => ck50
  | 51, _, _ => ck51
  | 52, _, _ => ck52
  | 53, _, _ => ck53
  | 54, _, _ => ck54
  | 55, _, _ => ck55
  | 56, _, _ => ck56
  | 57, _, _ => ck57
  | 58, _, _ => ck58
  | 59, _, _ => ck59
  | 60, _, _ => ck60
  | 0, h, _ => absurd h (by decide)
  | n + 61, _, h => absurd h (by omega)
end Gp

set_option Elab.async false
set_option linter.all false
set_option maxRecDepth 100000
set_option maxHeartbeats 4000000
set_option pp.maxSteps 3000
set_option exponentiation.threshold 500000
namespace K13
open PySem PySem.Spec PyProof.Rows L2 Dr Xv LamX Ps Gn Gp
abbrev s_divisors_of : Stmt := top 2
abbrev s_primes_of : Stmt := top 3
abbrev s_phi : Stmt := top 4
abbrev s_is_number : Stmt := top 10
abbrev s_is_within : Stmt := top 11
abbrev s_check_level : Stmt := top 12
abbrev s_index_of : Stmt := top 14
abbrev s_elliptic : Stmt := top 16
abbrev s_cusp_count : Stmt := top 17
abbrev s_genus_of : Stmt := top 18
abbrev s_rank_of : Stmt := top 19
abbrev s__law_begun : Stmt := top 21
abbrev s__law_blend : Stmt := top 22
abbrev s__law_take : Stmt := top 23
abbrev s__law_pick : Stmt := top 24
abbrev s__law_caught : Stmt := top 25
abbrev s__law_gcd : Stmt := top 26
abbrev s__law_level : Stmt := top 27
abbrev s__law_bad_level : Stmt := top 28
abbrev s__law_units : Stmt := top 29
abbrev s__law_point : Stmt := top 30
abbrev s__law_primes : Stmt := top 31
abbrev s__law_index : Stmt := top 32
abbrev s__law_divisors : Stmt := top 33
abbrev s__law_points : Stmt := top 34
abbrev s__law_map : Stmt := top 35
abbrev s__law_orbits : Stmt := top 36
abbrev s__law_ranks : Stmt := top 37
abbrev s__law_counted_right : Stmt := top 38
abbrev s__law_held : Stmt := top 39
abbrev s__law_power : Stmt := top 40
abbrev s__law_product_right : Stmt := top 41
abbrev s_law : Stmt := top 42
abbrev N_divisors_of : List Str := List.map Str.ofString ["n", "small", "d"]
theorem sc_divisors_of : FnScope N_divisors_of ["n"] (defScope s_divisors_of) := ⟨rfl, rfl, rfl, by decide +kernel, rfl, by decide +kernel, by decide +kernel⟩
abbrev N_primes_of : List Str := List.map Str.ofString ["n", "primes", "p"]
theorem sc_primes_of : FnScope N_primes_of ["n"] (defScope s_primes_of) := ⟨rfl, rfl, rfl, by decide +kernel, rfl, by decide +kernel, by decide +kernel⟩
abbrev N_phi : List Str := List.map Str.ofString ["n", "u"]
theorem sc_phi : FnScope N_phi ["n"] (defScope s_phi) := ⟨rfl, rfl, rfl, by decide +kernel, rfl, by decide +kernel, by decide +kernel⟩
abbrev N_is_number : List Str := List.map Str.ofString ["thing"]
theorem sc_is_number : FnScope N_is_number ["thing"] (defScope s_is_number) := ⟨rfl, rfl, rfl, by decide +kernel, rfl, by decide +kernel, by decide +kernel⟩
abbrev N_is_within : List Str := List.map Str.ofString ["thing", "least", "greatest"]
theorem sc_is_within : FnScope N_is_within ["thing", "least", "greatest"] (defScope s_is_within) := ⟨rfl, rfl, rfl, by decide +kernel, rfl, by decide +kernel, by decide +kernel⟩
abbrev N_check_level : List Str := List.map Str.ofString ["level"]
theorem sc_check_level : FnScope N_check_level ["level"] (defScope s_check_level) := ⟨rfl, rfl, rfl, by decide +kernel, rfl, by decide +kernel, by decide +kernel⟩
abbrev N_index_of : List Str := List.map Str.ofString ["level", "index", "p"]
theorem sc_index_of : FnScope N_index_of ["level"] (defScope s_index_of) := ⟨rfl, rfl, rfl, by decide +kernel, rfl, by decide +kernel, by decide +kernel⟩
abbrev N_elliptic : List Str := List.map Str.ofString ["level", "squares", "cubes", "x"]
theorem sc_elliptic : FnScope N_elliptic ["level"] (defScope s_elliptic) := ⟨rfl, rfl, rfl, by decide +kernel, rfl, by decide +kernel, by decide +kernel⟩
abbrev N_cusp_count : List Str := List.map Str.ofString ["level", "c"]
theorem sc_cusp_count : FnScope N_cusp_count ["level"] (defScope s_cusp_count) := ⟨rfl, rfl, rfl, by decide +kernel, rfl, by decide +kernel, by decide +kernel⟩
abbrev N_genus_of : List Str := List.map Str.ofString ["level", "twos", "threes"]
theorem sc_genus_of : FnScope N_genus_of ["level"] (defScope s_genus_of) := ⟨rfl, rfl, rfl, by decide +kernel, rfl, by decide +kernel, by decide +kernel⟩
abbrev N_rank_of : List Str := List.map Str.ofString ["level", "twos", "threes"]
theorem sc_rank_of : FnScope N_rank_of ["level"] (defScope s_rank_of) := ⟨rfl, rfl, rfl, by decide +kernel, rfl, by decide +kernel, by decide +kernel⟩
abbrev N__law_caught : List Str := List.map Str.ofString ["work", "caught", "error"]
theorem sc__law_caught : FnScope N__law_caught ["work"] (defScope s__law_caught) := ⟨rfl, rfl, rfl, by decide +kernel, rfl, by decide +kernel, by decide +kernel⟩
abbrev N__law_gcd : List Str := List.map Str.ofString ["one", "other", "here", "there"]
theorem sc__law_gcd : FnScope N__law_gcd ["one", "other"] (defScope s__law_gcd) := ⟨rfl, rfl, rfl, by decide +kernel, rfl, by decide +kernel, by decide +kernel⟩
abbrev N__law_level : List Str := List.map Str.ofString ["draw", "most", "some", "level"]
theorem sc__law_level : FnScope N__law_level ["draw", "most"] (defScope s__law_level) := ⟨rfl, rfl, rfl, by decide +kernel, rfl, by decide +kernel, by decide +kernel⟩
abbrev N__law_bad_level : List Str := List.map Str.ofString ["draw"]
theorem sc__law_bad_level : FnScope N__law_bad_level ["draw"] (defScope s__law_bad_level) := ⟨rfl, rfl, rfl, by decide +kernel, rfl, by decide +kernel, by decide +kernel⟩
abbrev N__law_units : List Str := List.map Str.ofString ["level", "u"]
theorem sc__law_units : FnScope N__law_units ["level"] (defScope s__law_units) := ⟨rfl, rfl, rfl, by decide +kernel, rfl, by decide +kernel, by decide +kernel⟩
abbrev N__law_point : List Str := List.map Str.ofString ["level", "c", "d", "u"]
theorem sc__law_point : FnScope N__law_point ["level", "c", "d"] (defScope s__law_point) := ⟨rfl, rfl, rfl, by decide +kernel, rfl, by decide +kernel, by decide +kernel⟩
abbrev N__law_primes : List Str := List.map Str.ofString ["number", "some", "p", "q"]
theorem sc__law_primes : FnScope N__law_primes ["number"] (defScope s__law_primes) := ⟨rfl, rfl, rfl, by decide +kernel, rfl, by decide +kernel, by decide +kernel⟩
abbrev N__law_index : List Str := List.map Str.ofString ["level", "found", "prime"]
theorem sc__law_index : FnScope N__law_index ["level"] (defScope s__law_index) := ⟨rfl, rfl, rfl, by decide +kernel, rfl, by decide +kernel, by decide +kernel⟩
abbrev N__law_divisors : List Str := List.map Str.ofString ["number", "d"]
theorem sc__law_divisors : FnScope N__law_divisors ["number"] (defScope s__law_divisors) := ⟨rfl, rfl, rfl, by decide +kernel, rfl, by decide +kernel, by decide +kernel⟩
abbrev N__law_points : List Str := List.map Str.ofString ["level", "found", "units", "x", "held", "y", "u"]
theorem sc__law_points : FnScope N__law_points ["level"] (defScope s__law_points) := ⟨rfl, rfl, rfl, by decide +kernel, rfl, by decide +kernel, by decide +kernel⟩
abbrev N__law_map : List Str := List.map Str.ofString ["level", "points", "matrix", "a", "b", "c", "d", "pair"]
theorem sc__law_map : FnScope N__law_map ["level", "points", "matrix"] (defScope s__law_map) := ⟨rfl, rfl, rfl, by decide +kernel, rfl, by decide +kernel, by decide +kernel⟩
abbrev N__law_orbits : List Str := List.map Str.ofString ["moves", "found", "seen", "start", "line", "here"]
theorem sc__law_orbits : FnScope N__law_orbits ["moves"] (defScope s__law_orbits) := ⟨rfl, rfl, rfl, by decide +kernel, rfl, by decide +kernel, by decide +kernel⟩
abbrev N__law_ranks : List Str := List.map Str.ofString ["level", "points", "ups", "thirds", "twos", "threes", "pair"]
theorem sc__law_ranks : FnScope N__law_ranks ["level"] (defScope s__law_ranks) := ⟨rfl, rfl, rfl, by decide +kernel, rfl, by decide +kernel, by decide +kernel⟩
abbrev N__law_counted_right : List Str := List.map Str.ofString ["level", "points", "ups", "thirds", "turns", "twos", "threes", "whites", "blacks", "euler", "pair"]
theorem sc__law_counted_right : FnScope N__law_counted_right ["level"] (defScope s__law_counted_right) := ⟨rfl, rfl, rfl, by decide +kernel, rfl, by decide +kernel, by decide +kernel⟩
abbrev N__law_held : List Str := List.map Str.ofString ["level", "prime", "found", "left"]
theorem sc__law_held : FnScope N__law_held ["level", "prime"] (defScope s__law_held) := ⟨rfl, rfl, rfl, by decide +kernel, rfl, by decide +kernel, by decide +kernel⟩
abbrev N__law_power : List Str := List.map Str.ofString ["base", "many", "found", "lap"]
theorem sc__law_power : FnScope N__law_power ["base", "many"] (defScope s__law_power) := ⟨rfl, rfl, rfl, by decide +kernel, rfl, by decide +kernel, by decide +kernel⟩
abbrev N__law_product_right : List Str := List.map Str.ofString ["level", "twos", "threes", "cusps", "primes", "prime", "many", "half", "due"]
theorem sc__law_product_right : FnScope N__law_product_right ["level"] (defScope s__law_product_right) := ⟨rfl, rfl, rfl, by decide +kernel, rfl, by decide +kernel, by decide +kernel⟩
abbrev N_law : List Str := List.map Str.ofString ["script", "draw", "lap", "level", "turn", "bad", "works", "work"]
theorem sc_law : FnScope N_law ["script"] (defScope s_law) := ⟨rfl, rfl, rfl, by decide +kernel, rfl, by decide +kernel, by decide +kernel⟩
/-- what the top has left -/
structure Mod (P : Program) (w : World) (K : PySem.W.Frag) (mg : Str → Option Value) (base : Heap) : Type where
  (f_divisors_of f_primes_of f_phi f_is_number f_is_within f_check_level f_index_of f_elliptic f_cusp_count f_genus_of f_rank_of f__law_begun f__law_blend f__law_take f__law_pick f__law_caught f__law_gcd f__law_level f__law_bad_level f__law_units f__law_point f__law_primes f__law_index f__law_divisors f__law_points f__law_map f__law_orbits f__law_ranks f__law_counted_right f__law_held f__law_power f__law_product_right f_law : Addr)
  (d_divisors_of d_primes_of d_phi d_is_number d_is_within d_check_level d_index_of d_elliptic d_cusp_count d_genus_of d_rank_of d__law_begun d__law_blend d__law_take d__law_pick d__law_caught d__law_gcd d__law_level d__law_bad_level d__law_units d__law_point d__law_primes d__law_index d__law_divisors d__law_points d__law_map d__law_orbits d__law_ranks d__law_counted_right d__law_held d__law_power d__law_product_right d_law : FuncData)
  (a_SeriesError a_BadLevel : Addr)
  (t_GREATEST_LEVEL : Tok)
  F_divisors_of : FnP K "divisors_of" s_divisors_of f_divisors_of d_divisors_of
  g_divisors_of : mg "divisors_of" = some (.ref f_divisors_of)
  F_primes_of : FnP K "primes_of" s_primes_of f_primes_of d_primes_of
  g_primes_of : mg "primes_of" = some (.ref f_primes_of)
  F_phi : FnP K "phi" s_phi f_phi d_phi
  g_phi : mg "phi" = some (.ref f_phi)
  F_is_number : FnP K "is_number" s_is_number f_is_number d_is_number
  g_is_number : mg "is_number" = some (.ref f_is_number)
  F_is_within : FnP K "is_within" s_is_within f_is_within d_is_within
  g_is_within : mg "is_within" = some (.ref f_is_within)
  F_check_level : FnP K "check_level" s_check_level f_check_level d_check_level
  g_check_level : mg "check_level" = some (.ref f_check_level)
  F_index_of : FnP K "index_of" s_index_of f_index_of d_index_of
  g_index_of : mg "index_of" = some (.ref f_index_of)
  F_elliptic : FnP K "elliptic" s_elliptic f_elliptic d_elliptic
  g_elliptic : mg "elliptic" = some (.ref f_elliptic)
  F_cusp_count : FnP K "cusp_count" s_cusp_count f_cusp_count d_cusp_count
  g_cusp_count : mg "cusp_count" = some (.ref f_cusp_count)
  F_genus_of : FnP K "genus_of" s_genus_of f_genus_of d_genus_of
  g_genus_of : mg "genus_of" = some (.ref f_genus_of)
  F_rank_of : FnP K "rank_of" s_rank_of f_rank_of d_rank_of
  g_rank_of : mg "rank_of" = some (.ref f_rank_of)
  F__law_begun : FnP K "_law_begun" s__law_begun f__law_begun d__law_begun
  g__law_begun : mg "_law_begun" = some (.ref f__law_begun)
  F__law_blend : FnP K "_law_blend" s__law_blend f__law_blend d__law_blend
  g__law_blend : mg "_law_blend" = some (.ref f__law_blend)
  F__law_take : FnP K "_law_take" s__law_take f__law_take d__law_take
  g__law_take : mg "_law_take" = some (.ref f__law_take)
  F__law_pick : FnP K "_law_pick" s__law_pick f__law_pick d__law_pick
  g__law_pick : mg "_law_pick" = some (.ref f__law_pick)
  F__law_caught : FnP K "_law_caught" s__law_caught f__law_caught d__law_caught
  g__law_caught : mg "_law_caught" = some (.ref f__law_caught)
  F__law_gcd : FnP K "_law_gcd" s__law_gcd f__law_gcd d__law_gcd
  g__law_gcd : mg "_law_gcd" = some (.ref f__law_gcd)
  F__law_level : FnP K "_law_level" s__law_level f__law_level d__law_level
  g__law_level : mg "_law_level" = some (.ref f__law_level)
  F__law_bad_level : FnP K "_law_bad_level" s__law_bad_level f__law_bad_level d__law_bad_level
  g__law_bad_level : mg "_law_bad_level" = some (.ref f__law_bad_level)
  F__law_units : FnP K "_law_units" s__law_units f__law_units d__law_units
  g__law_units : mg "_law_units" = some (.ref f__law_units)
  F__law_point : FnP K "_law_point" s__law_point f__law_point d__law_point
  g__law_point : mg "_law_point" = some (.ref f__law_point)
  F__law_primes : FnP K "_law_primes" s__law_primes f__law_primes d__law_primes
  g__law_primes : mg "_law_primes" = some (.ref f__law_primes)
  F__law_index : FnP K "_law_index" s__law_index f__law_index d__law_index
  g__law_index : mg "_law_index" = some (.ref f__law_index)
  F__law_divisors : FnP K "_law_divisors" s__law_divisors f__law_divisors d__law_divisors
  g__law_divisors : mg "_law_divisors" = some (.ref f__law_divisors)
  F__law_points : FnP K "_law_points" s__law_points f__law_points d__law_points
  g__law_points : mg "_law_points" = some (.ref f__law_points)
  F__law_map : FnP K "_law_map" s__law_map f__law_map d__law_map
  g__law_map : mg "_law_map" = some (.ref f__law_map)
  F__law_orbits : FnP K "_law_orbits" s__law_orbits f__law_orbits d__law_orbits
  g__law_orbits : mg "_law_orbits" = some (.ref f__law_orbits)
  F__law_ranks : FnP K "_law_ranks" s__law_ranks f__law_ranks d__law_ranks
  g__law_ranks : mg "_law_ranks" = some (.ref f__law_ranks)
  F__law_counted_right : FnP K "_law_counted_right" s__law_counted_right f__law_counted_right d__law_counted_right
  g__law_counted_right : mg "_law_counted_right" = some (.ref f__law_counted_right)
  F__law_held : FnP K "_law_held" s__law_held f__law_held d__law_held
  g__law_held : mg "_law_held" = some (.ref f__law_held)
  F__law_power : FnP K "_law_power" s__law_power f__law_power d__law_power
  g__law_power : mg "_law_power" = some (.ref f__law_power)
  F__law_product_right : FnP K "_law_product_right" s__law_product_right f__law_product_right d__law_product_right
  g__law_product_right : mg "_law_product_right" = some (.ref f__law_product_right)
  F_law : FnP K "law" s_law f_law d_law
  g_law : mg "law" = some (.ref f_law)
  c_GREATEST_LEVEL : mg "GREATEST_LEVEL" = some (.int 360 t_GREATEST_LEVEL)
  g_SeriesError : mg "SeriesError" = some (.ref a_SeriesError)
  g_BadLevel : mg "BadLevel" = some (.ref a_BadLevel)
  i_gcd : mg "gcd" = some (.builtin "math.gcd")
  i_isqrt : mg "isqrt" = some (.builtin "math.isqrt")
  E_BadLevel : ErrT K a_BadLevel a_SeriesError
  abs0 : mg "abs" = none
  bool0 : mg "bool" = none
  dict0 : mg "dict" = none
  int0 : mg "int" = none
  isinstance0 : mg "isinstance" = none
  len0 : mg "len" = none
  min0 : mg "min" = none
  range0 : mg "range" = none
  sum0 : mg "sum" = none
namespace Mod
variable {P : Program} {w : World} {K : PySem.W.Frag} {mg : Str → Option Value} {base : Heap} (M : Mod P w K mg base)
theorem k_divisors_of : PySem.W.keepIn K (.ref M.f_divisors_of) = true := M.F_divisors_of.kp
theorem b_divisors_of : L2.Binds K M.d_divisors_of ["n"] [] := M.F_divisors_of.bindsN fun _ _ _ _ _ _ us hl => match us, hl with | [_], _ => rfl
theorem k_primes_of : PySem.W.keepIn K (.ref M.f_primes_of) = true := M.F_primes_of.kp
theorem b_primes_of : L2.Binds K M.d_primes_of ["n"] [] := M.F_primes_of.bindsN fun _ _ _ _ _ _ us hl => match us, hl with | [_], _ => rfl
theorem k_phi : PySem.W.keepIn K (.ref M.f_phi) = true := M.F_phi.kp
theorem b_phi : L2.Binds K M.d_phi ["n"] [] := M.F_phi.bindsN fun _ _ _ _ _ _ us hl => match us, hl with | [_], _ => rfl
theorem k_is_number : PySem.W.keepIn K (.ref M.f_is_number) = true := M.F_is_number.kp
theorem b_is_number : L2.Binds K M.d_is_number ["thing"] [] := M.F_is_number.bindsN fun _ _ _ _ _ _ us hl => match us, hl with | [_], _ => rfl
theorem k_is_within : PySem.W.keepIn K (.ref M.f_is_within) = true := M.F_is_within.kp
theorem b_is_within : L2.Binds K M.d_is_within ["thing", "least", "greatest"] [] := M.F_is_within.bindsN fun _ _ _ _ _ _ us hl => match us, hl with | [_, _, _], _ => rfl
theorem k_check_level : PySem.W.keepIn K (.ref M.f_check_level) = true := M.F_check_level.kp
theorem b_check_level : L2.Binds K M.d_check_level ["level"] [] := M.F_check_level.bindsN fun _ _ _ _ _ _ us hl => match us, hl with | [_], _ => rfl
theorem k_index_of : PySem.W.keepIn K (.ref M.f_index_of) = true := M.F_index_of.kp
theorem b_index_of : L2.Binds K M.d_index_of ["level"] [] := M.F_index_of.bindsN fun _ _ _ _ _ _ us hl => match us, hl with | [_], _ => rfl
theorem k_elliptic : PySem.W.keepIn K (.ref M.f_elliptic) = true := M.F_elliptic.kp
theorem b_elliptic : L2.Binds K M.d_elliptic ["level"] [] := M.F_elliptic.bindsN fun _ _ _ _ _ _ us hl => match us, hl with | [_], _ => rfl
theorem k_cusp_count : PySem.W.keepIn K (.ref M.f_cusp_count) = true := M.F_cusp_count.kp
theorem b_cusp_count : L2.Binds K M.d_cusp_count ["level"] [] := M.F_cusp_count.bindsN fun _ _ _ _ _ _ us hl => match us, hl with | [_], _ => rfl
theorem k_genus_of : PySem.W.keepIn K (.ref M.f_genus_of) = true := M.F_genus_of.kp
theorem b_genus_of : L2.Binds K M.d_genus_of ["level"] [] := M.F_genus_of.bindsN fun _ _ _ _ _ _ us hl => match us, hl with | [_], _ => rfl
theorem k_rank_of : PySem.W.keepIn K (.ref M.f_rank_of) = true := M.F_rank_of.kp
theorem b_rank_of : L2.Binds K M.d_rank_of ["level"] [] := M.F_rank_of.bindsN fun _ _ _ _ _ _ us hl => match us, hl with | [_], _ => rfl
theorem k__law_begun : PySem.W.keepIn K (.ref M.f__law_begun) = true := M.F__law_begun.kp
theorem b__law_begun : L2.Binds K M.d__law_begun ["script"] [] := M.F__law_begun.bindsN fun _ _ _ _ _ _ us hl => match us, hl with | [_], _ => rfl
theorem k__law_blend : PySem.W.keepIn K (.ref M.f__law_blend) = true := M.F__law_blend.kp
theorem b__law_blend : L2.Binds K M.d__law_blend ["draw"] [] := M.F__law_blend.bindsN fun _ _ _ _ _ _ us hl => match us, hl with | [_], _ => rfl
theorem k__law_take : PySem.W.keepIn K (.ref M.f__law_take) = true := M.F__law_take.kp
theorem b__law_take : L2.Binds K M.d__law_take ["draw", "size"] [] := M.F__law_take.bindsN fun _ _ _ _ _ _ us hl => match us, hl with | [_, _], _ => rfl
theorem k__law_pick : PySem.W.keepIn K (.ref M.f__law_pick) = true := M.F__law_pick.kp
theorem b__law_pick : L2.Binds K M.d__law_pick ["draw", "some"] [] := M.F__law_pick.bindsN fun _ _ _ _ _ _ us hl => match us, hl with | [_, _], _ => rfl
theorem k__law_caught : PySem.W.keepIn K (.ref M.f__law_caught) = true := M.F__law_caught.kp
theorem b__law_caught : L2.Binds K M.d__law_caught ["work"] [] := M.F__law_caught.bindsN fun _ _ _ _ _ _ us hl => match us, hl with | [_], _ => rfl
theorem k__law_gcd : PySem.W.keepIn K (.ref M.f__law_gcd) = true := M.F__law_gcd.kp
theorem b__law_gcd : L2.Binds K M.d__law_gcd ["one", "other"] [] := M.F__law_gcd.bindsN fun _ _ _ _ _ _ us hl => match us, hl with | [_, _], _ => rfl
theorem k__law_level : PySem.W.keepIn K (.ref M.f__law_level) = true := M.F__law_level.kp
theorem b__law_level : L2.Binds K M.d__law_level ["draw", "most"] [] := M.F__law_level.bindsN fun _ _ _ _ _ _ us hl => match us, hl with | [_, _], _ => rfl
theorem k__law_bad_level : PySem.W.keepIn K (.ref M.f__law_bad_level) = true := M.F__law_bad_level.kp
theorem b__law_bad_level : L2.Binds K M.d__law_bad_level ["draw"] [] := M.F__law_bad_level.bindsN fun _ _ _ _ _ _ us hl => match us, hl with | [_], _ => rfl
theorem k__law_units : PySem.W.keepIn K (.ref M.f__law_units) = true := M.F__law_units.kp
theorem b__law_units : L2.Binds K M.d__law_units ["level"] [] := M.F__law_units.bindsN fun _ _ _ _ _ _ us hl => match us, hl with | [_], _ => rfl
theorem k__law_point : PySem.W.keepIn K (.ref M.f__law_point) = true := M.F__law_point.kp
theorem b__law_point : L2.Binds K M.d__law_point ["level", "c", "d"] [] := M.F__law_point.bindsN fun _ _ _ _ _ _ us hl => match us, hl with | [_, _, _], _ => rfl
theorem k__law_primes : PySem.W.keepIn K (.ref M.f__law_primes) = true := M.F__law_primes.kp
theorem b__law_primes : L2.Binds K M.d__law_primes ["number"] [] := M.F__law_primes.bindsN fun _ _ _ _ _ _ us hl => match us, hl with | [_], _ => rfl
theorem k__law_index : PySem.W.keepIn K (.ref M.f__law_index) = true := M.F__law_index.kp
theorem b__law_index : L2.Binds K M.d__law_index ["level"] [] := M.F__law_index.bindsN fun _ _ _ _ _ _ us hl => match us, hl with | [_], _ => rfl
theorem k__law_divisors : PySem.W.keepIn K (.ref M.f__law_divisors) = true := M.F__law_divisors.kp
theorem b__law_divisors : L2.Binds K M.d__law_divisors ["number"] [] := M.F__law_divisors.bindsN fun _ _ _ _ _ _ us hl => match us, hl with | [_], _ => rfl
theorem k__law_points : PySem.W.keepIn K (.ref M.f__law_points) = true := M.F__law_points.kp
theorem b__law_points : L2.Binds K M.d__law_points ["level"] [] := M.F__law_points.bindsN fun _ _ _ _ _ _ us hl => match us, hl with | [_], _ => rfl
theorem k__law_map : PySem.W.keepIn K (.ref M.f__law_map) = true := M.F__law_map.kp
theorem b__law_map : L2.Binds K M.d__law_map ["level", "points", "matrix"] [] := M.F__law_map.bindsN fun _ _ _ _ _ _ us hl => match us, hl with | [_, _, _], _ => rfl
theorem k__law_orbits : PySem.W.keepIn K (.ref M.f__law_orbits) = true := M.F__law_orbits.kp
theorem b__law_orbits : L2.Binds K M.d__law_orbits ["moves"] [] := M.F__law_orbits.bindsN fun _ _ _ _ _ _ us hl => match us, hl with | [_], _ => rfl
theorem k__law_ranks : PySem.W.keepIn K (.ref M.f__law_ranks) = true := M.F__law_ranks.kp
theorem b__law_ranks : L2.Binds K M.d__law_ranks ["level"] [] := M.F__law_ranks.bindsN fun _ _ _ _ _ _ us hl => match us, hl with | [_], _ => rfl
theorem k__law_counted_right : PySem.W.keepIn K (.ref M.f__law_counted_right) = true := M.F__law_counted_right.kp
theorem b__law_counted_right : L2.Binds K M.d__law_counted_right ["level"] [] := M.F__law_counted_right.bindsN fun _ _ _ _ _ _ us hl => match us, hl with | [_], _ => rfl
theorem k__law_held : PySem.W.keepIn K (.ref M.f__law_held) = true := M.F__law_held.kp
theorem b__law_held : L2.Binds K M.d__law_held ["level", "prime"] [] := M.F__law_held.bindsN fun _ _ _ _ _ _ us hl => match us, hl with | [_, _], _ => rfl
theorem k__law_power : PySem.W.keepIn K (.ref M.f__law_power) = true := M.F__law_power.kp
theorem b__law_power : L2.Binds K M.d__law_power ["base", "many"] [] := M.F__law_power.bindsN fun _ _ _ _ _ _ us hl => match us, hl with | [_, _], _ => rfl
theorem k__law_product_right : PySem.W.keepIn K (.ref M.f__law_product_right) = true := M.F__law_product_right.kp
theorem b__law_product_right : L2.Binds K M.d__law_product_right ["level"] [] := M.F__law_product_right.bindsN fun _ _ _ _ _ _ us hl => match us, hl with | [_], _ => rfl
theorem k_law : PySem.W.keepIn K (.ref M.f_law) = true := M.F_law.kp
theorem b_law : L2.Binds K M.d_law ["script"] [] := M.F_law.bindsN fun _ _ _ _ _ _ us hl => match us, hl with | [_], _ => rfl
theorem h_rank_of : KBinds K M.d_rank_of ["level"] ["level"] gR gR := kbR M.F_rank_of (by decide) fun _ _ _ _ _ _ ws hl => match ws, hl with | [_], _ => rfl
theorem h_elliptic : KBinds K M.d_elliptic ["level"] ["level"] gR gR := kbR M.F_elliptic (by decide) fun _ _ _ _ _ _ ws hl => match ws, hl with | [_], _ => rfl
theorem h_cusp_count : KBinds K M.d_cusp_count ["level"] ["level"] gR gR := kbR M.F_cusp_count (by decide) fun _ _ _ _ _ _ ws hl => match ws, hl with | [_], _ => rfl
theorem h_genus_of : KBinds K M.d_genus_of ["level"] ["level"] gR gR := kbR M.F_genus_of (by decide) fun _ _ _ _ _ _ ws hl => match ws, hl with | [_], _ => rfl
end Mod
section
variable {P : Program} {w : World} {K : PySem.W.Frag} {mg : Str → Option Value} {base : Heap}
theorem ok__law_begun (M : Mod P w K mg base) : FnOk P w K mg base CX0 1 M.f__law_begun M.d__law_begun ["script"] (spBegun K) := ok_begun M.F__law_begun M.abs0
theorem ok__law_take (M : Mod P w K mg base) : FnOk P w K mg base CX0 2 M.f__law_take M.d__law_take ["draw", "size"] spTake := ok_take M.F__law_take M.int0 M.F__law_blend M.g__law_blend
theorem ok__law_pick (M : Mod P w K mg base) : FnOk P w K mg base CX0 3 M.f__law_pick M.d__law_pick ["draw", "some"] (spPick K) := ok_pick M.F__law_pick M.len0 (ok__law_take M) M.b__law_take M.g__law_take M.k__law_take
def sp_is_number : Sp := fun vs H Q _ => ∃ x, vs = [x] ∧ PV H x ∧ Q (.bl (isNum x)) H
theorem ok_is_number (M : Mod P w K mg base) : FnOk P w K mg base CX0 1 M.f_is_number M.d_is_number ["thing"] sp_is_number := by
  refine M.F_is_number.ok sc_is_number (fun vs H Q E h => ?_) (fun cdv A outer s H vs Q E hr h => ?_)
  · obtain ⟨x, rfl, _⟩ := h
    rfl
  · obtain ⟨x, rfl, hx, q⟩ := h
    refine ⟨_, PSs.nox (pss_one (ps_ret (pe_and (pe_callB call_isi (by rfl) M.isinstance0 boot_isinstance (pa_cons (pv 0) (pa_cons (pe_bltn (v := .ty "int") rfl M.int0 (by decide +kernel) rfl) pa_nil))) (pe_one (pe_not (pe_callB call_isi (by rfl) M.isinstance0 boot_isinstance (pa_cons (pv 0) (pa_cons (pe_bltn (v := .ty "bool") rfl M.bool0 (by decide +kernel) rfl) pa_nil)))))))), ?_⟩
    obtain ⟨t, ty, k1, k2⟩ := hx.ty (K := K)
    refine ⟨_, rfl, x, _, t, _, _, rfl, .ty "int", ty, k1, kInt x, rfl, ?_⟩
    have e := kInt_num x
    cases hk : kInt x with
    | true =>
      refine iteT ⟨_, rfl, x, _, t, _, _, rfl, .ty "bool", ty, k2, kBool x, rfl, ?_⟩
      rw [hk, Bool.true_and] at e
      rw [e]
      exact q
    | false =>
      refine iteF ?_
      rw [hk, Bool.false_and] at e
      rw [e]
      exact q
def sp_is_within : Sp := fun vs H Q _ => ∃ (x : V) (lo hi : Int), vs = [x, .int lo, .int hi] ∧ PV H x ∧ Q (.bl (within x lo hi)) H
theorem ok_is_within (M : Mod P w K mg base) : FnOk P w K mg base CX0 2 M.f_is_within M.d_is_within ["thing", "least", "greatest"] sp_is_within := by
  refine M.F_is_within.ok sc_is_within (fun vs H Q E h => ?_) (fun cdv A outer s H vs Q E hr h => ?_)
  · obtain ⟨x, lo, hi, rfl, _⟩ := h
    rfl
  · obtain ⟨x, lo, hi, rfl, hx, q⟩ := h
    refine ⟨_, PSs.nox (pss_one (ps_ret (pe_and (pe_call (ok_is_number M) (hr.mono (by decide)) rfl M.g_is_number M.k_is_number M.b_is_number .nil pass0 (pa_cons (pv 0) pa_nil)) (pe_one (pe_chain op_le op_le (pv 1) (pv 0) (pv 2)))))), ?_⟩
    refine ⟨_, rfl, x, rfl, hx, isNum x, rfl, ?_⟩
    cases x with
    | int i =>
      refine iteT ⟨_, rfl, _, rfl, _, _, rfl, rfl, _, rfl, ?_⟩
      have e : within (.int i) lo hi = (decide (lo ≤ i) && decide (i ≤ hi)) := rfl
      rw [e] at q
      by_cases c : lo ≤ i
      · rw [decide_eq_true c, Bool.true_and] at q
        rw [decide_eq_true c]
        exact iteT ⟨_, rfl, _, _, rfl, rfl, q⟩
      · rw [decide_eq_false c, Bool.false_and] at q
        rw [decide_eq_false c]
        exact iteF q
    | _ => exact iteF q
end
end K13

set_option Elab.async false
set_option linter.all false
set_option maxRecDepth 100000
set_option maxHeartbeats 4000000
set_option pp.maxSteps 3000
set_option exponentiation.threshold 500000
namespace K13
open PySem PySem.Spec PyProof.Rows L2 Dr Xv LamX Ps Gn Gp
section
variable {P : Program} {w : World} {K : PySem.W.Frag} {mg : Str → Option Value} {base : Heap}
def sp_check_level (cL : Addr) : Sp := fun vs H Q E => ∃ x : V, vs = [x] ∧ PV H x ∧ (within x 1 360 = true → Q .non H) ∧ (within x 1 360 = false → E (.ref cL) none H)
theorem ok_check_level (M : Mod P w K mg base) : FnOk P w K mg base (L2.CX P w) 3 M.f_check_level M.d_check_level ["level"] (sp_check_level M.a_BadLevel) := by
  refine M.F_check_level.ok sc_check_level (fun vs H Q E h => ?_) (fun cdv A outer s H vs Q E hr h => ?_)
  · obtain ⟨x, rfl, _⟩ := h
    rfl
  · obtain ⟨x, rfl, hx, q1, q2⟩ := h
    refine ⟨_, (pss_one (ps_if (pt_not (pt_val (pe_call (ok_is_within M) (hr.mono (by decide)) rfl M.g_is_within M.k_is_within M.b_is_within .nil pass0 (pa_cons (pv 0) (pa_cons pe_int (pa_cons (pe_glob (v := .int 360) rfl M.c_GREATEST_LEVEL ⟨_, rfl⟩) pa_nil)))))) 
        (pss_one (ps_raise rfl (takes_of rfl rfl rfl rfl) (pmk_own PySem.F.excBase_ValueError M.E_BadLevel.x M.g_BadLevel M.E_BadLevel.k (raises_own M.E_BadLevel.b M.E_BadLevel.t) rfl))) pss_nil)), ?_⟩
    refine ⟨_, rfl, x, 1, 360, rfl, hx, _, rfl, ?_⟩
    cases hk : within x 1 360 with
    | true => exact iteF (q1 hk)
    | false => exact iteT (q2 hk)
theorem log_b {n : Nat} (h : n ≤ 1000) (h1 : 1 ≤ n) : CDivB 0 (n : Int) := ⟨by omega, log_small h⟩
def sp_divisors_of : Sp := fun vs H Q _ => ∃ n : Nat, vs = [.int (n : Int)] ∧ 1 ≤ n ∧ n ≤ 360 ∧ ∀ (p : Addr) (H' : Hp), H p = none → Same H H' → H' p = some (.lst (nV (Gp.dvs n))) → Q (.ref p) H'
theorem ok_divisors_of (M : Mod P w K mg base) : FnOk P w K mg base CX0 1 M.f_divisors_of M.d_divisors_of ["n"] sp_divisors_of := by
  refine M.F_divisors_of.ok sc_divisors_of (fun vs H Q E h => ?_) (fun cdv A outer s H vs Q E hr h => ?_)
  · obtain ⟨n, rfl, _⟩ := h
    rfl
  · obtain ⟨n, rfl, n1, n2, q⟩ := h
    refine ⟨_, PSs.nox (pss_cons (ps_setLc (i := 1) (own := [("d", 2)]) (g := (gName 2)) (by rfl) sc_divisors_of.nd rfl rfl (sw_true rfl rfl rfl (by decide +kernel)) (pi_range2 (by rfl) M.range0 (pa_cons pe_int (pa_cons (pe_op op_add (pe_callBfun cr_isqrt rfl M.i_isqrt (pa_cons (pv 0) pa_nil)) pe_int) pa_nil))) (blkOk_by (own := [("d", 2)]) (N := N_divisors_of) (sc := defScope s_divisors_of) (by decide +kernel))
        (fun _ _ _ _ _ => (pg_name (i := 2) sc_divisors_of.nd rfl (Or.inl rfl))) (fun _ _ _ _ _ => (pts_one (pt_cmpR op_eq (pe_op op_modN (pv 0) (pv 2)) pe_int (nomark _)))) (fun _ _ _ _ _ => (pv 2)))
      (pss_one (ps_ret (pe_op op_cat (pv 1) (pe_lc (own := [("d", 2)]) (g := (gName 2)) (by rfl) sc_divisors_of.nd (pi_list (pe_revL (pv 1))) (blkOk_by (own := [("d", 2)]) (N := N_divisors_of) (sc := defScope s_divisors_of) (by decide +kernel))
        (fun _ _ _ _ _ => (pg_name (i := 2) sc_divisors_of.nd rfl (Or.inl rfl))) (fun _ _ _ _ _ => (pts_one (pt_cmpR op_ne (pe_op op_mul (pv 2) (pv 2)) (pv 0) (nomark _)))) (fun _ _ _ _ _ => (pe_op op_fdivB (pv 0) (pv 2)))))))), ?_⟩
    refine ⟨_, rfl, n, rfl, by omega, fun r r1 r2 => ?_⟩
    have r20 : r < 20 := by
      rcases Nat.lt_or_ge r 20 with h | h
      · exact h
      · exact absurd (Nat.mul_le_mul h h) (by omega)
    refine ⟨_, _, rfl, rfl, _, _, rfl, ⟨by decide, by decide, by omega, by omega⟩, fun D hD => ?_⟩
    refine lc_range (lo := 1) (n := ((r : Int) + 1 - 1).toNat) (fun i H' => H' D = some (.lst (nV (((List.range i).map (· + 1)).filter fun d => decide (n % d = 0)))) ∧ Same H H') ⟨upd_same, same_new hD⟩ ?_ ?_
    · rintro i H1 hi ⟨h1, s1⟩
      have ej : (1 : Int) + (i : Int) = ((i + 1 : Nat) : Int) := by omega
      rw [ej]
      refine ⟨rfl, _, rfl, _, rfl, _, _, rfl, rfl, (by show ((i + 1 : Nat) : Int) ≠ 0; omega), rfl, _, rfl, ?_⟩
      rw [rg_succ, fil_snoc]
      by_cases c : n % (i + 1) = 0
      · rw [if_pos (decide_eq_true c)]
        refine iteT' (decide_eq_true (by show V.int _ = _; rw [fmodN, c]; rfl)) ⟨_, rfl, _, h1, ?_, ?_, fun b o e => by rw [upd_ne (ne_of_none e hD)]; exact s1 _ _ e⟩
        · have := fil_le (fun d => decide (n % d = 0)) ((List.range i).map (· + 1))
          rw [List.length_map, List.length_range] at this
          rw [nV_len, sizeLine_eq]
          omega
        · rw [upd_same]
          unfold nV
          rw [List.map_append]
          rfl
      · rw [if_neg (by simpa using c), List.append_nil]
        refine iteF' (decide_eq_false fun z => c ?_) ⟨h1, s1⟩
        have z' : V.int (((n : Nat) : Int).fmod ((i + 1 : Nat) : Int)) = .int 0 := z
        injection z' with z'
        rw [fmodN] at z'
        omega
    · rintro H1 ⟨h1, s1⟩
      have er : ((r : Int) + 1 - 1).toNat = r := by omega
      rw [er] at h1
      obtain ⟨L, eL⟩ : ∃ L, L = ((List.range r).map (· + 1)).filter fun d => decide (n % d = 0) := ⟨_, rfl⟩
      rw [← eL] at h1
      have Lb : ∀ d ∈ L, 1 ≤ d ∧ d ≤ 360 := fun d hd => by
        rw [eL] at hd
        obtain ⟨j, hj, rfl⟩ := List.mem_map.mp (List.mem_filter.mp hd).1
        have := List.mem_range.mp hj
        omega
      have Ll : L.length ≤ 20 := by
        have := fil_le (fun d => decide (n % d = 0)) ((List.range r).map (· + 1))
        rw [List.length_map, List.length_range, ← eL] at this
        omega
      refine ⟨_, rfl, _, rfl, D, _, rfl, SqL.of h1, fun p1 hp1 => ?_⟩
      have s2 := same_new (o := .lst (nV L).reverse) hp1
      have e2 : (upd H1 p1 (.lst (nV L).reverse)) p1 = some (.lst (nV L.reverse)) := by
        rw [upd_same]
        unfold nV
        rw [List.map_reverse]
      have f2 := s2 _ _ h1
      generalize upd H1 p1 (.lst (nV L).reverse) = H2 at s2 e2 f2 ⊢
      have s12 := s1.trans s2
      refine ⟨p1, rfl, ⟨_, SqL.of e2⟩, fun D2 hD2 => lc_list (K := K) (a := p1) (xs := nV L.reverse) (fun i H' => H' D2 = some (.lst (nV (((L.reverse.take i).filter fun d => decide (d * d ≠ n)).map fun d => n / d))) ∧ Same H2 H') ⟨upd_same, same_new hD2⟩ (fun i H' _ ⟨_, s⟩ => SqL.of (s _ _ e2)) ?_ ?_⟩
      · rintro i x H' hi ⟨h3, s3⟩
        obtain ⟨d, hd, rfl⟩ := nV_at hi
        obtain ⟨d1, d2⟩ := Lb d (List.mem_reverse.mp (List.mem_of_getElem? hd))
        refine ⟨rfl, _, rfl, _, rfl, _, _, rfl, rfl, .inl ⟨by omega, by omega⟩, _, rfl, rfl, _, rfl, ?_⟩
        rw [take_nx hd, fil_snoc]
        by_cases c : d * d = n
        · rw [if_neg (by simpa using c), List.append_nil]
          refine iteF' (by
            rw [Bool.not_eq_false', decide_eq_true_eq]
            show V.int _ = V.int _
            rw [← c]
            rfl) ⟨h3, s3⟩
        · rw [if_pos (by simpa using c)]
          refine iteT' (by
            rw [Bool.not_eq_true', decide_eq_false_iff_not]
            intro z
            have z' : V.int ((d : Int) * (d : Int)) = .int (n : Int) := z
            injection z' with z'
            exact c (by exact_mod_cast z')) ⟨_, rfl, _, rfl, _, _, rfl, rfl, ⟨by omega, log_small (by omega)⟩, _, h3, ?_, ?_, fun b o e => by rw [upd_ne (ne_of_none e hD2)]; exact s3 _ _ e⟩
          · have := fil_le (fun d => decide (d * d ≠ n)) (L.reverse.take i)
            rw [List.length_take, List.length_reverse] at this
            rw [nV_len, List.length_map, sizeLine_eq]
            omega
          · rw [upd_same, List.map_append]
            unfold nV
            rw [List.map_append]
            show some (HO.lst (_ ++ [V.int (((n : Nat) : Int).fdiv ((d : Nat) : Int))])) = _
            rw [fdivN]
            rfl
      · rintro H3 ⟨h3, s3⟩
        rw [nV_len, List.take_length] at h3
        refine ⟨D, D2, _, _, rfl, rfl, s3 _ _ f2, h3, ?_, fun p4 h4 => ?_⟩
        · have := fil_le (fun d => decide (d * d ≠ n)) L.reverse
          rw [List.length_reverse] at this
          rw [nV_len, nV_len, List.length_map, sizeLine_eq]
          omega
        · refine q p4 _ (s12.free (s3.free h4)) ((s12.trans s3).trans (same_new h4)) ?_
          rw [upd_same]
          have e := Gp.dv_ok ⟨n, by omega⟩ ⟨r, r20⟩ r1 r2
          rw [← e]
          unfold Gp.dvR nV
          rw [List.map_append, eL]
def sp_phi : Sp := fun vs H Q _ => ∃ n : Nat, vs = [.int (n : Int)] ∧ n ≤ 360 ∧ ∀ H' : Hp, Same H H' → Q (.int (Gp.phN n : Int)) H'
theorem ok_phi (M : Mod P w K mg base) : FnOk P w K mg base CX0 1 M.f_phi M.d_phi ["n"] sp_phi := by
  refine M.F_phi.ok sc_phi (fun vs H Q E h => ?_) (fun cdv A outer s H vs Q E hr h => ?_)
  · obtain ⟨n, rfl, _⟩ := h
    rfl
  · obtain ⟨n, rfl, n2, q⟩ := h
    refine ⟨_, PSs.nox (pss_one (ps_ret (pe_callB call_len (by rfl) M.len0 PySem.boot_len (pa_cons (pe_lc (own := [("u", 1)]) (g := (gName 1)) (by rfl) sc_phi.nd (pi_range2 (by rfl) M.range0 (pa_cons pe_int (pa_cons (pe_op op_add (pv 0) pe_int) pa_nil))) (blkOk_by (own := [("u", 1)]) (N := N_phi) (sc := defScope s_phi) (by decide +kernel))
        (fun _ _ _ _ _ => (pg_name (i := 1) sc_phi.nd rfl (Or.inl rfl))) (fun _ _ _ _ _ => (pts_one (pt_cmpR op_eq (pe_callBfun cr_gcd rfl M.i_gcd (pa_cons (pv 1) (pa_cons (pv 0) pa_nil))) pe_int (nomark _)))) (fun _ _ _ _ _ => (pv 1))) pa_nil)))), ?_⟩
    refine ⟨_, rfl, _, _, rfl, rfl, _, _, rfl, ⟨by decide, by decide, by omega, by omega⟩, fun D hD => lc_fil 1 ((n : Int) + 1 - 1).toNat (fun u => decide (Nat.gcd u n = 1)) (fun u => .int (u : Int)) (by omega) hD ?_ ?_⟩
    · intro i H1 A B hi s1 hA hB
      refine ⟨rfl, _, rfl, _, rfl, tn <| ⟨_, _, rfl, rfl, _, rfl, iteB (c := decide (Nat.gcd (1 + i) n = 1)) ?_ (fun c => hA _ same_rfl c) fun c => ⟨_, rfl, hB _ same_rfl c⟩⟩⟩
      rw [Int.natAbs_natCast, Int.natAbs_natCast]
      exact dec_n1 _
    · intro H1 s1 h1
      refine tn <| ⟨_, _, rfl, .inl ⟨_, SqL.of h1, rfl⟩, ?_⟩
      have e : ((((List.range ((n : Int) + 1 - 1).toNat).map (1 + ·)).filter fun u => decide (Nat.gcd u n = 1)).map fun u : Nat => V.int (u : Int)).length = Gp.phN n := by
        rw [List.length_map, show ((n : Int) + 1 - 1).toNat = n by omega]
        unfold Gp.phN
        rw [show (fun x => 1 + x) = (fun x : Nat => x + 1) from funext fun x => Nat.add_comm 1 x]
      rw [e]
      exact q H1 s1
theorem stp_le : ∀ (f n p : Nat), stp f n p ≤ n := by
  intro f
  induction f with
  | zero => exact fun n p => Nat.le_refl _
  | succ f ih =>
    intro n p
    unfold stp
    split
    · exact Nat.le_trans (ih _ _) (Nat.div_le_self _ _)
    · exact Nat.le_refl _
theorem stp_pos : ∀ (f n p : Nat), 1 ≤ n → 2 ≤ p → 1 ≤ stp f n p := by
  intro f
  induction f with
  | zero => exact fun n p h _ => h
  | succ f ih =>
    intro n p h1 h2
    unfold stp
    split
    · rename_i c
      refine ih _ _ ?_ h2
      have := Nat.le_of_dvd h1 (Nat.dvd_of_mod_eq_zero c)
      exact Nat.div_pos this (by omega)
    · exact h1
def sp_primes_of : Sp := fun vs H Q _ => ∃ n : Nat, vs = [.int (n : Int)] ∧ 1 ≤ n ∧ n ≤ 360 ∧ ∀ (p : Addr) (H' : Hp), H p = none → Same H H' → H' p = some (.lst (nV (lpr n))) → Q (.ref p) H'
theorem ok_primes_of (M : Mod P w K mg base) : FnOk P w K mg base CX0 1 M.f_primes_of M.d_primes_of ["n"] sp_primes_of := by
  refine M.F_primes_of.ok sc_primes_of (fun vs H Q E h => ?_) (fun cdv A outer s H vs Q E hr h => ?_)
  · obtain ⟨n, rfl, _⟩ := h
    rfl
  · obtain ⟨N, rfl, n1, n2, q⟩ := h
    refine ⟨_, PSs.nox (pss_cons (ps_set (i := 1) sc_primes_of.nd rfl (Or.inl rfl) (pe_lst pa_nil))
      (pss_cons (ps_set (i := 2) sc_primes_of.nd rfl (Or.inl rfl) pe_int)
      (pss_cons (ps_while PassesOwn.never (pt_cmpR op_gt (pv 0) pe_int (nomark _)) 
        (C8.pss_cut (ps_if (pt_cmpR op_eq (pe_op op_modN (pv 0) (pv 2)) pe_int (nomark _)) 
          (pss_cons (ps_expr (pe_bm PySem.F.plainAttrs_list PySem.F.slot_list_append PySem.F.type_list_append mt_append (pv 1) (pa_cons (pv 2) pa_nil)))
          (pss_one (ps_while PassesOwn.never (pt_cmpR op_eq (pe_op op_modN (pv 0) (pv 2)) pe_int (nomark _)) 
            (pss_one (ps_aug (i := 0) sc_primes_of.nd rfl (Or.inl rfl) (pv 2) iop_fdiv))))) pss_nil)
        (pss_one (ps_aug (i := 2) sc_primes_of.nd rfl (Or.inl rfl) pe_int ip_add))))
      (pss_one (ps_ret (pv 1)))))), ?_⟩
    refine ⟨(by show 0 ≤ sizeLine; decide), fun D hD => ?_⟩
    obtain ⟨d1, d2⟩ := pr_ok ⟨N, by omega⟩ n1
    have d1 : Gp.prD 400 N 2 = true := d1
    have d2 : prs 400 N 2 = lpr N := d2
    refine ⟨fun m σ' H' => ∃ (n p : Nat) (acc : List Nat), σ' = [some (.int (n : Int)), some (.ref D), some (.int (p : Int))] ∧ acc ++ prs m n p = lpr N ∧ Gp.prD m n p = true ∧ 1 ≤ n ∧ n ≤ 360 ∧ 2 ≤ p ∧ p + m = 402 ∧ acc.length ≤ p ∧ H' D = some (.lst (nV acc)) ∧ Same H H', ⟨400, N, 2, [], rfl, d2, d1, n1, n2, by decide, by decide, by decide, upd_same, same_new hD⟩, ?_⟩
    rintro m σ H1 ⟨n, p, acc, rfl, hp, hd, m1, m2, p2, pm, al, e1, s1⟩
    refine ⟨_, rfl, _, _, rfl, rfl, _, rfl, ?_⟩
    by_cases c : n ≤ 1
    · refine iteF' (decide_eq_false (by omega)) ?_
      have e : prs m n p = [] := by
        cases m with
        | zero => rfl
        | succ m =>
          unfold prs
          rw [if_pos c]
      rw [e, List.append_nil] at hp
      rw [hp] at e1
      exact ⟨_, rfl, q D H1 hD s1 e1⟩
    · cases m with
      | zero => exact absurd (of_decide_eq_true hd) c
      | succ m =>
        refine iteT' (decide_eq_true (by omega)) ?_
        unfold prs at hp
        unfold Gp.prD at hd
        rw [if_neg c] at hp hd
        refine ⟨fun σ' H' => ∃ (n' p' : Nat) (acc' : List Nat), σ' = [some (.int (n' : Int)), some (.ref D), some (.int (p' : Int))] ∧ acc' ++ prs m n' p' = lpr N ∧ Gp.prD m n' p' = true ∧ 1 ≤ n' ∧ n' ≤ 360 ∧ 2 ≤ p' ∧ p' + m = 402 ∧ acc'.length ≤ p' ∧ H' D = some (.lst (nV acc')) ∧ Same H H', fun σ' H' z => ⟨m, Nat.lt_succ_self m, z⟩, ?_⟩
        refine ⟨fun σ' H' => ∃ (n' : Nat) (acc' : List Nat), σ' = [some (.int (n' : Int)), some (.ref D), some (.int (p : Int))] ∧ acc' ++ prs m n' (p + 1) = lpr N ∧ Gp.prD m n' (p + 1) = true ∧ 1 ≤ n' ∧ n' ≤ 360 ∧ acc'.length ≤ p + 1 ∧ H' D = some (.lst (nV acc')) ∧ Same H H', ?_, ?_⟩
        · refine ⟨_, rfl, _, rfl, _, _, rfl, rfl, by omega, rfl, _, rfl, iteB (c := decide (n % p = 0)) (by show decide (V.int _ = V.int 0) = _; rw [fmodN]; exact dec_n0 _) (fun c0 => ?_) (fun c0 => ?_)⟩
          · have c0 := of_decide_eq_false c0
            rw [if_neg c0] at hp hd
            exact ⟨n, acc, rfl, hp, hd, m1, m2, by omega, e1, s1⟩
          · have c0 := of_decide_eq_true c0
            rw [if_pos c0] at hp hd
            refine ⟨_, rfl, .inl ⟨rfl, _, SqL.of e1⟩, _, rfl, tn <| ⟨D, _, _, rfl, rfl, e1, by rw [nV_len, sizeLine_eq]; omega, ?_⟩⟩
            have e2 : (upd H1 D (.lst (nV acc ++ [.int (p : Int)]))) D = some (.lst (nV (acc ++ [p]))) := by
              rw [upd_same]
              unfold nV
              rw [List.map_append]
              rfl
            have s2 : Same H (upd H1 D (.lst (nV acc ++ [.int (p : Int)]))) := fun b o e => by
              rw [upd_ne (ne_of_none e hD)]
              exact s1 _ _ e
            generalize upd H1 D (.lst (nV acc ++ [.int (p : Int)])) = H2 at e2 s2 ⊢
            refine ⟨fun k σ' H' => ∃ f, σ' = [some (.int (k : Int)), some (.ref D), some (.int (p : Int))] ∧ stp f k p = stp n n p ∧ k ≤ f ∧ 1 ≤ k ∧ k ≤ 360 ∧ H' = H2, ⟨n, n, rfl, rfl, Nat.le_refl _, m1, m2, rfl⟩, ?_⟩
            rintro k σ H3 ⟨f, rfl, hf, kf, k1, k2, rfl⟩
            refine ⟨_, rfl, _, rfl, _, _, rfl, rfl, by omega, rfl, _, rfl, iteB (c := decide (k % p = 0)) (by show decide (V.int _ = V.int 0) = _; rw [fmodN]; exact dec_n0 _) (fun ck => ?_) (fun ck => ?_)⟩
            · have ck := of_decide_eq_false ck
              have e : stp f k p = k := by
                cases f with
                | zero => rfl
                | succ f =>
                  unfold stp
                  rw [if_neg ck]
              rw [← hf, e] at hp hd
              exact ⟨k, acc ++ [p], rfl, by rw [List.append_assoc]; exact hp, hd, k1, k2, by rw [List.length_append]; exact Nat.succ_le_succ al, e2, s2⟩
            · have ck := of_decide_eq_true ck
              have kp := Nat.le_of_dvd k1 (Nat.dvd_of_mod_eq_zero ck)
              have kq : 1 ≤ k / p := Nat.div_pos kp (by omega)
              have kl : k / p < k := Nat.div_lt_self k1 p2
              refine ⟨fun σ' H' => ∃ f, σ' = [some (.int ((k / p : Nat) : Int)), some (.ref D), some (.int (p : Int))] ∧ stp f (k / p) p = stp n n p ∧ k / p ≤ f ∧ 1 ≤ k / p ∧ k / p ≤ 360 ∧ H' = H3, fun σ' H' z => ⟨k / p, kl, z⟩, ?_⟩
              refine ⟨_, rfl, _, rfl, _, _, rfl, rfl, ⟨by omega, by omega⟩, f - 1, ?_, ?_, by omega, kq, by omega, rfl⟩
              · show [some (V.int (((k : Nat) : Int) / ((p : Nat) : Int))), _, _] = _
                rw [← Int.natCast_ediv]
              · cases f with
                | zero => omega
                | succ f =>
                  rw [← hf]
                  show stp f (k / p) p = _
                  conv => rhs; unfold stp
                  rw [if_pos ck]
        · rintro σ H2 ⟨n', acc', rfl, q1, q2, q3, q4, q5, q6, q7⟩
          refine ⟨_, rfl, _, _, rfl, rfl, n', p + 1, acc', ?_, q1, q2, q3, q4, by omega, by omega, q5, q6, q7⟩
          rfl

end
end K13

set_option Elab.async false
set_option linter.all false
set_option maxRecDepth 100000
set_option maxHeartbeats 4000000
set_option pp.maxSteps 3000
set_option exponentiation.threshold 500000
namespace K13
open PySem PySem.Spec PyProof.Rows L2 Dr Xv LamX Ps Gn Gp
section
variable {P : Program} {w : World} {K : PySem.W.Frag} {mg : Str → Option Value} {base : Heap}
theorem within_lev {x : V} (h : within x 1 360 = true) : ∃ N : Nat, x = .int (N : Int) ∧ 1 ≤ N ∧ N ≤ 360 := by
  cases x with
  | int i =>
    unfold within at h
    rw [Bool.and_eq_true, decide_eq_true_eq, decide_eq_true_eq] at h
    exact ⟨i.toNat, by rw [Int.toNat_of_nonneg (by omega)], by omega, by omega⟩
  | _ => cases h
theorem lpr_b {N p : Nat} (h : p ∈ lpr N) : 2 ≤ p ∧ p ≤ N := by
  unfold lpr at h
  have h := (List.mem_filter.mp h).1
  unfold smp at h
  obtain ⟨j, hj, rfl⟩ := List.mem_map.mp (List.mem_filter.mp h).1
  have := List.mem_range.mp hj
  omega
theorem dvs_b {N d : Nat} (h : d ∈ dvs N) : 1 ≤ d ∧ d ≤ N := by
  unfold dvs at h
  obtain ⟨j, hj, rfl⟩ := List.mem_map.mp (List.mem_filter.mp h).1
  have := List.mem_range.mp hj
  omega
theorem dvs_len (N : Nat) : (dvs N).length ≤ N := by
  have := fil_le (fun d => decide (N % d = 0)) ((List.range N).map (· + 1))
  rw [List.length_map, List.length_range] at this
  exact this
theorem lpr_len (N : Nat) : (lpr N).length ≤ N := by
  unfold lpr smp
  refine Nat.le_trans (fil_le _ _) (Nat.le_trans (fil_le _ _) ?_)
  rw [List.length_map, List.length_range]
  omega
def ixS (ix p : Nat) : Nat := ix / p * (p + 1)
def sp_index_of (cL : Addr) : Sp := fun vs H Q E => ∃ x : V, vs = [x] ∧ PV H x ∧ (within x 1 360 = false → E (.ref cL) none H) ∧ (∀ N : Nat, x = .int (N : Int) → 1 ≤ N → N ≤ 360 → ∀ H', Same H H' → Q (.int (Gp.ixN N : Int)) H')
theorem ok_index_of (M : Mod P w K mg base) : FnOk P w K mg base (L2.CX P w) 4 M.f_index_of M.d_index_of ["level"] (sp_index_of M.a_BadLevel) := by
  refine M.F_index_of.ok sc_index_of (fun vs H Q E h => ?_) (fun cdv A outer s H vs Q E hr h => ?_)
  · obtain ⟨x, rfl, _⟩ := h
    rfl
  · obtain ⟨x, rfl, hx, q1, q2⟩ := h
    refine ⟨_, (pss_cons (ps_expr (pe_call (ok_check_level M) (hr.mono (by decide)) rfl M.g_check_level M.k_check_level M.b_check_level .nil (passes_call (takes_of rfl rfl rfl rfl) (fun _ _ _ _ h => h)) (pa_cons (pv 0) pa_nil)))
      (PSs.nox 
      (pss_cons (ps_set (i := 1) sc_index_of.nd rfl (Or.inl rfl) (pv 0))
      (pss_cons (ps_for PassesOwn.never rfl (pi_list (pe_call (ok_primes_of M) (hr.mono (by decide)) rfl M.g_primes_of M.k_primes_of M.b_primes_of .nil pass0 (pa_cons (pv 0) pa_nil))) (pg_name (i := 2) sc_index_of.nd rfl (Or.inl rfl)) 
        (pss_one (ps_set (i := 1) sc_index_of.nd rfl (Or.inl rfl) (pe_op op_mul (pe_op op_fdivB (pv 1) (pv 2)) (pe_op op_add (pv 2) pe_int)))))
      (pss_one (ps_ret (pv 1))))))), ?_⟩
    refine ⟨_, rfl, x, rfl, hx, fun hw => ?_, q1⟩
    obtain ⟨N, rfl, n1, n2⟩ := within_lev hw
    have q := q2 N rfl n1 n2
    refine ⟨_, rfl, _, rfl, tn <| ⟨N, rfl, n1, n2, fun p H1 hp s1 e1 => ?_⟩⟩
    refine ⟨p, rfl, ⟨_, SqL.of e1⟩, for_list (K := K) (a := p) (xs := nV (lpr N)) (fun i σ H' => ∃ x2, σ = [some (.int (N : Int)), some (.int (((lpr N).take i).foldl ixS N : Nat)), x2] ∧ H' = H1) ⟨_, rfl, rfl⟩ (fun i σ H' _ ⟨_, _, z⟩ => by rw [z]; exact SqL.of e1) ?_ ?_⟩
    · rintro i x σ H2 hx ⟨x2, rfl, rfl⟩
      obtain ⟨d, hd, rfl⟩ := nV_at hx
      obtain ⟨d1, d2⟩ := lpr_b (List.mem_of_getElem? hd)
      refine ⟨_, rfl, _, rfl, _, _, rfl, rfl, ⟨by omega, log_small (by omega)⟩, _, rfl, _, _, rfl, rfl, _, _, rfl, rfl, .inr ⟨by omega, by omega⟩, some (.int (d : Int)), ?_, rfl⟩
      rw [take_nx hd, List.foldl_append]
      show [_, some (V.int (((_ : Nat) : Int).fdiv (d : Int) * ((d : Int) + 1))), _] = _
      rw [fdivN]
      rfl
    · rintro σ H2 ⟨x2, rfl, rfl⟩
      refine ⟨_, rfl, ?_⟩
      have e : ((lpr N).take (nV (lpr N)).length).foldl ixS N = Gp.ixN N := by
        rw [nV_len, List.take_length]
        unfold Gp.ixN
        rw [(show prs 400 N 2 = lpr N from (pr_ok ⟨N, by omega⟩ n1).2)]
        rfl
      show Q (V.int (((lpr N).take (nV (lpr N)).length).foldl ixS N : Nat)) H2
      rw [e]
      exact q H2 s1
def sp_elliptic (cL : Addr) : Sp := fun vs H Q E => ∃ x : V, vs = [x] ∧ PV H x ∧ (within x 1 360 = false → E (.ref cL) none H) ∧ (∀ N : Nat, x = .int (N : Int) → 1 ≤ N → N ≤ 360 → ∀ (p : Addr) (H' : Hp), H p = none → Same H H' → H' p = some (.tup [.int (sqN N : Int), .int (cbN N : Int)]) → Q (.ref p) H')
theorem ok_elliptic (M : Mod P w K mg base) : FnOk P w K mg base (L2.CX P w) 4 M.f_elliptic M.d_elliptic ["level"] (sp_elliptic M.a_BadLevel) := by
  refine M.F_elliptic.ok sc_elliptic (fun vs H Q E h => ?_) (fun cdv A outer s H vs Q E hr h => ?_)
  · obtain ⟨x, rfl, _⟩ := h
    rfl
  · obtain ⟨x, rfl, hx, q1, q2⟩ := h
    refine ⟨_, (pss_cons (ps_expr (pe_call (ok_check_level M) (hr.mono (by decide)) rfl M.g_check_level M.k_check_level M.b_check_level .nil (passes_call (takes_of rfl rfl rfl rfl) (fun _ _ _ _ h => h)) (pa_cons (pv 0) pa_nil)))
      (PSs.nox 
      (pss_cons (ps_set (i := 1) sc_elliptic.nd rfl (Or.inl rfl) (pe_callB call_len (by rfl) M.len0 PySem.boot_len (pa_cons (pe_lc (own := [("x", 3)]) (g := (gName 3)) (by rfl) sc_elliptic.nd (pi_range1 (by rfl) M.range0 (pa_cons (pv 0) pa_nil)) (blkOk_by (own := [("x", 3)]) (N := N_elliptic) (sc := defScope s_elliptic) (by decide +kernel))
        (fun _ _ _ _ _ => (pg_name (i := 3) sc_elliptic.nd rfl (Or.inl rfl))) (fun _ _ _ _ _ => (pts_one (pt_cmpR op_eq (pe_op op_modN (pe_op op_add (pe_op op_mul (pv 3) (pv 3)) pe_int) (pv 0)) pe_int (nomark _)))) (fun _ _ _ _ _ => (pv 3))) pa_nil)))
      (pss_cons (ps_set (i := 2) sc_elliptic.nd rfl (Or.inl rfl) (pe_callB call_len (by rfl) M.len0 PySem.boot_len (pa_cons (pe_lc (own := [("x", 3)]) (g := (gName 3)) (by rfl) sc_elliptic.nd (pi_range1 (by rfl) M.range0 (pa_cons (pv 0) pa_nil)) (blkOk_by (own := [("x", 3)]) (N := N_elliptic) (sc := defScope s_elliptic) (by decide +kernel))
        (fun _ _ _ _ _ => (pg_name (i := 3) sc_elliptic.nd rfl (Or.inl rfl))) (fun _ _ _ _ _ => (pts_one (pt_cmpR op_eq (pe_op op_modN (pe_op op_add (pe_op op_add (pe_op op_mul (pv 3) (pv 3)) (pv 3)) pe_int) (pv 0)) pe_int (nomark _)))) (fun _ _ _ _ _ => (pv 3))) pa_nil)))
      (pss_one (ps_ret (pe_tup (pa_cons (pv 1) (pa_cons (pv 2) pa_nil))))))))), ?_⟩
    refine ⟨_, rfl, x, rfl, hx, fun hw => ?_, q1⟩
    obtain ⟨N, rfl, n1, n2⟩ := within_lev hw
    have q := q2 N rfl n1 n2
    have one : ∀ a : Nat, decide (V.int (((a : Int) * (a : Int) + 1).fmod (N : Int)) = V.int 0) = decide ((a * a + 1) % N = 0) := fun a => by
      rw [show ((a : Int) * (a : Int) + 1) = ((a * a + 1 : Nat) : Int) by rw [Int.natCast_add, Int.natCast_mul]; rfl, fmodN]
      exact dec_n0 _
    have two : ∀ a : Nat, decide (V.int (((a : Int) * (a : Int) + (a : Int) + 1).fmod (N : Int)) = V.int 0) = decide ((a * a + a + 1) % N = 0) := fun a => by
      rw [show ((a : Int) * (a : Int) + (a : Int) + 1) = ((a * a + a + 1 : Nat) : Int) by rw [Int.natCast_add, Int.natCast_add, Int.natCast_mul]; rfl, fmodN]
      exact dec_n0 _
    have zer : (fun x => 0 + x) = (fun x : Nat => x) := funext fun x => Nat.zero_add x
    refine ⟨_, rfl, _, rfl, by omega, by omega, fun D hD => lc_fil 0 N (fun x => decide ((x * x + 1) % N = 0)) (fun u => .int (u : Int)) (by omega) hD ?_ ?_⟩
    · intro i H1 A B hi s1 hA hB
      exact ⟨rfl, _, rfl, _, rfl, _, _, rfl, rfl, .inl ⟨by omega, by omega⟩, _, _, rfl, rfl, _, rfl, _, _, rfl, rfl, by omega, rfl, _, rfl, iteB (one _) (fun c => hA _ same_rfl c) fun c => ⟨_, rfl, hB _ same_rfl c⟩⟩
    · intro H1 s1 h1
      have e1 : ((((List.range N).map (0 + ·)).filter fun x => decide ((x * x + 1) % N = 0)).map fun u : Nat => V.int (u : Int)).length = sqN N := by
        rw [List.length_map]
        unfold sqN
        rw [zer, List.map_id']
      refine tn <| ⟨_, _, rfl, .inl ⟨_, SqL.of h1, rfl⟩, ?_⟩
      rw [e1]
      refine ⟨_, rfl, _, rfl, by omega, by omega, fun D2 hD2 => lc_fil 0 N (fun x => decide ((x * x + x + 1) % N = 0)) (fun u => .int (u : Int)) (by omega) hD2 ?_ ?_⟩
      · intro i H2 A B hi s2 hA hB
        exact ⟨rfl, _, rfl, _, rfl, _, _, rfl, rfl, .inl ⟨by omega, by omega⟩, _, rfl, _, _, rfl, rfl, _, _, rfl, rfl, _, rfl, _, _, rfl, rfl, by omega, rfl, _, rfl, iteB (two _) (fun c => hA _ same_rfl c) fun c => ⟨_, rfl, hB _ same_rfl c⟩⟩
      · intro H2 s2 h2
        have e2 : ((((List.range N).map (0 + ·)).filter fun x => decide ((x * x + x + 1) % N = 0)).map fun u : Nat => V.int (u : Int)).length = cbN N := by
          rw [List.length_map]
          unfold cbN
          rw [zer, List.map_id']
        refine tn <| ⟨_, _, rfl, .inl ⟨_, SqL.of h2, rfl⟩, ?_⟩
        rw [e2]
        have s12 := s1.trans s2
        exact ⟨_, rfl, _, rfl, (by show 2 ≤ sizeLine; decide), fun t ht => q t _ (s12.free ht) (s12.trans (same_new ht)) upd_same⟩
def sp_cusp_count (cL : Addr) : Sp := fun vs H Q E => ∃ x : V, vs = [x] ∧ PV H x ∧ (within x 1 360 = false → E (.ref cL) none H) ∧ (∀ N : Nat, x = .int (N : Int) → 1 ≤ N → N ≤ 360 → ∀ H', Same H H' → Q (.int (cuN N : Int)) H')
theorem ok_cusp_count (M : Mod P w K mg base) : FnOk P w K mg base (L2.CX P w) 4 M.f_cusp_count M.d_cusp_count ["level"] (sp_cusp_count M.a_BadLevel) := by
  refine M.F_cusp_count.ok sc_cusp_count (fun vs H Q E h => ?_) (fun cdv A outer s H vs Q E hr h => ?_)
  · obtain ⟨x, rfl, _⟩ := h
    rfl
  · obtain ⟨x, rfl, hx, q1, q2⟩ := h
    refine ⟨_, (pss_cons (ps_expr (pe_call (ok_check_level M) (hr.mono (by decide)) rfl M.g_check_level M.k_check_level M.b_check_level .nil (passes_call (takes_of rfl rfl rfl rfl) (fun _ _ _ _ h => h)) (pa_cons (pv 0) pa_nil)))
      (PSs.nox 
      (pss_one (ps_ret (pe_callB (cr_sum rfl) (by rfl) M.sum0 (by decide +kernel) (pa_cons (pe_lc (own := [("c", 1)]) (g := (gName 1)) (by rfl) sc_cusp_count.nd (pi_list (pe_call (ok_divisors_of M) (hr.mono (by decide)) rfl M.g_divisors_of M.k_divisors_of M.b_divisors_of .nil pass0 (pa_cons (pv 0) pa_nil))) (blkOk_by (own := [("c", 1)]) (N := N_cusp_count) (sc := defScope s_cusp_count) (by decide +kernel))
        (fun _ _ _ _ _ => (pg_name (i := 1) sc_cusp_count.nd rfl (Or.inl rfl))) (fun _ _ _ _ _ => pts_nil) (fun _ _ _ _ _ => (pe_call (ok_phi M) (hr.mono (by decide)) rfl M.g_phi M.k_phi M.b_phi .nil pass0 (pa_cons (pe_callBfun cr_gcd rfl M.i_gcd (pa_cons (pv 1) (pa_cons (pe_op op_fdivB (pv 0) (pv 1)) pa_nil))) pa_nil)))) pa_nil)))))), ?_⟩
    refine ⟨_, rfl, x, rfl, hx, fun hw => ?_, q1⟩
    obtain ⟨N, rfl, n1, n2⟩ := within_lev hw
    have q := q2 N rfl n1 n2
    refine ⟨_, rfl, tn <| ⟨N, rfl, n1, n2, fun p H1 hp s1 e1 => ⟨p, rfl, ⟨_, SqL.of e1⟩, fun D hD => lc_filL (fun _ => true) (fun c => .int (phN (Nat.gcd c (N / c)) : Nat)) (by have := dvs_len N; omega) hD e1 ?_ ?_⟩⟩⟩
    · intro i c H2 A B hc s2 hA hB
      obtain ⟨c1, c2⟩ := dvs_b (List.mem_of_getElem? hc)
      refine ⟨rfl, yesT ⟨_, rfl, _, rfl, _, rfl, _, _, rfl, rfl, ⟨by omega, log_small (by omega)⟩, tn <| ⟨_, _, rfl, tn <| ⟨Nat.gcd c (N / c), ?_, ?_, fun H3 s3 => hB H3 s3 rfl⟩⟩⟩⟩
      · rw [fdivN, Int.natAbs_natCast, Int.natAbs_natCast]
        rfl
      · exact Nat.le_trans (Nat.le_of_dvd c1 (Nat.gcd_dvd_left _ _)) (by omega)
    · intro H2 s2 h2
      have ef : (dvs N).filter (fun _ => true) = dvs N := List.filter_eq_self.mpr fun _ _ => rfl
      rw [ef] at h2
      have es : ((dvs N).map fun c => ((phN (Nat.gcd c (N / c)) : Nat) : Int)).sum = (cuN N : Int) := by
        unfold cuN
        induction dvs N with
        | nil => rfl
        | cons a l ih =>
          rw [List.map_cons, List.map_cons, List.sum_cons, List.sum_cons, ih, Int.natCast_add]
      refine tn <| ⟨D, (dvs N).map fun c => ((phN (Nat.gcd c (N / c)) : Nat) : Int), rfl, SqL.of (by rw [h2, List.map_map]; rfl), ?_⟩
      rw [es]
      exact q H2 (s1.trans s2)
def gnN (N : Nat) : Int := g12 N / 12
def sp_genus_of (cL : Addr) : Sp := fun vs H Q E => ∃ x : V, vs = [x] ∧ PV H x ∧ (within x 1 360 = false → E (.ref cL) none H) ∧ (∀ N : Nat, x = .int (N : Int) → 1 ≤ N → N ≤ 360 → ∀ H', Same H H' → Q (.int (gnN N)) H')
theorem ok_genus_of (M : Mod P w K mg base) : FnOk P w K mg base (L2.CX P w) 5 M.f_genus_of M.d_genus_of ["level"] (sp_genus_of M.a_BadLevel) := by
  refine M.F_genus_of.ok sc_genus_of (fun vs H Q E h => ?_) (fun cdv A outer s H vs Q E hr h => ?_)
  · obtain ⟨x, rfl, _⟩ := h
    rfl
  · obtain ⟨x, rfl, hx, q1, q2⟩ := h
    refine ⟨_, (pss_cons (ps_asg (pe_call (ok_elliptic M) (hr.mono (by decide)) rfl M.g_elliptic M.k_elliptic M.b_elliptic .nil (passes_call (takes_of rfl rfl rfl rfl) (fun _ _ _ _ h => h)) (pa_cons (pv 0) pa_nil)) (pg_tup rfl (pgs_cons (pg_name (i := 1) sc_genus_of.nd rfl (Or.inl rfl)) (pgs_cons (pg_name (i := 2) sc_genus_of.nd rfl (Or.inl rfl)) pgs_nil))))
      (pss_one (ps_ret (pe_op op_fdiv (pe_op op_sub (pe_op op_sub (pe_op op_sub (pe_op op_add pe_int (pe_call (ok_index_of M) (hr.mono (by decide)) rfl M.g_index_of M.k_index_of M.b_index_of .nil (passes_call (takes_of rfl rfl rfl rfl) (fun _ _ _ _ h => h)) (pa_cons (pv 0) pa_nil))) (pe_op op_mul pe_int (pv 1))) (pe_op op_mul pe_int (pv 2))) (pe_op op_mul pe_int (pe_call (ok_cusp_count M) (hr.mono (by decide)) rfl M.g_cusp_count M.k_cusp_count M.b_cusp_count .nil (passes_call (takes_of rfl rfl rfl rfl) (fun _ _ _ _ h => h)) (pa_cons (pv 0) pa_nil)))) pe_int)))), ?_⟩
    refine ⟨_, rfl, x, rfl, hx, q1, ?_⟩
    rintro N rfl n1 n2 p H1 hp s1 e1
    have q := q2 N rfl n1 n2
    have wl : within (.int (N : Int)) 1 360 = false → False := fun z => by
      have w : within (.int (N : Int)) 1 360 = true := by
        show (decide ((1 : Int) ≤ (N : Int)) && decide ((N : Int) ≤ 360)) = true
        rw [decide_eq_true (by omega), decide_eq_true (by omega)]
        rfl
      exact nomatch w.symm.trans z
    refine ⟨p, _, rfl, SqT.of e1, rfl, _, _, rfl, _, _, rfl, rfl, ?_⟩
    refine ⟨_, rfl, tn <| ⟨_, rfl, .int _, fun z => (wl z).elim, fun N' eN _ _ H2 s2 => ?_⟩⟩
    obtain rfl : N = N' := by
      injection eN with eN
      omega
    refine ⟨_, _, rfl, rfl, _, rfl, _, _, rfl, rfl, .inl ⟨by decide, by decide⟩, _, _, rfl, rfl, _, rfl, _, _, rfl, rfl, .inl ⟨by decide, by decide⟩, _, _, rfl, rfl, _, rfl, tn <| ⟨_, rfl, .int _, fun z => (wl z).elim, fun N' eN _ _ H3 s3 => ?_⟩⟩
    obtain rfl : N = N' := by
      injection eN with eN
      omega
    exact ⟨_, _, rfl, rfl, .inl ⟨by decide, by decide⟩, _, _, rfl, rfl, _, _, rfl, rfl, ⟨by decide, by decide⟩, q H3 (s1.trans (s2.trans s3))⟩
def rkN (N : Nat) : Int := (sqN N : Int) + (cbN N : Int) + 2 * gnN N + (cuN N : Int) - 1
def sp_rank_of (cL : Addr) : Sp := fun vs H Q E => ∃ x : V, vs = [x] ∧ PV H x ∧ (within x 1 360 = false → E (.ref cL) none H) ∧ (∀ N : Nat, x = .int (N : Int) → 1 ≤ N → N ≤ 360 → ∀ H', Same H H' → Q (.int (rkN N)) H')
theorem ok_rank_of (M : Mod P w K mg base) : FnOk P w K mg base (L2.CX P w) 6 M.f_rank_of M.d_rank_of ["level"] (sp_rank_of M.a_BadLevel) := by
  refine M.F_rank_of.ok sc_rank_of (fun vs H Q E h => ?_) (fun cdv A outer s H vs Q E hr h => ?_)
  · obtain ⟨x, rfl, _⟩ := h
    rfl
  · obtain ⟨x, rfl, hx, q1, q2⟩ := h
    refine ⟨_, (pss_cons (ps_asg (pe_call (ok_elliptic M) (hr.mono (by decide)) rfl M.g_elliptic M.k_elliptic M.b_elliptic .nil (passes_call (takes_of rfl rfl rfl rfl) (fun _ _ _ _ h => h)) (pa_cons (pv 0) pa_nil)) (pg_tup rfl (pgs_cons (pg_name (i := 1) sc_rank_of.nd rfl (Or.inl rfl)) (pgs_cons (pg_name (i := 2) sc_rank_of.nd rfl (Or.inl rfl)) pgs_nil))))
      (pss_one (ps_ret (pe_op op_sub (pe_op op_add (pe_op op_add (pe_op op_add (pv 1) (pv 2)) (pe_op op_mul pe_int (pe_call (ok_genus_of M) (hr.mono (by decide)) rfl M.g_genus_of M.k_genus_of M.b_genus_of .nil (passes_call (takes_of rfl rfl rfl rfl) (fun _ _ _ _ h => h)) (pa_cons (pv 0) pa_nil)))) (pe_call (ok_cusp_count M) (hr.mono (by decide)) rfl M.g_cusp_count M.k_cusp_count M.b_cusp_count .nil (passes_call (takes_of rfl rfl rfl rfl) (fun _ _ _ _ h => h)) (pa_cons (pv 0) pa_nil))) pe_int)))), ?_⟩
    refine ⟨_, rfl, x, rfl, hx, q1, ?_⟩
    rintro N rfl n1 n2 p H1 hp s1 e1
    have q := q2 N rfl n1 n2
    have wl : within (.int (N : Int)) 1 360 = false → False := fun z => by
      have w : within (.int (N : Int)) 1 360 = true := by
        show (decide ((1 : Int) ≤ (N : Int)) && decide ((N : Int) ≤ 360)) = true
        rw [decide_eq_true (by omega), decide_eq_true (by omega)]
        rfl
      exact nomatch w.symm.trans z
    refine ⟨p, _, rfl, SqT.of e1, rfl, _, _, rfl, _, _, rfl, rfl, ?_⟩
    refine ⟨_, rfl, _, rfl, _, _, rfl, rfl, _, rfl, tn <| ⟨_, rfl, .int _, fun z => (wl z).elim, fun N' eN _ _ H2 s2 => ?_⟩⟩
    obtain rfl : N = N' := by
      injection eN with eN
      omega
    refine ⟨_, _, rfl, rfl, .inl ⟨by decide, by decide⟩, _, _, rfl, rfl, _, rfl, tn <| ⟨_, rfl, .int _, fun z => (wl z).elim, fun N' eN _ _ H3 s3 => ?_⟩⟩
    obtain rfl : N = N' := by
      injection eN with eN
      omega
    exact ⟨_, _, rfl, rfl, _, _, rfl, rfl, q H3 (s1.trans (s2.trans s3))⟩

end
end K13

set_option Elab.async false
set_option linter.all false
set_option maxRecDepth 100000
set_option maxHeartbeats 4000000
set_option pp.maxSteps 3000
set_option exponentiation.threshold 500000
namespace K13
open PySem PySem.Spec PyProof.Rows L2 Dr Xv LamX Ps Gn Gp
section
variable {P : Program} {w : World} {K : PySem.W.Frag} {mg : Str → Option Value} {base : Heap}
theorem ints_isN (ns : List Int) : PyData.eqv (.list (intsD ns)) (.list (intsD [])) = decide (ns = []) := by
  have z := Fm.ints_ne ns
  cases e : PyData.eqv (.list (intsD ns)) (.list (intsD [])) <;> rw [e] at z <;> by_cases c : ns = [] <;> simp_all
theorem eq_nil {K : PySem.W.Frag} {H : Hp} {a b : Addr} {xs : List Int} {Q : VK} (ha : SqL K H a (xs.map V.int)) (hb : SqL K H b ([] : List V)) (q : Q (.bl (decide (xs = []))) H) : rEqD K (.ref a) (.ref b) H Q := by
  refine ⟨.list (intsD xs), .list (intsD []), .lst ha (ints_dp _), .lst (xs := List.map V.int []) hb (ints_dp _), ints_shaped _, ints_shaped _, ?_⟩
  rw [ints_isN]
  exact q
theorem ne_nil {K : PySem.W.Frag} {H : Hp} {a b : Addr} {xs : List Int} {Q : VK} (ha : SqL K H a (xs.map V.int)) (hb : SqL K H b ([] : List V)) (q : Q (.bl (decide (xs ≠ []))) H) : rNeD K (.ref a) (.ref b) H Q := by
  refine ⟨.list (intsD xs), .list (intsD []), .lst ha (ints_dp _), .lst (xs := List.map V.int []) hb (ints_dp _), ints_shaped _, ints_shaped _, ?_⟩
  rw [Fm.ints_ne]
  exact q
def sp__law_gcd : Sp := fun vs H Q _ => ∃ a b : Int, vs = [.int a, .int b] ∧ Q (.int ((Int.gcd a b : Nat) : Int)) H
theorem ok__law_gcd (M : Mod P w K mg base) : FnOk P w K mg base CX0 1 M.f__law_gcd M.d__law_gcd ["one", "other"] sp__law_gcd := by
  refine M.F__law_gcd.ok sc__law_gcd (fun vs H Q E h => ?_) (fun cdv A outer s H vs Q E hr h => ?_)
  · obtain ⟨a, b, rfl, _⟩ := h
    rfl
  · obtain ⟨a, b, rfl, q⟩ := h
    refine ⟨_, PSs.nox (pss_cons (ps_par (i := 2) (j := 3) (by rfl) sc__law_gcd.nd rfl rfl (by decide) rfl rfl (pa_cons (pe_callB call_abs (by rfl) M.abs0 boot_abs (pa_cons (pv 0) pa_nil)) (pa_cons (pe_callB call_abs (by rfl) M.abs0 boot_abs (pa_cons (pv 1) pa_nil)) pa_nil)) (by rfl))
      (pss_cons (ps_while PassesOwn.never (pt_cmpR op_ne (pv 3) pe_int (nomark _)) 
        (pss_one (ps_par (i := 2) (j := 3) (by rfl) sc__law_gcd.nd rfl rfl (by decide) rfl rfl (pa_cons (pv 3) (pa_cons (pe_op op_modN (pe_callTy call_int1 (by rfl) M.int0 boot_int (pa_cons (pv 2) pa_nil)) (pv 3)) pa_nil)) (by rfl))))
      (pss_one (ps_ret (pv 2))))), ?_⟩
    have eabs : ∀ z : Int, (if z < 0 then -z else z) = ((z.natAbs : Nat) : Int) := fun z => by
      split <;> omega
    refine ⟨_, rfl, _, rfl, _, rfl, _, rfl, tn <| ⟨_, _, rfl, ?_⟩⟩
    rw [eabs, eabs]
    refine ⟨fun m σ' H' => ∃ x : Nat, σ' = [some (.int a), some (.int b), some (.int (x : Int)), some (.int (m : Int))] ∧ Nat.gcd x m = Int.gcd a b ∧ H' = H, ⟨b.natAbs, a.natAbs, rfl, rfl, rfl⟩, ?_⟩
    rintro m σ H1 ⟨x, rfl, hg, rfl⟩
    refine ⟨_, rfl, rfl, _, rfl, ?_⟩
    by_cases c : m = 0
    · subst c
      refine iteF' (by simp) ?_
      rw [Nat.gcd_zero_right] at hg
      refine ⟨_, rfl, ?_⟩
      rw [hg]
      exact q
    · refine iteT' (by
        rw [Bool.not_eq_true', decide_eq_false_iff_not]
        exact fun z => c (by injection z with z; omega)) ?_
      refine ⟨fun σ' H' => σ' = [some (.int a), some (.int b), some (.int (m : Int)), some (.int ((x % m : Nat) : Int))] ∧ H' = H1, ?_, ?_⟩
      · rintro σ' H' ⟨rfl, rfl⟩
        exact ⟨x % m, Nat.mod_lt _ (by omega), m, rfl, by rw [← hg, Nat.gcd_comm m, ← Nat.gcd_rec, Nat.gcd_comm], rfl⟩
      · refine ⟨_, rfl, _, rfl, .inl ⟨_, rfl, _, rfl, _, _, rfl, rfl, by omega, tn <| ⟨_, _, rfl, ?_, rfl⟩⟩⟩
        show [_, _, some (V.int (m : Int)), some (V.int (((x : Int)).fmod (m : Int)))] = _
        rw [fmodN]
def sp__law_units : Sp := fun vs H Q _ => ∃ N : Nat, vs = [.int (N : Int)] ∧ N ≤ 360 ∧ ∀ (p : Addr) (H' : Hp), H p = none → Same H H' → H' p = some (.lst (nV (unt N))) → Q (.ref p) H'
theorem ok__law_units (M : Mod P w K mg base) : FnOk P w K mg base CX0 2 M.f__law_units M.d__law_units ["level"] sp__law_units := by
  refine M.F__law_units.ok sc__law_units (fun vs H Q E h => ?_) (fun cdv A outer s H vs Q E hr h => ?_)
  · obtain ⟨N, rfl, _⟩ := h
    rfl
  · obtain ⟨N, rfl, n2, q⟩ := h
    refine ⟨_, PSs.nox (pss_one (ps_ret (pe_lc (own := [("u", 1)]) (g := (gName 1)) (by rfl) sc__law_units.nd (pi_range1 (by rfl) M.range0 (pa_cons (pv 0) pa_nil)) (blkOk_by (own := [("u", 1)]) (N := N__law_units) (sc := defScope s__law_units) (by decide +kernel))
        (fun _ _ _ _ _ => (pg_name (i := 1) sc__law_units.nd rfl (Or.inl rfl))) (fun _ _ _ _ _ => (pts_one (pt_cmpR op_eq (pe_call (ok__law_gcd M) (hr.mono (by decide)) rfl M.g__law_gcd M.k__law_gcd M.b__law_gcd .nil pass0 (pa_cons (pv 1) (pa_cons (pv 0) pa_nil))) pe_int (nomark _)))) (fun _ _ _ _ _ => (pv 1))))), ?_⟩
    have zer : (fun x => 0 + x) = (fun x : Nat => x) := funext fun x => Nat.zero_add x
    refine ⟨_, rfl, _, rfl, by omega, by omega, fun D hD => lc_fil 0 N (fun u => decide (Nat.gcd u N = 1)) (fun u => .int (u : Int)) (by omega) hD ?_ ?_⟩
    · intro i H1 A B hi s1 hA hB
      exact ⟨rfl, _, rfl, _, rfl, tn <| ⟨_, _, rfl, rfl, _, rfl, iteB (by
        show decide (V.int ((Nat.gcd (0 + i) N : Nat) : Int) = V.int 1) = _
        exact dec_n1 _) (fun c => hA _ same_rfl c) fun c => ⟨_, rfl, hB _ same_rfl c⟩⟩⟩
    · intro H1 s1 h1
      refine q D H1 hD s1 ?_
      rw [h1, zer, List.map_id']
      rfl
def sp__law_primes : Sp := fun vs H Q _ => ∃ N : Nat, vs = [.int (N : Int)] ∧ 1 ≤ N ∧ N ≤ 360 ∧ ∀ (p : Addr) (H' : Hp), H p = none → Same H H' → H' p = some (.lst (nV (lpr N))) → Q (.ref p) H'
theorem ok__law_primes (M : Mod P w K mg base) : FnOk P w K mg base CX0 1 M.f__law_primes M.d__law_primes ["number"] sp__law_primes := by
  refine M.F__law_primes.ok sc__law_primes (fun vs H Q E h => ?_) (fun cdv A outer s H vs Q E hr h => ?_)
  · obtain ⟨N, rfl, _⟩ := h
    rfl
  · obtain ⟨N, rfl, n1, n2, q⟩ := h
    refine ⟨_, PSs.nox (pss_cons (ps_set (i := 1) sc__law_primes.nd rfl (Or.inr rfl) (pe_lc (own := [("p", 2)]) (g := (gName 2)) (by rfl) sc__law_primes.nd (pi_range2 (by rfl) M.range0 (pa_cons pe_int (pa_cons (pe_op op_add (pv 0) pe_int) pa_nil))) (blkOk_by (own := [("p", 2)]) (N := N__law_primes) (sc := defScope s__law_primes) (by decide +kernel))
        (fun _ _ _ _ _ => (pg_name (i := 2) sc__law_primes.nd rfl (Or.inl rfl))) (fun _ _ _ _ _ => (pts_one (pt_cmpR op_eq (pe_op op_modN (pe_callTy call_int1 (by rfl) M.int0 boot_int (pa_cons (pv 0) pa_nil)) (pv 2)) pe_int (nomark _)))) (fun _ _ _ _ _ => (pv 2))))
      (pss_one (ps_ret (pe_lc (own := [("p", 2)]) (g := (gName 2)) (by rfl) sc__law_primes.nd (pi_list (pv 1)) (blkOk_by (own := [("p", 2)]) (N := N__law_primes) (sc := defScope s__law_primes) (by decide +kernel))
        (fun _ _ _ _ _ => (pg_name (i := 2) sc__law_primes.nd rfl (Or.inr rfl))) (fun _ _ _ _ _ => (pts_one (pt_cmpR (r := rEqD K) (op_eqD hr.units) (pe_lc (wi := iList K (tVar 1)) (own := [("q", 3)]) (g := (gName 3)) (by rfl) sc__law_primes.nd (pi_list (pv 1)) (blkOk_by (own := [("q", 3)]) (N := N__law_primes) (by kernel_rfl))
        (fun _ _ _ _ _ => (pg_name (i := 3) sc__law_primes.nd rfl (Or.inl rfl))) (fun _ _ _ _ _ => (pts_one (PW.pt (pw_and (pt_cmpR op_lt (pv 3) (pv 2) (nomark _)) (pw_and1 (pt_cmpR op_eq (pe_op op_modN (pe_callTy call_int1 (by rfl) M.int0 boot_int (pa_cons (pv 2) pa_nil)) (pv 3)) pe_int (nomark _))))))) (fun _ _ _ _ _ => pe_int)) (pe_lst pa_nil) (nomark _)))) (fun _ _ _ _ _ => (pv 2)))))), ?_⟩
    refine ⟨_, rfl, _, _, rfl, rfl, _, _, rfl, ⟨by decide, by decide, by omega, by omega⟩, fun D hD => lc_fil 2 ((N : Int) + 1 - 2).toNat (fun p => decide (N % p = 0)) (fun u => .int (u : Int)) (by omega) hD ?_ ?_⟩
    · intro i H1 A B hi s1 hA hB
      exact ⟨rfl, _, rfl, .inl ⟨_, rfl, _, rfl, _, _, rfl, rfl, by omega, rfl, _, rfl, iteB (by
        show decide (V.int (((N : Nat) : Int).fmod ((2 + i : Nat) : Int)) = V.int 0) = _
        rw [fmodN]
        exact dec_n0 _) (fun c => hA _ same_rfl c) fun c => ⟨_, rfl, hB _ same_rfl c⟩⟩⟩
    · intro H1 s1 h1
      have e1 : ((((List.range ((N : Int) + 1 - 2).toNat).map (2 + ·)).filter fun p => decide (N % p = 0)).map fun u : Nat => V.int (u : Int)) = nV (smp N) := by
        unfold smp nV
        rw [show ((N : Int) + 1 - 2).toNat = N - 1 by omega, show (fun x => 2 + x) = (fun x : Nat => x + 2) from funext fun x => Nat.add_comm 2 x]
      rw [e1] at h1
      have lS : (smp N).length ≤ 360 := by
        unfold smp
        refine Nat.le_trans (fil_le _ _) ?_
        rw [List.length_map, List.length_range]
        omega
      have bS : ∀ p ∈ smp N, 2 ≤ p ∧ p ≤ 360 := fun p hp => by
        unfold smp at hp
        obtain ⟨j, hj, rfl⟩ := List.mem_map.mp (List.mem_filter.mp hp).1
        have := List.mem_range.mp hj
        omega
      refine ⟨_, rfl, D, rfl, ⟨_, SqL.of h1⟩, fun D2 hD2 => lc_filL (fun p => ((smp N).filter fun q => decide (q < p) && decide (p % q = 0)).isEmpty) (fun u => .int (u : Int)) (by omega) hD2 h1 ?_ ?_⟩
      · intro i p H2 A B hp s2 hA hB
        have hpb := bS p (List.mem_of_getElem? hp)
        refine ⟨rfl, _, rfl, D, rfl, ⟨_, SqL.of (s2 _ _ h1)⟩, fun D3 hD3 => lc_filL (fun q => decide (q < p) && decide (p % q = 0)) (fun _ => .int 1) (by omega) hD3 (s2 _ _ h1) ?_ ?_⟩
        · intro j q' H3 A' B' hq s3 hA' hB'
          have hqb := bS q' (List.mem_of_getElem? hq)
          refine ⟨rfl, _, rfl, _, rfl, _, _, rfl, rfl, _, rfl, ?_⟩
          by_cases c : q' < p
          · refine iteT' (decide_eq_true (by omega)) ⟨_, rfl, .inl ⟨_, rfl, _, rfl, _, _, rfl, rfl, by omega, rfl, _, rfl, iteB (c := decide (p % q' = 0)) (by
              show decide (V.int (((p : Nat) : Int).fmod ((q' : Nat) : Int)) = V.int 0) = _
              rw [fmodN]
              exact dec_n0 _) (fun c2 => hA' _ same_rfl (by rw [c2, Bool.and_false])) fun c2 => hB' _ same_rfl (by rw [c2, decide_eq_true c]; rfl)⟩⟩
          · exact iteF' (decide_eq_false (by omega)) (hA' _ same_rfl (by rw [decide_eq_false c]; rfl))
        · intro H3 s3 h3
          refine ⟨(by show 0 ≤ sizeLine; decide), fun z hz => ?_⟩
          have s4 := same_new (o := .lst []) hz
          obtain ⟨F, eF⟩ : ∃ F, F = (smp N).filter fun q => decide (q < p) && decide (p % q = 0) := ⟨_, rfl⟩
          rw [← eF] at h3 hA hB
          have h4 : (upd H3 z (.lst [])) D3 = some (.lst ((F.map fun _ => (1 : Int)).map V.int)) := by
            rw [s4 _ _ h3, List.map_map]
            rfl
          refine eq_nil (SqL.of h4) (SqL.of upd_same) ⟨_, rfl, ?_⟩
          refine iteB (c := F.isEmpty) (by cases F <;> rfl) (fun c => hA _ ((s3.trans s4)) c) fun c => ⟨_, rfl, hB _ (s3.trans s4) c⟩
      · intro H2 s2 h2
        exact q D2 H2 (s1.free hD2) (s1.trans s2) h2
def sp__law_index : Sp := fun vs H Q _ => ∃ N : Nat, vs = [.int (N : Int)] ∧ 1 ≤ N ∧ N ≤ 360 ∧ ∀ H' : Hp, Same H H' → Q (.int (Gp.ixN N : Int)) H'
theorem ok__law_index (M : Mod P w K mg base) : FnOk P w K mg base CX0 2 M.f__law_index M.d__law_index ["level"] sp__law_index := by
  refine M.F__law_index.ok sc__law_index (fun vs H Q E h => ?_) (fun cdv A outer s H vs Q E hr h => ?_)
  · obtain ⟨N, rfl, _⟩ := h
    rfl
  · obtain ⟨N, rfl, n1, n2, q⟩ := h
    refine ⟨_, PSs.nox (pss_cons (ps_set (i := 1) sc__law_index.nd rfl (Or.inl rfl) (pv 0))
      (pss_cons (ps_for PassesOwn.never rfl (pi_list (pe_call (ok__law_primes M) (hr.mono (by decide)) rfl M.g__law_primes M.k__law_primes M.b__law_primes .nil pass0 (pa_cons (pv 0) pa_nil))) (pg_name (i := 2) sc__law_index.nd rfl (Or.inl rfl)) 
        (pss_one (ps_set (i := 1) sc__law_index.nd rfl (Or.inl rfl) (pe_op op_mul (pe_op op_fdivB (pv 1) (pv 2)) (pe_op op_add (pv 2) pe_int)))))
      (pss_one (ps_ret (pv 1))))), ?_⟩
    refine ⟨_, rfl, _, rfl, tn <| ⟨N, rfl, n1, n2, fun p H1 hp s1 e1 => ?_⟩⟩
    refine ⟨p, rfl, ⟨_, SqL.of e1⟩, for_list (K := K) (a := p) (xs := nV (lpr N)) (fun i σ H' => ∃ x2, σ = [some (.int (N : Int)), some (.int (((lpr N).take i).foldl ixS N : Nat)), x2] ∧ H' = H1) ⟨_, rfl, rfl⟩ (fun i σ H' _ ⟨_, _, z⟩ => by rw [z]; exact SqL.of e1) ?_ ?_⟩
    · rintro i x σ H2 hx ⟨x2, rfl, rfl⟩
      obtain ⟨d, hd, rfl⟩ := nV_at hx
      obtain ⟨d1, d2⟩ := lpr_b (List.mem_of_getElem? hd)
      refine ⟨_, rfl, _, rfl, _, _, rfl, rfl, ⟨by omega, log_small (by omega)⟩, _, rfl, _, _, rfl, rfl, _, _, rfl, rfl, .inr ⟨by omega, by omega⟩, some (.int (d : Int)), ?_, rfl⟩
      rw [take_nx hd, List.foldl_append]
      show [_, some (V.int (((_ : Nat) : Int).fdiv (d : Int) * ((d : Int) + 1))), _] = _
      rw [fdivN]
      rfl
    · rintro σ H2 ⟨x2, rfl, rfl⟩
      refine ⟨_, rfl, ?_⟩
      have e : ((lpr N).take (nV (lpr N)).length).foldl ixS N = Gp.ixN N := by
        rw [nV_len, List.take_length]
        unfold Gp.ixN
        rw [(show prs 400 N 2 = lpr N from (pr_ok ⟨N, by omega⟩ n1).2)]
        rfl
      show Q (V.int (((lpr N).take (nV (lpr N)).length).foldl ixS N : Nat)) H2
      rw [e]
      exact q H2 s1
def sp__law_divisors : Sp := fun vs H Q _ => ∃ N : Nat, vs = [.int (N : Int)] ∧ N ≤ 360 ∧ ∀ (p : Addr) (H' : Hp), H p = none → Same H H' → H' p = some (.lst (nV (dvs N))) → Q (.ref p) H'
theorem ok__law_divisors (M : Mod P w K mg base) : FnOk P w K mg base CX0 1 M.f__law_divisors M.d__law_divisors ["number"] sp__law_divisors := by
  refine M.F__law_divisors.ok sc__law_divisors (fun vs H Q E h => ?_) (fun cdv A outer s H vs Q E hr h => ?_)
  · obtain ⟨N, rfl, _⟩ := h
    rfl
  · obtain ⟨N, rfl, n2, q⟩ := h
    refine ⟨_, PSs.nox (pss_one (ps_ret (pe_lc (own := [("d", 1)]) (g := (gName 1)) (by rfl) sc__law_divisors.nd (pi_range2 (by rfl) M.range0 (pa_cons pe_int (pa_cons (pe_op op_add (pv 0) pe_int) pa_nil))) (blkOk_by (own := [("d", 1)]) (N := N__law_divisors) (sc := defScope s__law_divisors) (by decide +kernel))
        (fun _ _ _ _ _ => (pg_name (i := 1) sc__law_divisors.nd rfl (Or.inl rfl))) (fun _ _ _ _ _ => (pts_one (pt_cmpR op_eq (pe_op op_modN (pe_callTy call_int1 (by rfl) M.int0 boot_int (pa_cons (pv 0) pa_nil)) (pv 1)) pe_int (nomark _)))) (fun _ _ _ _ _ => (pv 1))))), ?_⟩
    refine ⟨_, rfl, _, _, rfl, rfl, _, _, rfl, ⟨by decide, by decide, by omega, by omega⟩, fun D hD => lc_fil 1 ((N : Int) + 1 - 1).toNat (fun p => decide (N % p = 0)) (fun u => .int (u : Int)) (by omega) hD ?_ ?_⟩
    · intro i H1 A B hi s1 hA hB
      exact ⟨rfl, _, rfl, .inl ⟨_, rfl, _, rfl, _, _, rfl, rfl, by omega, rfl, _, rfl, iteB (by
        show decide (V.int (((N : Nat) : Int).fmod ((1 + i : Nat) : Int)) = V.int 0) = _
        rw [fmodN]
        exact dec_n0 _) (fun c => hA _ same_rfl c) fun c => ⟨_, rfl, hB _ same_rfl c⟩⟩⟩
    · intro H1 s1 h1
      refine q D H1 hD s1 ?_
      rw [h1]
      unfold dvs nV
      rw [show ((N : Int) + 1 - 1).toNat = N by omega, show (fun x => 1 + x) = (fun x : Nat => x + 1) from funext fun x => Nat.add_comm 1 x]
def sp__law_held : Sp := fun vs H Q _ => ∃ N p : Nat, vs = [.int (N : Int), .int (p : Int)] ∧ 1 ≤ N ∧ N ≤ 360 ∧ 2 ≤ p ∧ p ≤ 360 ∧ Q (.int (held N N p : Int)) H
theorem ok__law_held (M : Mod P w K mg base) : FnOk P w K mg base CX0 1 M.f__law_held M.d__law_held ["level", "prime"] sp__law_held := by
  refine M.F__law_held.ok sc__law_held (fun vs H Q E h => ?_) (fun cdv A outer s H vs Q E hr h => ?_)
  · obtain ⟨N, p, rfl, _⟩ := h
    rfl
  · obtain ⟨N, p, rfl, n1, n2, p1, p2, q⟩ := h
    refine ⟨_, PSs.nox (pss_cons (ps_par (i := 2) (j := 3) (by rfl) sc__law_held.nd rfl rfl (by decide) rfl rfl (pa_cons pe_int (pa_cons (pv 0) pa_nil)) (by rfl))
      (pss_cons (ps_while PassesOwn.never (pt_cmpR op_eq (pe_op op_modN (pe_callTy call_int1 (by rfl) M.int0 boot_int (pa_cons (pv 3) pa_nil)) (pv 1)) pe_int (nomark _)) 
        (pss_one (ps_par (i := 2) (j := 3) (by rfl) sc__law_held.nd rfl rfl (by decide) rfl rfl (pa_cons (pe_op op_add (pv 2) pe_int) (pa_cons (pe_op op_fdivB (pv 3) (pv 1)) pa_nil)) (by rfl))))
      (pss_one (ps_ret (pv 2))))), ?_⟩
    refine ⟨_, rfl, tn <| ⟨_, _, rfl, ?_⟩⟩
    refine ⟨fun m σ' H' => ∃ (f k : Nat), σ' = [some (.int (N : Int)), some (.int (p : Int)), some (.int (k : Int)), some (.int (m : Int))] ∧ k + held f m p = held N N p ∧ 1 ≤ m ∧ m ≤ f ∧ m ≤ 360 ∧ H' = H, ⟨N, N, 0, rfl, Nat.zero_add _, n1, Nat.le_refl _, n2, rfl⟩, ?_⟩
    rintro m σ H1 ⟨f, k, rfl, hk, m1, mf, m2, rfl⟩
    refine ⟨_, rfl, .inl ⟨_, rfl, _, rfl, _, _, rfl, rfl, by omega, rfl, _, rfl, iteB (c := decide (m % p = 0)) (by
      show decide (V.int (((m : Nat) : Int).fmod ((p : Nat) : Int)) = V.int 0) = _
      rw [fmodN]
      exact dec_n0 _) (fun c => ?_) (fun c => ?_)⟩⟩
    · have c := of_decide_eq_false c
      have e : held f m p = 0 := by
        cases f with
        | zero => rfl
        | succ f =>
          unfold held
          rw [if_neg c]
      rw [e, Nat.add_zero] at hk
      refine ⟨_, rfl, ?_⟩
      rw [hk]
      exact q
    · have c := of_decide_eq_true c
      have kp := Nat.le_of_dvd m1 (Nat.dvd_of_mod_eq_zero c)
      have kq : 1 ≤ m / p := Nat.div_pos kp (by omega)
      have kl : m / p < m := Nat.div_lt_self m1 p1
      cases f with
      | zero => omega
      | succ f =>
        have eh : held (f + 1) m p = held f (m / p) p + 1 := by
          show (if m % p = 0 then _ else 0) = _
          rw [if_pos c]
        rw [eh] at hk
        refine ⟨fun σ' H' => ∃ (f k : Nat), σ' = [some (.int (N : Int)), some (.int (p : Int)), some (.int (k : Int)), some (.int ((m / p : Nat) : Int))] ∧ k + held f (m / p) p = held N N p ∧ 1 ≤ m / p ∧ m / p ≤ f ∧ m / p ≤ 360 ∧ H' = H1, fun σ' H' z => ⟨m / p, kl, z⟩, ?_⟩
        refine ⟨_, rfl, _, _, rfl, rfl, _, rfl, _, rfl, _, _, rfl, rfl, ⟨by omega, log_small (by omega)⟩, tn <| ⟨_, _, rfl, f, k + 1, ?_, by omega, kq, by omega, by omega, rfl⟩⟩
        show [_, _, some (V.int ((k : Int) + 1)), some (V.int (((m : Nat) : Int).fdiv ((p : Nat) : Int)))] = _
        rw [fdivN]
        rfl
def sp__law_power : Sp := fun vs H Q _ => ∃ p k : Nat, vs = [.int (p : Int), .int (k : Int)] ∧ p ≤ 360 ∧ k ≤ 360 ∧ Q (.int ((p ^ k : Nat) : Int)) H
theorem ok__law_power (M : Mod P w K mg base) : FnOk P w K mg base CX0 1 M.f__law_power M.d__law_power ["base", "many"] sp__law_power := by
  refine M.F__law_power.ok sc__law_power (fun vs H Q E h => ?_) (fun cdv A outer s H vs Q E hr h => ?_)
  · obtain ⟨p, k, rfl, _⟩ := h
    rfl
  · obtain ⟨p, k, rfl, p2, k2, q⟩ := h
    refine ⟨_, PSs.nox (pss_cons (ps_set (i := 2) sc__law_power.nd rfl (Or.inl rfl) pe_int)
      (pss_cons (ps_for PassesOwn.never rfl (pi_range1 (by rfl) M.range0 (pa_cons (pv 1) pa_nil)) (pg_name (i := 3) sc__law_power.nd rfl (Or.inl rfl)) 
        (pss_one (ps_set (i := 2) sc__law_power.nd rfl (Or.inl rfl) (pe_op op_mul (pv 2) (pv 0)))))
      (pss_one (ps_ret (pv 2))))), ?_⟩
    refine ⟨_, rfl, _, rfl, by omega, by omega, ?_⟩
    refine for_range (lo := 0) (n := k) (fun i σ H' => ∃ x3, σ = [some (.int (p : Int)), some (.int (k : Int)), some (.int ((p ^ i : Nat) : Int)), x3] ∧ H' = H) ⟨_, rfl, rfl⟩ ?_ ?_
    · rintro i σ H1 hi ⟨x3, rfl, rfl⟩
      refine ⟨_, rfl, _, rfl, _, _, rfl, rfl, .inr ⟨by omega, by omega⟩, some (.int (0 + (i : Int))), ?_, rfl⟩
      show [_, _, some (V.int (((p ^ i : Nat) : Int) * (p : Int))), _] = _
      rw [← Int.natCast_mul, ← Nat.pow_succ]
    · rintro σ H1 ⟨x3, rfl, rfl⟩
      exact ⟨_, rfl, q⟩

end
end K13

set_option Elab.async false
set_option linter.all false
set_option maxRecDepth 100000
set_option maxHeartbeats 4000000
set_option pp.maxSteps 3000
set_option exponentiation.threshold 500000
namespace K13
open PySem PySem.Spec PyProof.Rows L2 Dr Xv LamX Ps Gn Gp
section
variable {P : Program} {w : World} {K : PySem.W.Frag} {mg : Str → Option Value} {base : Heap}
def sp__law_level : Sp := fun vs H Q _ => ∃ (d l c : Addr) (mo : Nat), vs = [.ref d, .int (mo : Int)] ∧ Draw H d l c ∧ 1 ≤ mo ∧ mo ≤ 360 ∧ ∀ (N : Nat) (H' : Hp), 1 ≤ N → N ≤ mo → Draw H' d l c → SameX d l H H' → Q (.int (N : Int)) H'
def levs : List Nat := [1, 2, 3, 4, 5, 6, 7, 8, 9, 10, 11, 12, 14, 16, 18, 20, 24, 25, 27, 30, 36, 42, 48, 49, 50, 54, 60]
def levs2 : List Nat := [72, 90, 97, 98, 120, 144, 169, 180, 210, 240, 288, 300, 343, 360]
theorem ok__law_level (M : Mod P w K mg base) : FnOk P w K mg base CX0 4 M.f__law_level M.d__law_level ["draw", "most"] sp__law_level := by
  refine M.F__law_level.ok sc__law_level (fun vs H Q E h => ?_) (fun cdv A outer s H vs Q E hr h => ?_)
  · obtain ⟨d, l, c, mo, rfl, _⟩ := h
    rfl
  · obtain ⟨d, l, c, mo, rfl, D0, m1, m2, q⟩ := h
    refine ⟨_, PSs.nox (pss_cons (ps_set (i := 2) sc__law_level.nd rfl (Or.inl rfl) (pe_lst (pa_cons pe_int (pa_cons pe_int (pa_cons pe_int (pa_cons pe_int (pa_cons pe_int (pa_cons pe_int (pa_cons pe_int (pa_cons pe_int (pa_cons pe_int (pa_cons pe_int (pa_cons pe_int (pa_cons pe_int (pa_cons pe_int (pa_cons pe_int (pa_cons pe_int (pa_cons pe_int (pa_cons pe_int (pa_cons pe_int (pa_cons pe_int (pa_cons pe_int (pa_cons pe_int (pa_cons pe_int (pa_cons pe_int (pa_cons pe_int (pa_cons pe_int (pa_cons pe_int (pa_cons pe_int pa_nil)))))))))))))))))))))))))))))
      (pss_cons (ps_set (i := 2) sc__law_level.nd rfl (Or.inl rfl) (pe_op op_cat (pv 2) (pe_lst (pa_cons pe_int (pa_cons pe_int (pa_cons pe_int (pa_cons pe_int (pa_cons pe_int (pa_cons pe_int (pa_cons pe_int (pa_cons pe_int (pa_cons pe_int (pa_cons pe_int (pa_cons pe_int (pa_cons pe_int (pa_cons pe_int (pa_cons pe_int pa_nil)))))))))))))))))
      (pss_one (ps_ret (pe_call (ok__law_pick M) (hr.mono (by decide)) rfl M.g__law_pick M.k__law_pick M.b__law_pick .nil pass0 (pa_cons (pv 0) (pa_cons (pe_op op_cat (pe_lc (own := [("level", 3)]) (g := (gName 3)) (by rfl) sc__law_level.nd (pi_list (pv 2)) (blkOk_by (own := [("level", 3)]) (N := N__law_level) (sc := defScope s__law_level) (by decide +kernel))
        (fun _ _ _ _ _ => (pg_name (i := 3) sc__law_level.nd rfl (Or.inl rfl))) (fun _ _ _ _ _ => (pts_one (pt_cmpR op_le (pv 3) (pv 1) (nomark _)))) (fun _ _ _ _ _ => (pv 3))) (pe_lst (pa_cons (pe_op op_add pe_int (pe_call (ok__law_take M) (hr.mono (by decide)) rfl M.g__law_take M.k__law_take M.b__law_take .nil pass0 (pa_cons (pv 0) (pa_cons (pv 1) pa_nil)))) pa_nil))) pa_nil))))))), ?_⟩
    refine ⟨(by show 27 ≤ sizeLine; decide), fun p1 h1 => ?_⟩
    refine (show ∀ H1, Same H H1 → H1 p1 = some (.lst (nV levs)) → (fun x H1 => gName 2 x _ H1 _) (V.ref p1) H1 from fun H1 s1 e1 => ?_) _ (same_new h1) upd_same
    refine ⟨_, rfl, (by show 14 ≤ sizeLine; decide), fun p2 h2 => ?_⟩
    refine (show ∀ H2, Same H1 H2 → H2 p2 = some (.lst (nV levs2)) → (fun y H2 => rCat (V.ref p1) y H2 _) (V.ref p2) H2 from fun H2 s2 e2 => ?_) _ (same_new h2) upd_same
    refine ⟨p1, p2, _, _, rfl, rfl, s2 _ _ e1, e2, (by rw [nV_len, nV_len]; show 27 + 14 ≤ sizeLine; decide), fun p3 h3 => ?_⟩
    have s3 : Same H (upd H2 p3 (.lst (nV levs ++ nV levs2))) := (s1.trans s2).trans (same_new h3)
    have e3 : (upd H2 p3 (.lst (nV levs ++ nV levs2))) p3 = some (.lst (nV (levs ++ levs2))) := by
      rw [upd_same]
      unfold nV
      rw [List.map_append]
    generalize upd H2 p3 (.lst (nV levs ++ nV levs2)) = H3 at s3 e3 ⊢
    have D3 := D0.same s3
    refine ⟨_, rfl, _, rfl, p3, rfl, ⟨_, SqL.of e3⟩, fun D hD => lc_filL (fun d => decide (d ≤ mo)) (fun d => .int (d : Int)) (by decide) hD e3 ?_ ?_⟩
    · intro i d' H4 A B hd s4 hA hB
      exact ⟨rfl, _, rfl, _, rfl, _, _, rfl, rfl, _, rfl, iteB (decide_eq_decide.mpr (by omega)) (fun c => hA _ same_rfl c) fun c => ⟨_, rfl, hB _ same_rfl c⟩⟩
    · intro H4 s4 h4
      have D4 := D3.same s4
      obtain ⟨n1, n2, n3⟩ := D3.ne hD
      refine ⟨_, rfl, _, rfl, tn <| ⟨d, l, c, mo, rfl, D4, by omega, log_small (by omega), fun v H5 v0 v1 D5 s5 => ⟨_, _, rfl, rfl, (by show 1 ≤ sizeLine; decide), fun p5 h5 => ?_⟩⟩⟩
      have e5 := s5 _ _ h4 n1 n2
      refine ⟨D, p5, _, _, rfl, rfl, (same_new (o := .lst [.int (1 + v)]) h5) _ _ e5, upd_same, ?_, fun p6 h6 => ?_⟩
      · have := fil_le (fun d => decide (d ≤ mo)) (levs ++ levs2)
        have l41 : (levs ++ levs2).length = 41 := by decide
        rw [List.length_map]
        show _ + 1 ≤ sizeLine
        rw [sizeLine_eq]
        omega
      · have s56 := (same_new (o := .lst [.int (1 + v)]) h5).trans (same_new (o := .lst (((levs ++ levs2).filter fun d => decide (d ≤ mo)).map (fun d : Nat => V.int (d : Int)) ++ [.int (1 + v)])) h6)
        have D6 := D5.same s56
        obtain ⟨m1', m2', _⟩ := (D5.same (same_new (o := .lst [.int (1 + v)]) h5)).ne h6
        refine tn <| ⟨d, l, c, p6, _, rfl, D6, (fun H' s' => SqL.of (s' _ _ upd_same m1' m2')), (by simp), ?_, fun w H7 hw D7 s7 => ?_⟩
        · have := fil_le (fun d => decide (d ≤ mo)) (levs ++ levs2)
          have l41 : (levs ++ levs2).length = 41 := by decide
          rw [List.length_append, List.length_map]
          show _ + 1 ≤ 1000
          omega
        · have sx : SameX d l H H7 := (SameX.of (s3.trans s4)).trans (s5.trans ((SameX.of s56).trans s7))
          rcases List.mem_append.mp hw with hw | hw
          · obtain ⟨N, hN, rfl⟩ := List.mem_map.mp hw
            obtain ⟨hN1, hN2⟩ := List.mem_filter.mp hN
            have pos : ∀ x ∈ levs ++ levs2, 1 ≤ x := by decide
            exact q N H7 (pos N hN1) (of_decide_eq_true hN2) D7 sx
          · obtain rfl := List.mem_singleton.mp hw
            have := q (1 + v).toNat H7 (by omega) (by omega) D7 sx
            rw [Int.toNat_of_nonneg (by omega)] at this
            exact this
def sp__law_bad_level : Sp := fun vs H Q _ => ∃ (d l c : Addr), vs = [.ref d] ∧ Draw H d l c ∧ ∀ (v : V) (H' : Hp), PV H' v → within v 1 360 = false → Draw H' d l c → SameX d l H H' → Q v H'
theorem ok__law_bad_level (M : Mod P w K mg base) : FnOk P w K mg base CX0 4 M.f__law_bad_level M.d__law_bad_level ["draw"] sp__law_bad_level := by
  refine M.F__law_bad_level.ok sc__law_bad_level (fun vs H Q E h => ?_) (fun cdv A outer s H vs Q E hr h => ?_)
  · obtain ⟨d, l, c, rfl, _⟩ := h
    rfl
  · obtain ⟨d, l, c, rfl, D0, q⟩ := h
    refine ⟨_, PSs.nox (pss_one (ps_ret (pe_call (ok__law_pick M) (hr.mono (by decide)) rfl M.g__law_pick M.k__law_pick M.b__law_pick .nil pass0 (pa_cons (pv 0) (pa_cons (pe_lst (pa_cons pe_non (pa_cons pe_int (pa_cons (pe_un un_neg pe_int) (pa_cons pe_int (pa_cons (pe_op op_pow pe_int pe_int) (pa_cons pe_bl (pa_cons pe_str (pa_cons (pe_tup (pa_cons pe_int pa_nil)) (pa_cons (pe_lst pa_nil) pa_nil)))))))))) pa_nil))))), ?_⟩
    refine ⟨_, rfl, 1, rfl, _, _, rfl, rfl, ⟨by decide, by decide, by decide⟩, (by show 1 ≤ sizeLine; decide), fun a1 h1 => ⟨(by show 0 ≤ sizeLine; decide), fun a2 h2 => ⟨(by show 9 ≤ sizeLine; decide), fun z hz => ?_⟩⟩⟩
    refine (show ∀ H3, Same H H3 → H3 a1 = some (.tup [.int 6]) → H3 a2 = some (.lst []) → H3 z = some (.lst [.non, .int 0, .int (-1), .int 361, .int 1000000000, .bl true, .str "6", .ref a1, .ref a2]) → (fun x H1 => tNil _ H1 _) (V.ref z) H3 from fun H3 s3 e1 e2 e3 => ?_) _ (((same_new h1).trans (same_new h2)).trans (same_new hz)) ((same_new hz) _ _ ((same_new h2) _ _ upd_same)) ((same_new hz) _ _ upd_same) upd_same
    have D3 := D0.same s3
    obtain ⟨n1, n2, n3⟩ := (D0.same ((same_new (o := .tup [.int 6]) h1).trans (same_new (o := .lst []) h2))).ne hz
    obtain ⟨m1, m2, m3⟩ := D0.ne h1
    obtain ⟨k1, k2, k3⟩ := (D0.same (same_new (o := .tup [.int 6]) h1)).ne h2
    refine tn <| ⟨d, l, c, z, _, rfl, D3, (fun H' s' => SqL.of (s' _ _ e3 n1 n2)), (by simp), (by show 9 ≤ 1000; decide), fun v H4 hv D4 s4 => ?_⟩
    have sx : SameX d l H H4 := (SameX.of s3).trans s4
    simp only [List.mem_cons, List.not_mem_nil, or_false] at hv
    rcases hv with rfl | rfl | rfl | rfl | rfl | rfl | rfl | rfl | rfl
    · exact q _ H4 .non rfl D4 sx
    · exact q _ H4 (.int _) rfl D4 sx
    · exact q _ H4 (.int _) rfl D4 sx
    · exact q _ H4 (.int _) rfl D4 sx
    · exact q _ H4 (.int _) rfl D4 sx
    · exact q _ H4 (.bl _) rfl D4 sx
    · exact q _ H4 (.str _) rfl D4 sx
    · exact q _ H4 (.tup (s4 _ _ e1 m1 m2)) rfl D4 sx
    · exact q _ H4 (.lst (s4 _ _ e2 k1 k2)) rfl D4 sx
def sp__law_point : Sp := fun vs H Q _ => ∃ (N : Nat) (c d : Int), vs = [.int (N : Int), .int c, .int d] ∧ 1 ≤ N ∧ N ≤ 60 ∧ c.natAbs ≤ 2 ^ 40 ∧ d.natAbs ≤ 2 ^ 40 ∧ ∀ (p : Addr) (H' : Hp), H p = none → Same H H' → H' p = some (.tup (PT N (ptC N (c % (N : Int)).toNat (d % (N : Int)).toNat))) → Q (.ref p) H'
theorem ok__law_point (M : Mod P w K mg base) : FnOk P w K mg base CX0 3 M.f__law_point M.d__law_point ["level", "c", "d"] sp__law_point := by
  refine M.F__law_point.ok sc__law_point (fun vs H Q E h => ?_) (fun cdv A outer s H vs Q E hr h => ?_)
  · obtain ⟨N, c, d, rfl, _⟩ := h
    rfl
  · obtain ⟨N, c, d, rfl, n1, n2, cb, db, q⟩ := h
    refine ⟨_, PSs.nox (pss_one (ps_ret (pe_callB (cr_minP rfl (hu65 hr)) (by rfl) M.min0 (by decide +kernel) (pa_cons (pe_lc (own := [("u", 3)]) (g := (gName 3)) (by rfl) sc__law_point.nd (pi_list (pe_call (ok__law_units M) (hr.mono (by decide)) rfl M.g__law_units M.k__law_units M.b__law_units .nil pass0 (pa_cons (pv 0) pa_nil))) (blkOk_by (own := [("u", 3)]) (N := N__law_point) (sc := defScope s__law_point) (by decide +kernel))
        (fun _ _ _ _ _ => (pg_name (i := 3) sc__law_point.nd rfl (Or.inl rfl))) (fun _ _ _ _ _ => pts_nil) (fun _ _ _ _ _ => (pe_tup (pa_cons (pe_op op_modN (pe_callTy call_int1 (by rfl) M.int0 boot_int (pa_cons (pe_op op_mul (pv 3) (pv 1)) pa_nil)) (pv 0)) (pa_cons (pe_op op_modN (pe_callTy call_int1 (by rfl) M.int0 boot_int (pa_cons (pe_op op_mul (pv 3) (pv 2)) pa_nil)) (pv 0)) pa_nil))))) pa_nil)))), ?_⟩
    obtain ⟨cc, ecc⟩ : ∃ cc, cc = (c % (N : Int)).toNat := ⟨_, rfl⟩
    obtain ⟨dd, edd⟩ : ∃ dd, dd = (d % (N : Int)).toNat := ⟨_, rfl⟩
    rw [← ecc, ← edd] at q
    have fm : ∀ (u : Nat) (x : Int), ((u : Int) * x).fmod (N : Int) = ((u * (x % (N : Int)).toNat % N : Nat) : Int) := fun u x => by
      rw [Int.fmod_eq_emod_of_nonneg _ (by omega), Int.natCast_emod, Int.natCast_mul, Int.toNat_of_nonneg (Int.emod_nonneg _ (by omega)), Int.mul_emod (u : Int) x, Int.mul_emod (u : Int) (x % (N : Int)), Int.emod_emod]
    have dcd : ∀ x y : Nat, y < N → dec N (x * N + y) = ((x : Int), (y : Int)) := fun x y hy => by
      unfold dec
      have h1 : (x * N + y) / N = x := by
        rw [Nat.mul_comm, Nat.mul_add_div (by omega), Nat.div_eq_of_lt hy, Nat.add_zero]
      have h2 : (x * N + y) % N = y := by
        rw [Nat.mul_comm, Nat.mul_add_mod, Nat.mod_eq_of_lt hy]
      rw [h1, h2]
    refine ⟨_, rfl, tn <| ⟨N, rfl, by omega, fun p H1 hp s1 e1 => ⟨p, rfl, ⟨_, SqL.of e1⟩, fun D hD => ?_⟩⟩⟩
    refine lc_list (K := K) (a := p) (xs := nV (unt N)) (fun i H' => ∃ ts : List Addr, H' D = some (.lst (ts.map V.ref)) ∧ Paired (fun t z => H' t = some (.tup [.int z.1, .int z.2]) ∧ H t = none) ts (((unt N).take i).map fun u => dec N (u * cc % N * N + u * dd % N)) ∧ Same H1 H') ⟨[], upd_same, .nil, same_new hD⟩ (fun i H' _ ⟨_, _, _, s⟩ => SqL.of (s _ _ e1)) ?_ ?_
    · rintro i x H2 hx ⟨ts, h2, hp2, s2⟩
      obtain ⟨u, hu', rfl⟩ := nV_at hx
      have ub : u < N := by
        have := List.mem_of_getElem? hu'
        unfold unt at this
        exact List.mem_range.mp (List.mem_filter.mp this).1
      have il := (List.getElem?_eq_some_iff.mp hu').1
      have ul : (unt N).length ≤ N := by
        have := fil_le (fun u => decide (Nat.gcd u N = 1)) (List.range N)
        rw [List.length_range] at this
        exact this
      have tl := paired_len hp2
      rw [List.length_map, List.length_take] at tl
      refine ⟨rfl, yesT ⟨_, rfl, _, rfl, _, _, rfl, rfl, .inl ⟨by omega, by omega⟩, tn <| .inl ⟨_, rfl, _, rfl, _, _, rfl, rfl, by omega, _, rfl, _, rfl, _, _, rfl, rfl, .inl ⟨by omega, by omega⟩, tn <| .inl ⟨_, rfl, _, rfl, _, _, rfl, rfl, by omega, tn <| ⟨(by show 2 ≤ sizeLine; decide), fun T hT => ?_⟩⟩⟩⟩⟩
      dsimp only
      rw [fm, fm, ← ecc, ← edd]
      have sT := same_new (o := .tup [.int ((u * cc % N : Nat) : Int), .int ((u * dd % N : Nat) : Int)]) hT
      have nT : D ≠ T := ne_of_none h2 hT
      refine ⟨_, sT _ _ h2, by rw [List.length_map, sizeLine_eq]; omega, ts ++ [T], ?_, ?_, fun b o ob => ?_⟩
      · rw [upd_same, List.map_append]
        rfl
      · rw [take_nx hu', List.map_append]
        refine paired_app (paired_mono hp2 fun t z e => ⟨?_, e.2⟩) ⟨?_, (s1.trans s2).free hT⟩
        · rw [upd_ne (ne_of e.1 h2 (fun z => by cases z))]
          exact sT _ _ e.1
        · dsimp only
          rw [upd_ne nT.symm, dcd _ _ (Nat.mod_lt _ (by omega))]
          exact upd_same
      · rw [upd_ne (ne_of_none ob hD)]
        exact sT _ _ (s2 _ _ ob)
    · rintro H2 ⟨ts, h2, hp2, s2⟩
      rw [nV_len, List.take_length] at hp2
      have ne : unt N ≠ [] := by
        have : ∀ n : Fin 61, 1 ≤ (n : Nat) → unt n ≠ [] := by decide +kernel
        exact this ⟨N, by omega⟩ n1
      obtain ⟨u0, us, eu⟩ : ∃ u0 us, unt N = u0 :: us := by
        cases h : unt N with
        | nil => exact absurd h ne
        | cons a l => exact ⟨a, l, rfl⟩
      rw [eu, List.map_cons] at hp2
      have hp3 := paired_mono hp2 fun t z e => SqT.of (K := K) e.1
      refine tn <| ⟨D, ts, _, _, rfl, SqL.of h2, hp3, fun i t hi e => ?_⟩
      have em : PySem.W.minOf (dec N (u0 * cc % N * N + u0 * dd % N)) (us.map fun u => dec N (u * cc % N * N + u * dd % N)) = dec N (ptC N cc dd) := by
        have := min_dec N (us.map fun u => u * cc % N * N + u * dd % N) (u0 * cc % N * N + u0 * dd % N)
        rw [List.map_map] at this
        refine this.trans ?_
        unfold ptC
        rw [eu, List.map_cons]
      rw [em] at e
      obtain ⟨z, hz, ez, ft⟩ := paired_at hp2 hi
      rw [hz] at e
      cases Option.some.inj e
      exact q t H2 ft (s1.trans s2) ez
def sp__law_points : Sp := fun vs H Q _ => ∃ N : Nat, vs = [.int (N : Int)] ∧ 1 ≤ N ∧ N ≤ 60 ∧ ∀ (p : Addr) (H' : Hp), H p = none → Same H H' → PtsAt N H' p ((pts N).map (cod N)) → Q (.ref p) H'
theorem ok__law_points (M : Mod P w K mg base) : FnOk P w K mg base CX0 3 M.f__law_points M.d__law_points ["level"] sp__law_points := by
  refine M.F__law_points.ok sc__law_points (fun vs H Q E h => ?_) (fun cdv A outer s H vs Q E hr h => ?_)
  · obtain ⟨N, rfl, _⟩ := h
    rfl
  · obtain ⟨N, rfl, n1, n2, q⟩ := h
    refine ⟨_, PSs.nox (pss_cons (ps_par (i := 1) (j := 2) (by rfl) sc__law_points.nd rfl rfl (by decide) rfl rfl (pa_cons (pe_lst pa_nil) (pa_cons (pe_call (ok__law_units M) (hr.mono (by decide)) rfl M.g__law_units M.k__law_units M.b__law_units .nil pass0 (pa_cons (pv 0) pa_nil)) pa_nil)) (by rfl))
      (pss_cons (ps_for PassesOwn.never rfl (pi_list (pe_op op_cat (pe_lst (pa_cons pe_int pa_nil)) (pe_slice sl_list (pe_call (ok__law_divisors M) (hr.mono (by decide)) rfl M.g__law_divisors M.k__law_divisors M.b__law_divisors .nil pass0 (pa_cons (pv 0) pa_nil)) po_none (po_some (pe_un un_neg pe_int))))) (pg_name (i := 3) sc__law_points.nd rfl (Or.inr rfl)) 
        (pss_cons (ps_setLc (i := 4) (own := [("u", 6)]) (g := (gName 6)) (by rfl) sc__law_points.nd rfl rfl (sw_true rfl rfl rfl (by decide +kernel)) (pi_list (pv 2)) (blkOk_by (own := [("u", 6)]) (N := N__law_points) (sc := defScope s__law_points) (by decide +kernel))
        (fun _ _ _ _ _ => (pg_name (i := 6) sc__law_points.nd rfl (Or.inl rfl))) (fun _ _ _ _ _ => (pts_one (pt_cmpR op_eq (pe_op op_modN (pe_callTy call_int1 (by rfl) M.int0 boot_int (pa_cons (pe_op op_mul (pe_op op_sub (pv 6) pe_int) (pv 3)) pa_nil)) (pv 0)) pe_int (nomark _)))) (fun _ _ _ _ _ => (pv 6)))
        (pss_one (ps_for PassesOwn.never rfl (pi_range1 (by rfl) M.range0 (pa_cons (pv 0) pa_nil)) (pg_name (i := 5) sc__law_points.nd rfl (Or.inr rfl)) 
          (pss_one (ps_if (PW.pt (pw_and (pt_cmpR op_eq (pe_call (ok__law_gcd M) (hr.mono (by decide)) rfl M.g__law_gcd M.k__law_gcd M.b__law_gcd .nil pass0 (pa_cons (pe_call (ok__law_gcd M) (hr.mono (by decide)) rfl M.g__law_gcd M.k__law_gcd M.b__law_gcd .nil pass0 (pa_cons (pv 3) (pa_cons (pv 5) pa_nil))) (pa_cons (pv 0) pa_nil))) pe_int (nomark _)) (pw_and1 (pt_cmpR (op_eqD hr.units) (pe_lc (own := [("u", 6)]) (g := (gName 6)) (by rfl) sc__law_points.nd (pi_list (pv 4)) (blkOk_by (own := [("u", 6)]) (N := N__law_points) (sc := defScope s__law_points) (by decide +kernel))
        (fun _ _ _ _ _ => (pg_name (i := 6) sc__law_points.nd rfl (Or.inl rfl))) (fun _ _ _ _ _ => (pts_one (pt_cmpR op_lt (pe_op op_modN (pe_callTy call_int1 (by rfl) M.int0 boot_int (pa_cons (pe_op op_mul (pv 6) (pv 5)) pa_nil)) (pv 0)) (pv 5) (nomark _)))) (fun _ _ _ _ _ => pe_int)) (pe_lst pa_nil) (nomark _))))) 
            (pss_one (ps_expr (pe_bm PySem.F.plainAttrs_list PySem.F.slot_list_append PySem.F.type_list_append mt_append (pv 1) (pa_cons (pe_tup (pa_cons (pv 3) (pa_cons (pv 5) pa_nil))) pa_nil)))) pss_nil))))))
      (pss_one (ps_ret (pv 1))))), ?_⟩
    have zer : (fun x => 0 + x) = (fun x : Nat => x) := funext fun x => Nat.zero_add x
    refine ⟨(by show 0 ≤ sizeLine; decide), fun D hD => ⟨_, rfl, tn <| ⟨N, rfl, by omega, fun pu H1 hpu s1 e1 => tn <| ⟨_, _, rfl, ?_⟩⟩⟩⟩
    have eD := s1 _ _ (upd_same (H := H) (a := D) (o := .lst []))
    have s01 : Same H H1 := (same_new hD).trans s1
    refine ⟨(by show 1 ≤ sizeLine; decide), fun p1 h1 => ⟨_, rfl, tn <| ⟨N, rfl, by omega, fun pd H2 hpd s2 e2 => ?_⟩⟩⟩
    refine ⟨1, rfl, _, rfl, pd, _, rfl, SqL.of e2, fun p2 h2 => ?_⟩
    have s12 := ((same_new (o := .lst [.int 0]) h1).trans s2).trans (same_new (o := .lst (cutV (nV (dvs N)) none (some (-1)))) h2)
    have f1 : (upd H2 p2 (.lst (cutV (nV (dvs N)) none (some (-1))))) p1 = some (.lst (nV [0])) := (same_new h2) _ _ (s2 _ _ upd_same)
    have f2 : (upd H2 p2 (.lst (cutV (nV (dvs N)) none (some (-1))))) p2 = some (.lst (nV (dvs N).dropLast)) := by
      rw [upd_same, cutN_last]
    generalize upd H2 p2 (.lst (cutV (nV (dvs N)) none (some (-1)))) = H3 at s12 f1 f2 ⊢
    obtain ⟨X, eX⟩ : ∃ X, X = 0 :: (dvs N).dropLast := ⟨_, rfl⟩
    have lX : X.length ≤ N + 1 := by
      have := dvs_len N
      rw [eX, List.length_cons, List.length_dropLast]
      omega
    have bX : ∀ x ∈ X, x ≤ N := fun x hx => by
      rw [eX] at hx
      rcases List.mem_cons.mp hx with rfl | hx
      · exact Nat.zero_le _
      · exact (dvs_b ((List.dropLast_sublist _).subset hx)).2
    refine ⟨p1, p2, _, _, rfl, rfl, f1, f2, (by rw [nV_len, nV_len, List.length_dropLast]; have := dvs_len N; show 1 + _ ≤ _; rw [sizeLine_eq]; omega), fun p3 h3 => ?_⟩
    have s3 := s12.trans (same_new (o := .lst (nV [0] ++ nV (dvs N).dropLast)) h3)
    have f3 : (upd H3 p3 (.lst (nV [0] ++ nV (dvs N).dropLast))) p3 = some (.lst (nV X)) := by
      rw [upd_same, eX]
      rfl
    generalize upd H3 p3 (.lst (nV [0] ++ nV (dvs N).dropLast)) = H4 at s3 f3 ⊢
    have eD4 := s3 _ _ eD
    have e14 := s3 _ _ e1
    have nDp3 : p3 ≠ D := fun z => by
      rw [z, s12 _ _ eD] at h3
      cases h3
    have nDpu : pu ≠ D := fun z => by
      rw [z, upd_same] at hpu
      cases hpu
    have s04 : Same H H4 := s01.trans s3
    clear s12 f1 f2 h2 e2 s2 hpd h1 s1 eD e1
    let pF : List Nat → List (Nat × Nat) := fun xs => (xs.map fun x => ((List.range N).filter (okY N x)).map fun y => (x, y)).flatten
    have pFl : ∀ xs : List Nat, (pF xs).length ≤ xs.length * N := fun xs => by
      induction xs with
      | nil => exact Nat.zero_le _
      | cons x xs ih =>
        show (((List.range N).filter (okY N x)).map (fun y => (x, y)) ++ pF xs).length ≤ _
        have := fil_le (okY N x) (List.range N)
        rw [List.length_range] at this
        rw [List.length_append, List.length_map, List.length_cons, Nat.succ_mul]
        omega
    refine ⟨p3, rfl, ⟨_, SqL.of f3⟩, for_list (K := K) (a := p3) (xs := nV X) (fun i σ H' => ∃ (x3 x4 x5 x6 : Option V) (ps : List Addr), σ = [some (.int (N : Int)), some (.ref D), some (.ref pu), x3, x4, x5, x6] ∧ H' D = some (.lst (ps.map V.ref)) ∧ PtsA N H' ps ((pF (X.take i)).map (cod N)) ∧ SameO D H4 H') ⟨_, _, _, _, [], rfl, eD4, .nil, SameO.refl⟩ (fun i σ H' _ ⟨_, _, _, _, _, _, _, _, so⟩ => SqL.of (so _ _ f3 nDp3)) ?_ ?_⟩
    · rintro i x σ H5 hx ⟨x3, x4, x5, x6, ps, rfl, h5, pa5, so5⟩
      obtain ⟨d, hd, rfl⟩ := nV_at hx
      have dN := bX d (List.mem_of_getElem? hd)
      have il := (List.getElem?_eq_some_iff.mp hd).1
      have u5 := so5 _ _ e14 nDpu
      refine ⟨_, rfl, pu, rfl, ⟨_, SqL.of u5⟩, fun D2 hD2 => lc_filL (fun u => decide ((((u : Int) - 1) * (d : Int)).fmod (N : Int) = 0)) (fun u => .int (u : Int)) (by have := fil_le (fun u => decide (Nat.gcd u N = 1)) (List.range N); rw [List.length_range] at this; unfold unt; omega) hD2 u5 ?_ ?_⟩
      · intro j u H6 A B hu6 s6 hA hB
        exact ⟨rfl, _, rfl, _, _, rfl, rfl, _, rfl, _, _, rfl, rfl, .inr ⟨by omega, by omega⟩, tn <| .inl ⟨_, rfl, _, rfl, _, _, rfl, rfl, by omega, rfl, _, rfl, iteB (dec_i0 _) (fun c => hA _ same_rfl c) fun c => ⟨_, rfl, hB _ same_rfl c⟩⟩⟩
      · intro H6 s6 h6
        have h6 : H6 D2 = some (.lst (nV (hld N d))) := h6
        have lh : (hld N d).length ≤ N := by
          unfold hld unt
          refine Nat.le_trans (fil_le _ _) (Nat.le_trans (fil_le _ _) ?_)
          rw [List.length_range]
          exact Nat.le_refl _
        have nD2 : D2 ≠ D := fun z => by
          rw [z, h5] at hD2
          cases hD2
        refine ⟨_, rfl, _, rfl, by omega, by omega, ?_⟩
        refine for_range (lo := 0) (n := N) (fun j σ H' => ∃ (x5 x6 : Option V) (ps : List Addr), σ = [some (.int (N : Int)), some (.ref D), some (.ref pu), some (.int (d : Int)), some (.ref D2), x5, x6] ∧ H' D = some (.lst (ps.map V.ref)) ∧ PtsA N H' ps ((pF (X.take i) ++ ((List.range j).filter (okY N d)).map fun y => (d, y)).map (cod N)) ∧ SameO D H4 H' ∧ H' D2 = some (.lst (nV (hld N d)))) ⟨_, _, ps, rfl, s6 _ _ h5, by
          rw [show ((List.range 0).filter (okY N d)).map (fun y => (d, y)) = [] from rfl, List.append_nil]
          exact pa5.same s6, so5.trans (.of s6), h6⟩ ?_ ?_
        · rintro j σ H7 hj ⟨y5, y6, ps7, rfl, h7, pa7, so7, d7⟩
          have ej : (0 : Int) + (j : Int) = (j : Int) := Int.zero_add _
          rw [ej]
          have lp := paired_len pa7
          have lpi := pFl (X.take i)
          have lfi := fil_le (okY N d) (List.range j)
          rw [List.length_map, List.length_append, List.length_map] at lp
          rw [List.length_range] at lfi
          have lti : (X.take i).length ≤ 61 := by
            rw [List.length_take]
            omega
          have lmul : (X.take i).length * N ≤ 61 * 60 := Nat.mul_le_mul lti n2
          have es : ((List.range (j + 1)).filter (okY N d)) = (List.range j).filter (okY N d) ++ if okY N d j = true then [j] else [] := by
            rw [List.range_succ]
            exact fil_snoc
          have no : okY N d j = false → ∀ H8, Same H7 H8 → ∃ (x5 x6 : Option V) (ps : List Addr), [some (.int (N : Int)), some (.ref D), some (.ref pu), some (.int (d : Int)), some (.ref D2), some (.int (j : Int)), y6] = [some (.int (N : Int)), some (.ref D), some (.ref pu), some (.int (d : Int)), some (.ref D2), x5, x6] ∧ H8 D = some (.lst (ps.map V.ref)) ∧ PtsA N H8 ps ((pF (X.take i) ++ ((List.range (j + 1)).filter (okY N d)).map fun y => (d, y)).map (cod N)) ∧ SameO D H4 H8 ∧ H8 D2 = some (.lst (nV (hld N d))) := fun z H8 s8 => by
            refine ⟨_, _, ps7, rfl, s8 _ _ h7, ?_, so7.trans (.of s8), s8 _ _ d7⟩
            rw [es, if_neg (by rw [z]; exact Bool.false_ne_true), List.append_nil]
            exact pa7.same s8
          refine ⟨_, rfl, _, rfl, tn <| ⟨_, _, rfl, _, rfl, tn <| ⟨_, _, rfl, rfl, _, rfl, ?_⟩⟩⟩
          by_cases c : Nat.gcd (Nat.gcd d j) N = 1
          · refine iteT' (by
              show decide (V.int ((Nat.gcd (Nat.gcd d j) N : Nat) : Int) = V.int 1) = true
              rw [dec_n1]
              exact decide_eq_true c) ?_
            refine ⟨_, rfl, D2, rfl, ⟨_, SqL.of d7⟩, fun D3 hD3 => lc_filL (fun u => decide (u * j % N < j)) (fun _ => .int 1) (by omega) hD3 d7 ?_ ?_⟩
            · intro k u H8 A B hu8 s8 hA hB
              exact ⟨rfl, _, rfl, _, rfl, _, _, rfl, rfl, .inr ⟨by omega, by omega⟩, tn <| .inl ⟨_, rfl, _, rfl, _, _, rfl, rfl, by omega, _, rfl, _, _, rfl, rfl, _, rfl, iteB (by
                show decide ((((u : Int) * (j : Int)).fmod (N : Int)) < (j : Int)) = _
                rw [← Int.natCast_mul, fmodN]
                exact decide_eq_decide.mpr (by omega)) (fun c => hA _ same_rfl c) fun c => hB _ same_rfl c⟩⟩
            · intro H8 s8 h8
              obtain ⟨F, eF⟩ : ∃ F, F = (hld N d).filter fun u => decide (u * j % N < j) := ⟨_, rfl⟩
              rw [← eF] at h8
              have eo : okY N d j = F.isEmpty := by
                unfold okY
                rw [decide_eq_true c, Bool.true_and, eF]
              refine ⟨(by show 0 ≤ sizeLine; decide), fun z hz => ?_⟩
              have s9 := same_new (o := .lst []) hz
              have h9 : (upd H8 z (.lst [])) D3 = some (.lst ((F.map fun _ => (1 : Int)).map V.int)) := by
                rw [s9 _ _ h8, List.map_map]
                rfl
              refine eq_nil (SqL.of h9) (SqL.of upd_same) ⟨_, rfl, ?_⟩
              have s89 := s8.trans s9
              generalize upd H8 z (.lst []) = H9 at s89 ⊢
              have ee : decide (F.map (fun _ => (1 : Int)) = []) = okY N d j := by
                rw [eo]
                cases F <;> rfl
              refine iteB ee (fun w => no w H9 s89) (fun w => ?_)
              have h10 := s89 _ _ h7
              refine ⟨_, rfl, .inl ⟨rfl, _, SqL.of h10⟩, _, rfl, _, rfl, tn <| ⟨(by show 2 ≤ sizeLine; decide), fun T hT => tn <| ?_⟩⟩
              have sT := same_new (o := .tup [.int (d : Int), .int (j : Int)]) hT
              have nT : D ≠ T := ne_of_none h10 hT
              refine ⟨D, _, _, rfl, rfl, sT _ _ h10, by rw [List.length_map, sizeLine_eq]; omega, ?_⟩
              refine ⟨_, _, ps7 ++ [T], rfl, by rw [upd_same, List.map_append]; rfl, ?_, fun b o ob nb => ?_, ?_⟩
              · rw [es, if_pos w, List.map_append (f := fun y => (d, y)), ← List.append_assoc, List.map_append]
                refine paired_app (paired_mono (pa7.same (s89.trans sT)) fun t k e => ?_) ?_
                · rw [upd_ne (ne_of e (sT _ _ h10) (fun z => by cases z))]
                  exact e
                · rw [upd_ne nT.symm, upd_same]
                  have hc1 : (d * N + j) / N = d := by
                    rw [Nat.mul_comm, Nat.mul_add_div (by omega), Nat.div_eq_of_lt hj, Nat.add_zero]
                  have hc2 : (d * N + j) % N = j := by
                    rw [Nat.mul_comm, Nat.mul_add_mod, Nat.mod_eq_of_lt hj]
                  show _ = some (HO.tup [V.int (((d * N + j) / N : Nat) : Int), V.int (((d * N + j) % N : Nat) : Int)])
                  rw [hc1, hc2]
              · rw [upd_ne nb]
                exact sT _ _ (s89 _ _ (so7 _ _ ob nb))
              · rw [upd_ne nD2]
                exact sT _ _ (s89 _ _ d7)
          · refine iteF' (by
              show decide (V.int ((Nat.gcd (Nat.gcd d j) N : Nat) : Int) = V.int 1) = false
              rw [dec_n1]
              exact decide_eq_false c) (no ?_ H7 same_rfl)
            unfold okY
            rw [decide_eq_false c, Bool.false_and]
        · rintro σ H7 ⟨y5, y6, ps7, rfl, h7, pa7, so7, d7⟩
          refine ⟨_, _, _, _, ps7, rfl, h7, ?_, so7⟩
          rw [take_nx hd]
          have e : pF (X.take i ++ [d]) = pF (X.take i) ++ ((List.range N).filter (okY N d)).map fun y => (d, y) := by
            show ((X.take i ++ [d]).map _).flatten = _
            rw [List.map_append, List.flatten_append]
            simp [pF]
          rw [e]
          exact pa7
    · rintro σ H5 ⟨x3, x4, x5, x6, ps, rfl, h5, pa5, so5⟩
      rw [nV_len, List.take_length] at pa5
      refine ⟨_, rfl, q D H5 hD (fun b o ob => so5 _ _ (s04 _ _ ob) (ne_of_none ob hD)) ⟨ps, h5, ?_⟩⟩
      have e : pF X = pts N := by
        rw [eX]
        rfl
      rw [← e]
      exact pa5

end
end K13

set_option Elab.async false
set_option linter.all false
set_option maxRecDepth 100000
set_option maxHeartbeats 4000000
set_option pp.maxSteps 3000
set_option exponentiation.threshold 500000
namespace K13
open PySem PySem.Spec PyProof.Rows L2 Dr Xv LamX Ps Gn Gp
section
variable {P : Program} {w : World} {K : PySem.W.Frag} {mg : Str → Option Value} {base : Heap}
theorem hu2 {k : Nat} {A : Around} (hr : Room k A) : A.units + 2 < cLine := by
  have := hu65 hr
  omega
theorem lin_b {x y : Nat} {a c : Int} (hx : x ≤ 60) (hy : y ≤ 60) (ha : a.natAbs ≤ 1) (hc : c.natAbs ≤ 1) : ((x : Int) * a + (y : Int) * c).natAbs ≤ 2 ^ 40 := by
  have h1 := Int.natAbs_add_le ((x : Int) * a) ((y : Int) * c)
  have h2 : ((x : Int) * a).natAbs ≤ 60 * 1 := by
    rw [Int.natAbs_mul]
    exact Nat.mul_le_mul (by omega) ha
  have h3 : ((y : Int) * c).natAbs ≤ 60 * 1 := by
    rw [Int.natAbs_mul]
    exact Nat.mul_le_mul (by omega) hc
  omega
def mk (N : Nat) (m : Mx) (k : Nat) : Nat × Nat := (k, mov N m (k / N, k % N))
theorem pairs_kvz {N : Nat} {m : Mx} {H : Hp} : ∀ {xs : List TP} {ks : List Nat}, Paired (fun (x : TP) k => x.1 = kO N k ∧ ∃ b, x.2.2 = .ref b ∧ H b = some (.tup (PT N (mk N m k).2))) xs ks →
    ∃ bs, xs.map (fun x => (x.1, x.2.2)) = kvz N (ks.map (mk N m)) bs ∧ MpA N H (ks.map (mk N m)) bs
  | _, _, .nil => ⟨[], rfl, .nil⟩
  | x :: xs, k :: ks, .cons h t => by
    obtain ⟨bs, h1, h2⟩ := pairs_kvz t
    obtain ⟨e1, b, e2, e3⟩ := h
    refine ⟨b :: bs, ?_, .cons e3 h2⟩
    rw [List.map_cons, h1, e1, e2]
    rfl
theorem pairs_keys {N : Nat} {P : TP → Nat → Prop} (hP : ∀ x k, P x k → x.1 = kO N k) : ∀ {xs : List TP} {ks : List Nat}, Paired P xs ks → xs.map (·.1) = ks.map (kO N)
  | _, _, .nil => rfl
  | _, _, .cons h t => by rw [List.map_cons, List.map_cons, pairs_keys hP t, hP _ _ h]
theorem res_lin {N : Nat} (x y : Nat) {a c : Int} {a' c' : Nat} (n1 : 1 ≤ N) (ha : a % (N : Int) = (a' : Int) % (N : Int)) (hc : c % (N : Int) = (c' : Int) % (N : Int)) : (((x : Int) * a + (y : Int) * c) % (N : Int)).toNat = (x * a' + y * c') % N := by
  have e : ((x : Int) * a + (y : Int) * c) % (N : Int) = (((x * a' + y * c') % N : Nat) : Int) := by
    rw [Int.natCast_emod, Int.natCast_add, Int.natCast_mul, Int.natCast_mul, Int.add_emod, Int.mul_emod (x : Int) a, Int.mul_emod (y : Int) c, ha, hc, ← Int.mul_emod, ← Int.mul_emod, ← Int.add_emod]
  rw [e, Int.toNat_natCast]
def sp__law_map : Sp := fun vs H Q _ => ∃ (N : Nat) (p q : Addr) (ks : List Nat) (a b c d : Int) (m : Mx), vs = [.int (N : Int), .ref p, .ref q] ∧ 1 ≤ N ∧ N ≤ 60 ∧ PtsAt N H p ks ∧ ks.Nodup ∧ ks.length ≤ 5000 ∧ (∀ k ∈ ks, k / N ≤ 60) ∧ H q = some (.tup [.int a, .int b, .int c, .int d]) ∧
  (a.natAbs ≤ 1 ∧ b.natAbs ≤ 1 ∧ c.natAbs ≤ 1 ∧ d.natAbs ≤ 1) ∧ (a % (N : Int) = (m.1 : Int) % (N : Int) ∧ b % (N : Int) = (m.2.1 : Int) % (N : Int) ∧ c % (N : Int) = (m.2.2.1 : Int) % (N : Int) ∧ d % (N : Int) = (m.2.2.2 : Int) % (N : Int)) ∧
  ∀ (r : Addr) (H' : Hp), H r = none → Same H H' → MpAt N H' r (ks.map (mk N m)) → Q (.ref r) H'
theorem ok__law_map (M : Mod P w K mg base) : FnOk P w K mg base CX0 4 M.f__law_map M.d__law_map ["level", "points", "matrix"] sp__law_map := by
  refine M.F__law_map.ok sc__law_map (fun vs H Q E h => ?_) (fun cdv A outer s H vs Q E hr h => ?_)
  · obtain ⟨N, p, q, ks, a, b, c, d, m, rfl, _⟩ := h
    rfl
  · obtain ⟨N, p, q0, ks, a, b, c, d, m, rfl, n1, n2, ⟨ps, ep, pa⟩, nd, kl, kb, eq0, ⟨a1, b1, c1, d1⟩, ⟨ra, rb, rc, rd⟩, q⟩ := h
    refine ⟨_, PSs.nox (pss_cons (ps_asg (pv 2) (pg_tup rfl (pgs_cons (pg_name (i := 3) sc__law_map.nd rfl (Or.inr rfl)) (pgs_cons (pg_name (i := 4) sc__law_map.nd rfl (Or.inr rfl)) (pgs_cons (pg_name (i := 5) sc__law_map.nd rfl (Or.inr rfl)) (pgs_cons (pg_name (i := 6) sc__law_map.nd rfl (Or.inr rfl)) pgs_nil))))))
      (pss_one (ps_ret (pe_callTy (call_dictT rfl (hu2 hr)) (by rfl) M.dict0 (by decide +kernel) (pa_cons (pe_lc (own := [("pair", 7)]) (g := (gName 7)) (by rfl) sc__law_map.nd (pi_list (pv 1)) (blkOk_by (own := [("pair", 7)]) (N := N__law_map) (sc := defScope s__law_map) (by decide +kernel))
        (fun _ _ _ _ _ => (pg_name (i := 7) sc__law_map.nd rfl (Or.inl rfl))) (fun _ _ _ _ _ => pts_nil) (fun _ _ _ _ _ => (pe_tup (pa_cons (pv 7) (pa_cons (pe_call (ok__law_point M) (hr.mono (by decide)) rfl M.g__law_point M.k__law_point M.b__law_point .nil pass0 (pa_cons (pv 0) (pa_cons (pe_op op_add (pe_op op_mul (pe_ix (r := rIxT K) ix_tup (pv 7) pe_int (fun _ _ => rfl)) (pv 3)) (pe_op op_mul (pe_ix (r := rIxT K) ix_tup (pv 7) pe_int (fun _ _ => rfl)) (pv 5))) (pa_cons (pe_op op_add (pe_op op_mul (pe_ix (r := rIxT K) ix_tup (pv 7) pe_int (fun _ _ => rfl)) (pv 4)) (pe_op op_mul (pe_ix (r := rIxT K) ix_tup (pv 7) pe_int (fun _ _ => rfl)) (pv 6))) pa_nil)))) pa_nil))))) pa_nil))))), ?_⟩
    refine ⟨_, rfl, q0, _, rfl, SqT.of eq0, rfl, _, _, rfl, _, _, rfl, _, _, rfl, _, _, rfl, rfl, ?_⟩
    refine ⟨_, rfl, p, rfl, ⟨_, SqL.of ep⟩, fun D hD => ?_⟩
    have pl := paired_len pa
    refine lc_list (K := K) (a := p) (xs := ps.map V.ref) (fun i H' => ∃ (ts : List Addr) (xs : List TP), H' D = some (.lst (ts.map V.ref)) ∧ Paired (fun t (x : TP) => H' t = some (.tup [.ref x.2.1, x.2.2]) ∧ H' x.2.1 = some (.tup (x.1.map kV))) ts xs ∧
      Paired (fun (x : TP) k => x.1 = kO N k ∧ ∃ b, x.2.2 = .ref b ∧ H' b = some (.tup (PT N (mk N m k).2))) xs (ks.take i) ∧ Same H H') ⟨[], [], upd_same, .nil, .nil, same_new hD⟩ (fun i H' _ ⟨_, _, _, _, _, s⟩ => SqL.of (s _ _ ep)) ?_ ?_
    · rintro i x H1 hx ⟨ts, xs, h1, r1, r2, s1⟩
      rw [List.getElem?_map] at hx
      obtain ⟨pi, hpi, rfl⟩ : ∃ pi, ps[i]? = some pi ∧ x = .ref pi := by
        cases e : ps[i]? with
        | none =>
          rw [e] at hx
          cases hx
        | some pi =>
          rw [e] at hx
          exact ⟨pi, rfl, (Option.some.inj hx).symm⟩
      obtain ⟨k, hk, ek⟩ := paired_at pa hpi
      have kN := kb k (List.mem_of_getElem? hk)
      have ky : k % N ≤ 60 := by
        have := Nat.mod_lt k (show 0 < N by omega)
        omega
      have e1 := s1 _ _ ek
      have i0 : atI (PT N k) 0 = some (.int ((k / N : Nat) : Int)) := atI_nat (xs := PT N k) (j := 0) rfl
      have i1 : atI (PT N k) 1 = some (.int ((k % N : Nat) : Int)) := atI_nat (xs := PT N k) (j := 1) rfl
      have ma : CMul ((k / N : Nat) : Int) a := .inr ⟨by omega, by omega⟩
      have mb : CMul ((k / N : Nat) : Int) b := .inr ⟨by omega, by omega⟩
      have mc : CMul ((k % N : Nat) : Int) c := .inr ⟨by omega, by omega⟩
      have md : CMul ((k % N : Nat) : Int) d := .inr ⟨by omega, by omega⟩
      have l1 := paired_len r1
      have l2 := paired_len r2
      rw [List.length_take] at l2
      refine ⟨rfl, yesT ⟨_, rfl, _, rfl, _, rfl, pi, _, 0, _, rfl, rfl, SqT.of e1, i0, _, rfl, _, _, rfl, rfl, ma, _, rfl, pi, _, 1, _, rfl, rfl, SqT.of e1, i1, _, rfl, _, _, rfl, rfl, mc, _, _, rfl, rfl, _, rfl, pi, _, 0, _, rfl, rfl, SqT.of e1, i0, _, rfl, _, _, rfl, rfl, mb, _, rfl, pi, _, 1, _, rfl, rfl, SqT.of e1, i1, _, rfl, _, _, rfl, rfl, md, _, _, rfl, rfl, tn <|
        ⟨N, _, _, rfl, n1, n2, lin_b kN ky a1 c1, lin_b kN ky b1 d1, fun pt H2 hpt s2 e2 => tn <| ⟨(by show 2 ≤ sizeLine; decide), fun T hT => ?_⟩⟩⟩⟩
      rw [res_lin _ _ n1 ra rc, res_lin _ _ n1 rb rd] at e2
      have sT := same_new (o := .tup [.ref pi, .ref pt]) hT
      have s12 := s2.trans sT
      have h3 := s12 _ _ h1
      have nT : T ≠ D := fun z => by
        rw [z, s2 _ _ h1] at hT
        cases hT
      have keep : ∀ b xs, H1 b = some (.tup xs) → (upd (upd H2 T (.tup [.ref pi, .ref pt])) D (.lst (ts.map V.ref ++ [.ref T]))) b = some (.tup xs) := fun b xs e => by
        rw [upd_ne (ne_of e h1 (fun z => by cases z))]
        exact s12 _ _ e
      refine ⟨_, h3, by rw [List.length_map, sizeLine_eq]; omega, ts ++ [T], xs ++ [(kO N k, pi, .ref pt)], by rw [upd_same, List.map_append]; rfl, ?_, ?_, fun b o ob => ?_⟩
      · refine paired_app (paired_mono r1 fun t x e => ⟨keep _ _ e.1, keep _ _ e.2⟩) ⟨?_, keep _ _ e1⟩
        rw [upd_ne nT, upd_same]
      · rw [take_nx hk]
        refine paired_app (paired_mono r2 fun x k e => ?_) ⟨rfl, pt, rfl, ?_⟩
        · obtain ⟨e1, b, e2, e3⟩ := e
          exact ⟨e1, b, e2, keep _ _ e3⟩
        · rw [upd_ne (ne_of e2 (s2 _ _ h1) (fun z => by cases z))]
          exact sT _ _ e2
      · rw [upd_ne (ne_of_none ob hD)]
        exact s12 _ _ (s1 _ _ ob)
    · rintro H1 ⟨ts, xs, h1, r1, r2, s1⟩
      rw [List.length_map, pl, List.take_length] at r2
      obtain ⟨bs, eb, mb⟩ := pairs_kvz (m := m) r2
      have ek := pairs_keys (fun x k h => h.1) r2
      have nd2 : (xs.map (·.1)).Nodup := by
        rw [ek]
        exact List.pairwise_map.mpr (nd.imp fun h z => h (kO_inj z))
      refine tn <| ⟨D, ts, xs, rfl, SqL.of h1, paired_mono r1 fun t x e => ⟨SqT.of e.1, e.2⟩, nd2, fun r hr' => ?_⟩
      refine q r _ (s1.free hr') (s1.trans (same_new hr')) ⟨bs, ?_, ?_⟩
      · rw [upd_same, eb]
      · exact paired_mono mb fun b e h => (same_new hr') _ _ h
def sp__law_orbits : Sp := fun vs H Q _ => ∃ (N : Nat) (a : Addr) (L : List (Nat × Nat)), vs = [.ref a] ∧ MpAt N H a L ∧ (L.map (·.1)).Nodup ∧ closed L = true ∧ L.length ≤ 5000 ∧ ∀ (p : Addr) (H' : Hp) (xs : List V), H p = none → Same H H' → H' p = some (.lst xs) → xs.length = orbM L → Q (.ref p) H'
theorem ok__law_orbits (M : Mod P w K mg base) : FnOk P w K mg base CX0 1 M.f__law_orbits M.d__law_orbits ["moves"] sp__law_orbits := by
  refine M.F__law_orbits.ok sc__law_orbits (fun vs H Q E h => ?_) (fun cdv A outer s H vs Q E hr h => ?_)
  · obtain ⟨N, a, L, rfl, _⟩ := h
    rfl
  · obtain ⟨N, a, L, rfl, ⟨bs, ea, mb⟩, nd, cl, ll, q⟩ := h
    have hu : (A.deeper (envOfC (Str.ofString "_law_orbits") (defScope s__law_orbits) s.heap.objs.size M.f__law_orbits cdv)).units + 1 < cLine := by
      have := hu65 hr
      omega
    refine ⟨_, PSs.nox (pss_cons (ps_par (i := 1) (j := 2) (by rfl) sc__law_orbits.nd rfl rfl (by decide) rfl rfl (pa_cons (pe_lst pa_nil) (pa_cons pe_dnewT pa_nil)) (by rfl))
      (pss_cons (ps_lock (ps_for PassesOwn.never rfl (pi_keys (pv 0)) (pg_name (i := 3) sc__law_orbits.nd rfl (Or.inl rfl)) 
        (pss_cons (ps_par (i := 4) (j := 5) (by rfl) sc__law_orbits.nd rfl rfl (by decide) rfl rfl (pa_cons (pe_lst pa_nil) (pa_cons (pv 3) pa_nil)) (by rfl))
        (pss_cons (ps_while PassesOwn.never (pt_cmp (pc_dnotin hu (pv 5) (pv 2)) (by rfl)) 
          (pss_cons (ps_dput hu (pv 2) (pv 5) pe_bl rfl)
          (pss_cons (ps_expr (pe_bm PySem.F.plainAttrs_list PySem.F.slot_list_append PySem.F.type_list_append mt_append (pv 4) (pa_cons (pv 5) pa_nil)))
          (pss_one (ps_set (i := 5) sc__law_orbits.nd rfl (Or.inl rfl) (pe_dget hu (pv 0) (pv 5) (fun _ _ => rfl)))))))
        (pss_one (ps_if (pt_cmpR (op_neD hr.units) (pv 4) (pe_lst pa_nil) (nomark _)) 
          (pss_one (ps_expr (pe_bm PySem.F.plainAttrs_list PySem.F.slot_list_append PySem.F.type_list_append mt_append (pv 1) (pa_cons (pv 4) pa_nil)))) pss_nil))))))
      (pss_one (ps_ret (pv 1))))), ?_⟩
    obtain ⟨n0, en0⟩ : ∃ n0, n0 = (L.map (·.1)).length := ⟨_, rfl⟩
    have nL : n0 = L.length := by rw [en0, List.length_map]
    have room : ∀ {s : List Nat}, s.Nodup → (∀ k ∈ s, k ∈ L.map (·.1)) → s.length ≤ n0 := fun {s} h1 h2 => by
      rw [en0]
      exact List.Nodup.length_le_of_subset h1 fun k hk => h2 k hk
    refine ⟨(by show 0 ≤ sizeLine; decide), fun F hF S hS => tn <| ⟨_, _, rfl, ?_⟩⟩
    have eF : (upd (upd H F (.lst [])) S (.dT [])) F = some (.lst []) := (same_new hS) _ _ upd_same
    have eS : (upd (upd H F (.lst [])) S (.dT [])) S = some (.dT []) := upd_same
    have s2 : Same H (upd (upd H F (.lst [])) S (.dT [])) := (same_new hF).trans (same_new hS)
    have fS : H S = none := (same_new (o := .lst []) hF).free hS
    generalize upd (upd H F (.lst [])) S (.dT []) = H2 at eF eS s2 ⊢
    clear hS
    have ea2 := s2 _ _ ea
    have nFa : F ≠ a := (ne_of_none ea hF).symm
    have nSa : S ≠ a := (ne_of_none ea fS).symm
    have nFS : F ≠ S := fun z => by
      rw [z, eS] at eF
      cases eF
    refine ⟨a, _, ea2, trivial, fun od => ?_⟩
    refine ⟨_, rfl, a, od, rfl, .inr ⟨_, upd_same, for_it walk_keysT (fun i σ H' => ∃ (x3 x4 x5 : Option V) (xs : List V) (s : List Nat), σ = [some (.ref a), some (.ref F), some (.ref S), x3, x4, x5] ∧ H' a = some (.frz od (.dT (kvz N L bs))) ∧ H' F = some (.lst xs) ∧ H' S = some (.dT (snz N s.reverse)) ∧
      ((L.map (·.1)).take i).foldl (orbS (lookB L) n0) (0, []) = (xs.length, s) ∧ xs.length ≤ i ∧ s.Nodup ∧ (∀ k ∈ s, k ∈ L.map (·.1)) ∧ ∀ b o, H b = some o → b ≠ a → H' b = some o) ⟨_, _, _, [], [], rfl, upd_same, by rw [upd_ne nFa]; exact eF, by rw [upd_ne nSa]; exact eS, rfl, Nat.le_refl _, List.nodup_nil, (fun k hk => absurd hk List.not_mem_nil), fun b o e ne => by rw [upd_ne ne]; exact s2 _ _ e⟩ (fun i σ H' _ ⟨_, _, _, _, _, _, h, _⟩ => h) ?_ ?_⟩⟩
    · rintro i x σ H3 H4 hi ⟨x3, x4, x5, xs, s, rfl, fa, fF, fS', hfold, xl, snd, ssub, keep⟩ ⟨rfl, k, v, qa, ek, rfl, eqa⟩
      obtain ⟨e, he, rfl⟩ := kvz_at mb ek
      have il := (List.getElem?_eq_some_iff.mp he).1
      have ein : e.1 ∈ L.map (·.1) := List.mem_map_of_mem (List.mem_of_getElem? he)
      have eqa : H4 qa = some (.tup (PT N e.1)) := eqa
      refine ⟨(by show 0 ≤ sizeLine; decide), fun Ln hLn => ⟨_, rfl, tn <| ⟨_, _, rfl, ?_⟩⟩⟩
      have s5 := same_new (o := .lst []) hLn
      have nLF : Ln ≠ F := (ne_of_none fF hLn).symm
      have nLS : Ln ≠ S := (ne_of_none fS' hLn).symm
      have nLa : Ln ≠ a := (ne_of_none fa hLn).symm
      have fLH : H Ln = none := by
        cases h : H Ln with
        | none => rfl
        | some o =>
          have := keep _ _ h nLa
          rw [hLn] at this
          cases this
      refine ⟨fun m σ' H' => ∃ (ts : List Addr) (zs s' : List Nat) (here : Nat) (hq : Addr), σ' = [some (.ref a), some (.ref F), some (.ref S), some (.ref qa), some (.ref Ln), some (.ref hq)] ∧ wk (lookB L) m s' here = wk (lookB L) n0 s e.1 ∧ n0 ≤ s'.length + m ∧ H' hq = some (.tup (PT N here)) ∧ here ∈ L.map (·.1) ∧ s'.Nodup ∧ (∀ k ∈ s', k ∈ L.map (·.1)) ∧
        H' Ln = some (.lst (ts.map V.ref)) ∧ TupI H' ts (zs.map fun k => [((k / N : Nat) : Int), ((k % N : Nat) : Int)]) ∧ ts.length ≤ s'.length ∧ (ts = [] → s' = s ∧ here = e.1) ∧ (ts ≠ [] → e.1 ∉ s) ∧
        H' a = some (.frz od (.dT (kvz N L bs))) ∧ H' F = some (.lst xs) ∧ H' S = some (.dT (snz N s'.reverse)) ∧ ∀ b o, H b = some o → b ≠ a → H' b = some o, ?_, ?_⟩
      · exact ⟨n0, [], [], s, e.1, qa, rfl, rfl, by omega, s5 _ _ eqa, ein, snd, ssub, upd_same, .nil, Nat.zero_le _, fun _ => ⟨rfl, rfl⟩, fun z => absurd rfl z, s5 _ _ fa, s5 _ _ fF, s5 _ _ fS', fun b o hb ne => s5 _ _ (keep _ _ hb ne)⟩
      · rintro m σ H5 ⟨ts, zs, s', here, hq, rfl, hw, hm, ehq, hin, nd', sub', eLn, tI, tl, t0, t1, ga, gF, gS, gk⟩
        have sr := room nd' sub'
        have val : (!(valV (snz N s'.reverse) (kO N here)).isSome) = decide (here ∉ s') := by
          rw [snz_val]
          by_cases c : here ∈ s'
          · rw [decide_eq_true (List.mem_reverse.mpr c), decide_eq_false (fun z => z c)]
            rfl
          · rw [decide_eq_false (fun z => c (List.mem_reverse.mp z)), decide_eq_true c]
            rfl
        refine ⟨_, rfl, _, rfl, S, _, rfl, DGet.t (k := kO N here) gS ehq, _, rfl, iteB val (fun c => ?_) (fun c => ?_)⟩
        · -- seen already
          have c : here ∈ s' := Decidable.not_not.mp (of_decide_eq_false c)
          have ew : wk (lookB L) m s' here = s' := by
            cases m with
            | zero => rfl
            | succ m =>
              unfold wk
              rw [(memB_iff _ _).mpr c]
          rw [ew] at hw
          refine ⟨_, rfl, (by show 0 ≤ sizeLine; decide), fun z hz => ?_⟩
          have s6 := same_new (o := .lst []) hz
          have dpl : Dp K (upd H5 z (.lst [])) (.ref Ln) (.list ((zs.map fun k => [((k / N : Nat) : Int), ((k % N : Nat) : Int)]).map tupD)) := .lst (SqL.of (s6 _ _ eLn)) (tI.same s6).dp
          have dpn : Dp K (upd H5 z (.lst [])) (.ref z) (.list (intsD [])) := .lst (xs := List.map V.int []) (SqL.of upd_same) (ints_dp _)
          have tz : ts.length = zs.length := by
            have := tI.1
            rwa [List.length_map] at this
          have ev : (!PyData.eqv (.list ((zs.map fun k => [((k / N : Nat) : Int), ((k % N : Nat) : Int)]).map tupD)) (.list (intsD []))) = decide (ts ≠ []) := by
            cases zs with
            | nil =>
              have : ts = [] := List.length_eq_zero_iff.mp tz
              rw [this]
              rfl
            | cons z zs =>
              have : ts ≠ [] := fun q => by
                rw [q] at tz
                cases tz
              rw [decide_eq_true this]
              rfl
          refine ⟨_, _, dpl, dpn, tups_shaped _, ints_shaped _, _, rfl, iteB ev (fun w => ?_) (fun w => ?_)⟩
          · have w : ts = [] := Decidable.not_not.mp (of_decide_eq_false w)
            obtain ⟨w1, w2⟩ := t0 w
            refine ⟨_, _, _, xs, s, rfl, s6 _ _ ga, s6 _ _ gF, by rw [← w1]; exact s6 _ _ gS, ?_, by omega, snd, ssub, fun b o hb ne => s6 _ _ (gk _ _ hb ne)⟩
            have hk : (L.map (·.1))[i]? = some e.1 := by rw [List.getElem?_map, he]; rfl
            rw [take_nx hk, List.foldl_append, hfold]
            show orbS _ _ _ _ = _
            unfold orbS
            rw [w1, w2] at c
            rw [(memB_iff _ _).mpr c]
          · have w := of_decide_eq_true w
            have w2 := t1 w
            have g6 := s6 _ _ gF
            refine ⟨_, rfl, .inl ⟨rfl, _, SqL.of g6⟩, _, rfl, tn <| ⟨F, _, _, rfl, rfl, g6, by rw [sizeLine_eq]; omega, ?_⟩⟩
            refine ⟨_, _, _, xs ++ [.ref Ln], s', rfl, ?_, upd_same, ?_, ?_, ?_, nd', sub', fun b o hb ne => ?_⟩
            · rw [upd_ne nFa.symm]
              exact s6 _ _ ga
            · rw [upd_ne nFS.symm]
              exact s6 _ _ gS
            · have hk : (L.map (·.1))[i]? = some e.1 := by rw [List.getElem?_map, he]; rfl
              rw [take_nx hk, List.foldl_append, hfold]
              show orbS _ _ _ _ = _
              unfold orbS
              have : memB s e.1 = false := by
                cases h : memB s e.1 with
                | false => rfl
                | true => exact absurd ((memB_iff _ _).mp h) w2
              rw [this]
              show (xs.length + 1, wk (lookB L) n0 s e.1) = _
              rw [← hw, List.length_append]
              rfl
            · rw [List.length_append]
              exact Nat.succ_le_succ xl
            · rw [upd_ne (ne_of_none hb hF)]
              exact s6 _ _ (gk _ _ hb ne)
        · -- a new one
          have c : here ∉ s' := of_decide_eq_true c
          have sr1 : s'.length + 1 ≤ n0 := by
            have := room (s := here :: s') (List.nodup_cons.mpr ⟨c, nd'⟩) (fun k hk => by
              rcases List.mem_cons.mp hk with rfl | hk
              · exact hin
              · exact sub' k hk)
            rwa [List.length_cons] at this
          cases m with
          | zero => omega
          | succ m =>
            have mbf : memB s' here = false := by
              cases h : memB s' here with
              | false => rfl
              | true => exact absurd ((memB_iff _ _).mp h) c
            have hw2 : wk (lookB L) m (here :: s') (lookB L here) = wk (lookB L) n0 s e.1 := by
              rw [← hw]
              conv => rhs; unfold wk
              rw [mbf]
            obtain ⟨bv, hv1, hv2⟩ := kvz_look mb hin
            have nbv : bv ≠ a := ne_of hv2 ea (fun z => by cases z)
            have hl : (snz N s'.reverse).length < sizeLine := by
              unfold snz
              rw [List.length_map, List.length_reverse, sizeLine_eq]
              omega
            have ep := snz_put (N := N) (s := s'.reverse) (k := here) (fun z => c (List.mem_reverse.mp z))
            refine ⟨_, fun σ' H' z => ⟨m, Nat.lt_succ_self m, z⟩, ?_⟩
            refine ⟨_, rfl, _, rfl, S, _, rfl, DPut.t (k := kO N here) gS ehq hl, ?_⟩
            have nLS5 : Ln ≠ S := ne_of eLn gS (fun z => by cases z)
            have nhS : hq ≠ S := ne_of ehq gS (fun z => by cases z)
            have nhL : hq ≠ Ln := ne_of ehq eLn (fun z => by cases z)
            have p1 : (upd H5 S (.dT (putK (snz N s'.reverse) (kO N here) (.bl true)))) S = some (.dT (snz N (here :: s').reverse)) := by
              rw [upd_same, ep, List.reverse_cons]
            have p2 : ∀ b o, H5 b = some o → b ≠ S → (upd H5 S (.dT (putK (snz N s'.reverse) (kO N here) (.bl true)))) b = some o := fun b o hb nb => by
              rw [upd_ne nb]
              exact hb
            generalize upd H5 S (.dT (putK (snz N s'.reverse) (kO N here) (.bl true))) = H6 at p1 p2 ⊢
            have l6 := p2 _ _ eLn nLS5
            refine ⟨_, rfl, .inl ⟨rfl, _, SqL.of l6⟩, _, rfl, tn <| ⟨Ln, _, _, rfl, rfl, l6, by rw [List.length_map, sizeLine_eq]; omega, ?_⟩⟩
            have p3 : ∀ b o, H5 b = some o → b ≠ S → b ≠ Ln → (upd H6 Ln (.lst (ts.map V.ref ++ [.ref hq]))) b = some o := fun b o hb nb nb2 => by
              rw [upd_ne nb2]
              exact p2 _ _ hb nb
            have p4 : (upd H6 Ln (.lst (ts.map V.ref ++ [.ref hq]))) Ln = some (.lst ((ts ++ [hq]).map V.ref)) := by
              rw [upd_same, List.map_append]
              rfl
            have p5 : (upd H6 Ln (.lst (ts.map V.ref ++ [.ref hq]))) S = some (.dT (snz N (here :: s').reverse)) := by
              rw [upd_ne nLS5.symm]
              exact p1
            generalize upd H6 Ln (.lst (ts.map V.ref ++ [.ref hq])) = H7 at p3 p4 p5 ⊢
            have tk : ∀ b us, H5 b = some (.tup us) → H7 b = some (.tup us) := fun b us hb => p3 _ _ hb (ne_of hb gS (fun z => by cases z)) (ne_of hb eLn (fun z => by cases z))
            have ga7 := p3 _ _ ga (ne_of ga gS (fun z => by cases z)) (ne_of ga eLn (fun z => by cases z))
            refine ⟨_, rfl, _, rfl, a, .ref bv, rfl, .inr ⟨_, kO N here, hq, .inr ⟨od, ga7⟩, rfl, tk _ _ ehq, hv1.symm⟩, ?_⟩
            refine ⟨ts ++ [hq], zs ++ [here], here :: s', lookB L here, bv, rfl, hw2, by rw [List.length_cons]; omega, tk _ _ (gk _ _ hv2 nbv), lookB_mem cl hin, List.nodup_cons.mpr ⟨c, nd'⟩, ?_, p4, ?_, ?_, fun z => absurd z (by simp), fun _ => ?_, ga7, p3 _ _ gF nFS nLF.symm, p5, fun b o hb ne => ?_⟩
            · intro k hk
              rcases List.mem_cons.mp hk with rfl | hk
              · exact hin
              · exact sub' k hk
            · rw [List.map_append]
              exact TupI.append ⟨tI.1, fun i t ns h1 h2 => tk _ _ (tI.2 i t ns h1 h2)⟩ (TupI.one (tk _ _ ehq))
            · rw [List.length_append, List.length_cons]
              exact Nat.succ_le_succ tl
            · by_cases w : ts = []
              · obtain ⟨w1, w2⟩ := t0 w
                rw [w1, w2] at c
                exact c
              · exact t1 w
            · exact p3 _ _ (gk _ _ hb ne) (ne_of_none hb fS) (ne_of_none hb fLH)
    · rintro σ H3 ⟨x3, x4, x5, xs, s, rfl, fa, fF, fS', hfold, xl, snd, ssub, keep⟩
      have kl := kvz_len mb
      refine ⟨fa, ?_⟩
      rw [kl, List.take_of_length_le (by rw [List.length_map]; exact Nat.le_refl _)] at hfold
      refine ⟨_, rfl, q F _ xs hF (fun b o hb => ?_) (by rw [upd_ne nFa]; exact fF) ?_⟩
      · by_cases h : b = a
        · rw [h] at hb ⊢
          rw [ea] at hb
          rw [upd_same]
          exact hb
        · rw [upd_ne h]
          exact keep _ _ hb h
      · unfold orbM orb
        rw [← en0, hfold]

end
end K13

set_option Elab.async false
set_option linter.all false
set_option maxRecDepth 100000
set_option maxHeartbeats 4000000
set_option pp.maxSteps 3000
set_option exponentiation.threshold 500000
namespace K13
open PySem PySem.Spec PyProof.Rows L2 Dr Xv LamX Ps Gn Gp
section
variable {P : Program} {w : World} {K : PySem.W.Frag} {mg : Str → Option Value} {base : Heap}
theorem neg1 {N : Nat} (n1 : 1 ≤ N) : (-1 : Int) % (N : Int) = ((N - 1 : Nat) : Int) % (N : Int) := by
  have e : ((N - 1 : Nat) : Int) = -1 + (N : Int) := by omega
  rw [e, Int.add_emod_right]
theorem map_use {N : Nat} {H : Hp} {Q : VK} {E : XK} {p q : Addr} (n1 : 1 ≤ N) (n2 : N ≤ 60) (C : Cnt N) (hp : PtsAt N H p ((pts N).map (cod N))) {a b c d : Int} (m : Mx) (hq : H q = some (.tup [.int a, .int b, .int c, .int d])) (hb : a.natAbs ≤ 1 ∧ b.natAbs ≤ 1 ∧ c.natAbs ≤ 1 ∧ d.natAbs ≤ 1)
    (hr : a % (N : Int) = (m.1 : Int) % (N : Int) ∧ b % (N : Int) = (m.2.1 : Int) % (N : Int) ∧ c % (N : Int) = (m.2.2.1 : Int) % (N : Int) ∧ d % (N : Int) = (m.2.2.2 : Int) % (N : Int)) (k : ∀ r H', H r = none → Same H H' → MpAt N H' r (mvs N m) → Q (.ref r) H') : sp__law_map [.int (N : Int), .ref p, .ref q] H Q E := by
  refine ⟨N, p, q, (pts N).map (cod N), a, b, c, d, m, rfl, n1, n2, hp, C.nd, ?_, ?_, hq, hb, hr, fun r H' h1 h2 h3 => k r H' h1 h2 ?_⟩
  · have := pts_len N n2
    rw [List.length_map]
    omega
  · intro k hk
    obtain ⟨x, hx, rfl⟩ := List.mem_map.mp hk
    have hb := pts_b hx
    have := cod_back hb.1
    have e : cod N x / N = x.1 := congrArg Prod.fst this
    omega
  · have e := mk_mvs N m
    rw [← e]
    exact h3
def tFix (K : PySem.W.Frag) (i j k : Nat) : TE := tLc (iList K (tVar i)) (gName k) (tTest (tOp (rEqD K) (tDGet (tVar j) (tVar k)) (tVar k))) (tC (V.int 1)) [k]
theorem fix_count : ∀ {L : List (Nat × Nat)}, (L.map (·.1)).Nodup → ((L.map (·.1)).filter fun k => decide (lookB L k = k)).length = fixM L := by
  have key : ∀ (M L : List (Nat × Nat)), (∀ e ∈ M, lookB L e.1 = e.2) → ((M.map (·.1)).filter fun k => decide (lookB L k = k)).length = fixM M := by
    intro M L
    induction M with
    | nil => exact fun _ => rfl
    | cons e M ih =>
      intro h
      have ih := ih fun e he => h e (List.mem_cons_of_mem _ he)
      have h0 := h e List.mem_cons_self
      unfold fixM at ih ⊢
      rw [List.map_cons]
      by_cases c : e.2 = e.1
      · rw [List.filter_cons_of_pos (by rw [h0]; exact decide_eq_true c), List.filter_cons_of_pos (by rw [c]; exact Nat.beq_refl _), List.length_cons, List.length_cons, ih]
      · rw [List.filter_cons_of_neg (by rw [h0]; simpa using c), List.filter_cons_of_neg (p := fun e : Nat × Nat => Nat.beq e.2 e.1) (fun z => c (Nat.eq_of_beq_eq_true z)), ih]
  intro L nd
  refine key L L fun e he => ?_
  induction L with
  | nil => exact absurd he List.not_mem_nil
  | cons a L ih =>
    rw [List.map_cons, List.nodup_cons] at nd
    rcases List.mem_cons.mp he with rfl | he
    · unfold lookB
      rw [Nat.beq_refl]
    · have ne : Nat.beq a.1 e.1 = false := by
        cases h : Nat.beq a.1 e.1 with
        | false => rfl
        | true => exact absurd (Nat.eq_of_beq_eq_true h ▸ List.mem_map_of_mem he) nd.1
      unfold lookB
      rw [ne]
      exact ih nd.2 he
theorem fix_ok {N i j k : Nat} {σ : L2.St} {H : Hp} {Q : VK} {p mp : Addr} {L : List (Nat × Nat)} (hk : k < σ.length) (ik : i ≠ k) (jk : j ≠ k) (hi : σ[i]? = some (some (.ref p))) (hj : σ[j]? = some (some (.ref mp))) (hp : PtsAt N H p (L.map (·.1))) (hm : MpAt N H mp L) (nd : (L.map (·.1)).Nodup) (ll : L.length ≤ 5000)
    (q : ∀ D H' xs, H D = none → Same H H' → H' D = some (.lst xs) → xs.length = fixM L → Q (.ref D) H') : tFix K i j k σ H Q := by
  obtain ⟨ps, ep, pa⟩ := hp
  obtain ⟨bs, em, mb⟩ := hm
  refine ⟨_, hi, p, rfl, ⟨_, SqL.of ep⟩, fun D hD => lc_filP (fun k => decide (lookB L k = k)) (fun _ => .int 1) (by rw [List.length_map]; omega) hD ep pa ?_ ?_⟩
  · intro n qa x H1 A B hx ex s1 hA hB
    have hw : wipe σ [k] = σ.set k none := rfl
    have g1 : ((wipe σ [k]).set k (some (.ref qa)))[j]? = some (some (.ref mp)) := by
      rw [hw, List.getElem?_set_ne jk.symm, List.getElem?_set_ne jk.symm]
      exact hj
    have g2 : ((wipe σ [k]).set k (some (.ref qa)))[k]? = some (some (.ref qa)) := by
      rw [hw, List.getElem?_set_self (by rw [List.length_set]; exact hk)]
    have g3 : wipe ((wipe σ [k]).set k (some (.ref qa))) [k] = wipe σ [k] := by
      show (((σ.set k none).set k (some (.ref qa))).set k none) = σ.set k none
      rw [List.set_set, List.set_set]
    obtain ⟨b, v1, v2⟩ := kvz_look mb (List.mem_of_getElem? hx)
    refine ⟨g3, _, g1, _, g2, mp, .ref b, rfl, .inr ⟨_, kO N x, qa, .inl (s1 _ _ em), rfl, ex, v1.symm⟩, _, g2, ?_⟩
    refine ⟨tupD [((lookB L x / N : Nat) : Int), ((lookB L x % N : Nat) : Int)], tupD [((x / N : Nat) : Int), ((x % N : Nat) : Int)], tup_dp (ns := [_, _]) (s1 _ _ v2), tup_dp (ns := [_, _]) ex, tup_shaped _, tup_shaped _, _, rfl, iteB (pt_eqv N _ _) (fun c => hA _ same_rfl c) fun c => hB _ same_rfl c⟩
  · intro H1 s1 h1
    refine q D H1 _ hD s1 h1 ?_
    rw [List.length_map]
    exact fix_count nd
theorem asg {te : TE} {g : TG} {tb : TS} {D : Ends} {σ : L2.St} {H : Hp} (h : te σ H fun x H1 => g x σ H1 fun σ' H' => tb D σ' H') : tSeq (tAsg te g) tb D σ H := h
def tFixN (K : PySem.W.Frag) (i j k : Nat) : TE := tCB (fun xs H_1 Q => ∃ x n, xs = [x] ∧ LenV K x H_1 n ∧ Q (V.int ↑n) H_1) (tCons (tFix K i j k) tNil)
theorem lenc {K : PySem.W.Frag} {te : TE} {σ : L2.St} {H : Hp} {Q : VK} (h : te σ H fun v H1 => ∃ x n, [v] = [x] ∧ LenV K x H1 n ∧ Q (V.int ↑n) H1) : tCB (fun xs H_1 Q => ∃ x n, xs = [x] ∧ LenV K x H_1 n ∧ Q (V.int ↑n) H_1) (tCons te tNil) σ H Q := h
theorem fixN_ok {N i j k : Nat} {σ : L2.St} {H : Hp} {Q : VK} {p mp : Addr} {L : List (Nat × Nat)} (hk : k < σ.length) (ik : i ≠ k) (jk : j ≠ k) (hi : σ[i]? = some (some (.ref p))) (hj : σ[j]? = some (some (.ref mp))) (hp : PtsAt N H p (L.map (·.1))) (hm : MpAt N H mp L) (nd : (L.map (·.1)).Nodup) (ll : L.length ≤ 5000)
    (q : ∀ H', Same H H' → Q (.int (fixM L : Int)) H') : tFixN K i j k σ H Q := by
  refine lenc (fix_ok hk ik jk hi hj hp hm nd ll fun D H' xs hD s e l => ⟨_, _, rfl, .inl ⟨_, SqL.of e, rfl⟩, ?_⟩)
  rw [l]
  exact q H' s
theorem orb_use {N : Nat} {H : Hp} {Q : VK} {E : XK} {r : Addr} {m : Mx} (n2 : N ≤ 60) (C : Cnt N) (hm : MpAt N H r (mvs N m)) (hc : closed (mvs N m) = true) (q : ∀ (p : Addr) (H' : Hp) (xs : List V), H p = none → Same H H' → H' p = some (.lst xs) → xs.length = orbM (mvs N m) → Q (.ref p) H') : sp__law_orbits [.ref r] H Q E := by
  refine ⟨N, r, mvs N m, rfl, hm, by rw [mvs_keys]; exact C.nd, hc, ?_, q⟩
  have := pts_len N n2
  unfold mvs
  rw [List.length_map]
  omega
def sp__law_ranks : Sp := fun vs H Q _ => ∃ N : Nat, vs = [.int (N : Int)] ∧ 1 ≤ N ∧ N ≤ 60 ∧ Cnt N ∧ ∀ (p : Addr) (H' : Hp), H p = none → Same H H' → H' p = some (.tup [.int (fixM (mvs N (mS N)) : Int), .int (fixM (mvs N (mU N)) : Int), .int (((pts N).length : Int) + 1 - (orbM (mvs N (mS N)) : Int) - (orbM (mvs N (mU N)) : Int))]) → Q (.ref p) H'
theorem ok__law_ranks (M : Mod P w K mg base) : FnOk P w K mg base CX0 5 M.f__law_ranks M.d__law_ranks ["level"] sp__law_ranks := by
  refine M.F__law_ranks.ok sc__law_ranks (fun vs H Q E h => ?_) (fun cdv A outer s H vs Q E hr h => ?_)
  · obtain ⟨N, rfl, _⟩ := h
    rfl
  · obtain ⟨N, rfl, n1, n2, C, q⟩ := h
    have hu : (A.deeper (envOfC (Str.ofString "_law_ranks") (defScope s__law_ranks) s.heap.objs.size M.f__law_ranks cdv)).units + 1 < cLine := by
      have := hu65 hr
      omega
    refine ⟨_, PSs.nox (pss_cons (ps_set (i := 1) sc__law_ranks.nd rfl (Or.inl rfl) (pe_call (ok__law_points M) (hr.mono (by decide)) rfl M.g__law_points M.k__law_points M.b__law_points .nil pass0 (pa_cons (pv 0) pa_nil)))
      (pss_cons (ps_asg (pe_tup (pa_cons (pe_call (ok__law_map M) (hr.mono (by decide)) rfl M.g__law_map M.k__law_map M.b__law_map .nil pass0 (pa_cons (pv 0) (pa_cons (pv 1) (pa_cons (pe_tup (pa_cons pe_int (pa_cons (pe_un un_neg pe_int) (pa_cons pe_int (pa_cons pe_int pa_nil))))) pa_nil)))) (pa_cons (pe_call (ok__law_map M) (hr.mono (by decide)) rfl M.g__law_map M.k__law_map M.b__law_map .nil pass0 (pa_cons (pv 0) (pa_cons (pv 1) (pa_cons (pe_tup (pa_cons pe_int (pa_cons (pe_un un_neg pe_int) (pa_cons pe_int (pa_cons pe_int pa_nil))))) pa_nil)))) pa_nil))) (pg_tup rfl (pgs_cons (pg_name (i := 2) sc__law_ranks.nd rfl (Or.inr rfl)) (pgs_cons (pg_name (i := 3) sc__law_ranks.nd rfl (Or.inr rfl)) pgs_nil))))
      (pss_cons (ps_set (i := 4) sc__law_ranks.nd rfl (Or.inl rfl) (pe_callB call_len (by rfl) M.len0 PySem.boot_len (pa_cons (pe_lc (own := [("pair", 6)]) (g := (gName 6)) (by rfl) sc__law_ranks.nd (pi_list (pv 1)) (blkOk_by (own := [("pair", 6)]) (N := N__law_ranks) (sc := defScope s__law_ranks) (by decide +kernel))
        (fun _ _ _ _ _ => (pg_name (i := 6) sc__law_ranks.nd rfl (Or.inl rfl))) (fun _ _ _ _ _ => (pts_one (pt_cmpR (r := rEqD K) (op_eqD hr.units) (pe_dget hu (pv 2) (pv 6) (fun _ _ => rfl)) (pv 6) (nomark _)))) (fun _ _ _ _ _ => pe_int)) pa_nil)))
      (pss_cons (ps_set (i := 5) sc__law_ranks.nd rfl (Or.inl rfl) (pe_callB call_len (by rfl) M.len0 PySem.boot_len (pa_cons (pe_lc (own := [("pair", 6)]) (g := (gName 6)) (by rfl) sc__law_ranks.nd (pi_list (pv 1)) (blkOk_by (own := [("pair", 6)]) (N := N__law_ranks) (sc := defScope s__law_ranks) (by decide +kernel))
        (fun _ _ _ _ _ => (pg_name (i := 6) sc__law_ranks.nd rfl (Or.inl rfl))) (fun _ _ _ _ _ => (pts_one (pt_cmpR (r := rEqD K) (op_eqD hr.units) (pe_dget hu (pv 3) (pv 6) (fun _ _ => rfl)) (pv 6) (nomark _)))) (fun _ _ _ _ _ => pe_int)) pa_nil)))
      (pss_one (ps_ret (pe_tup (pa_cons (pv 4) (pa_cons (pv 5) (pa_cons (pe_op op_sub (pe_op op_sub (pe_op op_add (pe_callB call_len (by rfl) M.len0 PySem.boot_len (pa_cons (pv 1) pa_nil)) pe_int) (pe_callB call_len (by rfl) M.len0 PySem.boot_len (pa_cons (pe_call (ok__law_orbits M) (hr.mono (by decide)) rfl M.g__law_orbits M.k__law_orbits M.b__law_orbits .nil pass0 (pa_cons (pv 2) pa_nil)) pa_nil))) (pe_callB call_len (by rfl) M.len0 PySem.boot_len (pa_cons (pe_call (ok__law_orbits M) (hr.mono (by decide)) rfl M.g__law_orbits M.k__law_orbits M.b__law_orbits .nil pass0 (pa_cons (pv 3) pa_nil)) pa_nil))) pa_nil)))))))))), ?_⟩
    refine ⟨_, rfl, tn <| ⟨N, rfl, n1, n2, fun p H1 hp s1 ep => ?_⟩⟩
    have lk : (mvs N (mS N)).length ≤ 5000 ∧ (mvs N (mU N)).length ≤ 5000 := by
      have := pts_len N n2
      unfold mvs
      rw [List.length_map, List.length_map]
      omega
    have rS : (0 : Int) % (N : Int) = ((mS N).1 : Int) % (N : Int) ∧ (-1 : Int) % (N : Int) = ((mS N).2.1 : Int) % (N : Int) ∧ (1 : Int) % (N : Int) = ((mS N).2.2.1 : Int) % (N : Int) ∧ (0 : Int) % (N : Int) = ((mS N).2.2.2 : Int) % (N : Int) := ⟨rfl, neg1 n1, rfl, rfl⟩
    have rU : (0 : Int) % (N : Int) = ((mU N).1 : Int) % (N : Int) ∧ (-1 : Int) % (N : Int) = ((mU N).2.1 : Int) % (N : Int) ∧ (1 : Int) % (N : Int) = ((mU N).2.2.1 : Int) % (N : Int) ∧ (1 : Int) % (N : Int) = ((mU N).2.2.2 : Int) % (N : Int) := ⟨rfl, neg1 n1, rfl, rfl⟩
    refine ⟨_, rfl, _, rfl, 1, rfl, (by show 4 ≤ sizeLine; decide), fun t1 h1 => tn <| map_use n1 n2 C (ep.same (same_new h1)) (mS N) upd_same (by decide) rS fun m1 H2 hm1 s2 e1 => ?_⟩
    have s02 : Same H1 H2 := (same_new (o := .tup [.int 0, .int (-1), .int 1, .int 0]) h1).trans s2
    refine ⟨_, rfl, _, rfl, 1, rfl, (by show 4 ≤ sizeLine; decide), fun t2 h2 => tn <| map_use n1 n2 C (ep.same (s02.trans (same_new h2))) (mU N) upd_same (by decide) rU fun m2 H3 hm2 s3 e2 => ?_⟩
    have s23 : Same H2 H3 := (same_new (o := .tup [.int 0, .int (-1), .int 1, .int 1]) h2).trans s3
    have e1 := e1.same s23
    refine tn <| ⟨(by show 2 ≤ sizeLine; decide), fun Tp hT => ⟨Tp, _, rfl, SqT.of upd_same, rfl, _, _, rfl, _, _, rfl, rfl, ?_⟩⟩
    have s4 := same_new (o := .tup [.ref m1, .ref m2]) hT
    have s04 := (s02.trans s23).trans s4
    have ep := ep.same s04
    have e1 := e1.same s4
    have e2 := e2.same s4
    generalize upd H3 Tp (.tup [.ref m1, .ref m2]) = H4 at s04 ep e1 e2 ⊢
    clear s4 hT s23 s02 hm2 s3 h2 hm1 s2 h1
    show tSeq _ _ _ _ _
    refine asg (show tFixN K 1 2 6 _ H4 _ from fixN_ok (N := N) (by show 6 < 7; decide) (by decide) (by decide) rfl rfl (by rw [mvs_keys]; exact ep) e1 (by rw [mvs_keys]; exact C.nd) lk.1 fun H5 s5 => ?_)
    show tSeq _ _ _ _ _
    refine asg (show tFixN K 1 3 6 _ H5 _ from fixN_ok (N := N) (by show 6 < 7; decide) (by decide) (by decide) rfl rfl (by rw [mvs_keys]; exact ep.same s5) (e2.same s5) (by rw [mvs_keys]; exact C.nd) lk.2 fun H6 s6 => ?_)
    have s56 := s5.trans s6
    obtain ⟨ps, hps, pa⟩ := ep.same s56
    have pl := paired_len pa
    refine ⟨_, rfl, _, rfl, _, rfl, tn <| ⟨_, _, rfl, .inl ⟨_, SqL.of hps, rfl⟩, _, _, rfl, rfl, _, rfl, tn <| orb_use n2 C (e1.same s56) C.S fun p1 H7 ys1 hp1 s7 h7 l7 => tn <| ⟨_, _, rfl, .inl ⟨_, SqL.of h7, rfl⟩, _, _, rfl, rfl, _, rfl, tn <| orb_use n2 C ((e2.same s56).same s7) C.U fun p2 H8 ys2 hp2 s8 h8 l8 => tn <| ⟨_, _, rfl, .inl ⟨_, SqL.of h8, rfl⟩, _, _, rfl, rfl, tn <| ⟨(by show 3 ≤ sizeLine; decide), fun T hT => ?_⟩⟩⟩⟩⟩
    have sx := (s1.trans s04).trans ((s56.trans s7).trans s8)
    refine q T _ (sx.free hT) (sx.trans (same_new hT)) ?_
    rw [upd_same, l7, l8, List.length_map, pl, List.length_map]
theorem lev_in {N : Nat} (n1 : 1 ≤ N) (n2 : N ≤ 360) : within (.int (N : Int)) 1 360 = true := by
  show (decide ((1 : Int) ≤ (N : Int)) && decide ((N : Int) ≤ 360)) = true
  rw [decide_eq_true (by omega), decide_eq_true (by omega)]
  rfl
theorem nat_of {N N' : Nat} (h : V.int (N : Int) = .int (N' : Int)) : N' = N := by
  injection h with h
  omega
section
variable {N : Nat} {H : Hp} {Q : VK} {E : XK} {cL : Addr}
theorem ell_use (n1 : 1 ≤ N) (n2 : N ≤ 360) (q : ∀ (p : Addr) (H' : Hp), H p = none → Same H H' → H' p = some (.tup [.int (sqN N : Int), .int (cbN N : Int)]) → Q (.ref p) H') : sp_elliptic cL [.int (N : Int)] H Q E :=
  ⟨_, rfl, .int _, (fun z => nomatch (lev_in n1 n2).symm.trans z), fun N' e _ _ => by rw [nat_of e]; exact q⟩
theorem cus_use (n1 : 1 ≤ N) (n2 : N ≤ 360) (q : ∀ H', Same H H' → Q (.int (cuN N : Int)) H') : sp_cusp_count cL [.int (N : Int)] H Q E :=
  ⟨_, rfl, .int _, (fun z => nomatch (lev_in n1 n2).symm.trans z), fun N' e _ _ => by rw [nat_of e]; exact q⟩
theorem gen_use (n1 : 1 ≤ N) (n2 : N ≤ 360) (q : ∀ H', Same H H' → Q (.int (gnN N)) H') : sp_genus_of cL [.int (N : Int)] H Q E :=
  ⟨_, rfl, .int _, (fun z => nomatch (lev_in n1 n2).symm.trans z), fun N' e _ _ => by rw [nat_of e]; exact q⟩
theorem rnk_use (n1 : 1 ≤ N) (n2 : N ≤ 360) (q : ∀ H', Same H H' → Q (.int (rkN N)) H') : sp_rank_of cL [.int (N : Int)] H Q E :=
  ⟨_, rfl, .int _, (fun z => nomatch (lev_in n1 n2).symm.trans z), fun N' e _ _ => by rw [nat_of e]; exact q⟩
end
theorem orb_le (L : List (Nat × Nat)) : orbM L ≤ L.length := by
  have key : ∀ (mv : Nat → Nat) (n : Nat) (ks : List Nat) (s : Nat × List Nat), (ks.foldl (orbS mv n) s).1 ≤ s.1 + ks.length := by
    intro mv n ks
    induction ks with
    | nil => exact fun s => Nat.le_refl _
    | cons k ks ih =>
      intro s
      rw [List.foldl_cons, List.length_cons]
      refine Nat.le_trans (ih _) ?_
      unfold orbS
      cases memB s.2 k with
      | true =>
        show s.1 + ks.length ≤ _
        omega
      | false =>
        show s.1 + 1 + ks.length ≤ _
        omega
  have := key (lookB L) (L.map (·.1)).length (L.map (·.1)) (0, [])
  rw [List.length_map, Nat.zero_add] at this
  unfold orbM orb
  rw [List.length_map]
  exact this
theorem mvs_len (N : Nat) (m : Mx) : (mvs N m).length = (pts N).length := List.length_map _
def sp__law_counted_right : Sp := fun vs H Q _ => ∃ N : Nat, vs = [.int (N : Int)] ∧ 1 ≤ N ∧ N ≤ 60 ∧ Cnt N ∧ ∀ H' : Hp, Same H H' → Q (.bl true) H'
theorem ok__law_counted_right (M : Mod P w K mg base) : FnOk P w K mg base CX0 7 M.f__law_counted_right M.d__law_counted_right ["level"] sp__law_counted_right := by
  refine M.F__law_counted_right.ok sc__law_counted_right (fun vs H Q E h => ?_) (fun cdv A outer s H vs Q E hr h => ?_)
  · obtain ⟨N, rfl, _⟩ := h
    rfl
  · obtain ⟨N, rfl, n1, n2, C, q⟩ := h
    have hu : (A.deeper (envOfC (Str.ofString "_law_counted_right") (defScope s__law_counted_right) s.heap.objs.size M.f__law_counted_right cdv)).units + 1 < cLine := by
      have := hu65 hr
      omega
    have hx : ∀ {X : Cx}, Passes (L2.CX X.prog X.w) X (fun _ _ _ => False) := fun {X} => passes_call L2.takes0 (fun _ _ _ _ z => z)
    refine ⟨_, PSs.nox (pss_cons (ps_set (i := 1) sc__law_counted_right.nd rfl (Or.inl rfl) (pe_call (ok__law_points M) (hr.mono (by decide)) rfl M.g__law_points M.k__law_points M.b__law_points .nil pass0 (pa_cons (pv 0) pa_nil)))
      (pss_cons (ps_asg (pe_tup (pa_cons (pe_call (ok__law_map M) (hr.mono (by decide)) rfl M.g__law_map M.k__law_map M.b__law_map .nil pass0 (pa_cons (pv 0) (pa_cons (pv 1) (pa_cons (pe_tup (pa_cons pe_int (pa_cons (pe_un un_neg pe_int) (pa_cons pe_int (pa_cons pe_int pa_nil))))) pa_nil)))) (pa_cons (pe_call (ok__law_map M) (hr.mono (by decide)) rfl M.g__law_map M.k__law_map M.b__law_map .nil pass0 (pa_cons (pv 0) (pa_cons (pv 1) (pa_cons (pe_tup (pa_cons pe_int (pa_cons (pe_un un_neg pe_int) (pa_cons pe_int (pa_cons pe_int pa_nil))))) pa_nil)))) pa_nil))) (pg_tup rfl (pgs_cons (pg_name (i := 2) sc__law_counted_right.nd rfl (Or.inr rfl)) (pgs_cons (pg_name (i := 3) sc__law_counted_right.nd rfl (Or.inr rfl)) pgs_nil))))
      (pss_cons (ps_set (i := 4) sc__law_counted_right.nd rfl (Or.inl rfl) (pe_call (ok__law_orbits M) (hr.mono (by decide)) rfl M.g__law_orbits M.k__law_orbits M.b__law_orbits .nil pass0 (pa_cons (pe_call (ok__law_map M) (hr.mono (by decide)) rfl M.g__law_map M.k__law_map M.b__law_map .nil pass0 (pa_cons (pv 0) (pa_cons (pv 1) (pa_cons (pe_tup (pa_cons pe_int (pa_cons pe_int (pa_cons pe_int (pa_cons pe_int pa_nil))))) pa_nil)))) pa_nil)))
      (pss_cons (ps_set (i := 5) sc__law_counted_right.nd rfl (Or.inl rfl) (pe_callB call_len (by rfl) M.len0 PySem.boot_len (pa_cons (pe_lc (own := [("pair", 10)]) (g := (gName 10)) (by rfl) sc__law_counted_right.nd (pi_list (pv 1)) (blkOk_by (own := [("pair", 10)]) (N := N__law_counted_right) (sc := defScope s__law_counted_right) (by decide +kernel))
        (fun _ _ _ _ _ => (pg_name (i := 10) sc__law_counted_right.nd rfl (Or.inl rfl))) (fun _ _ _ _ _ => (pts_one (pt_cmpR (r := rEqD K) (op_eqD hr.units) (pe_dget hu (pv 2) (pv 10) (fun _ _ => rfl)) (pv 10) (nomark _)))) (fun _ _ _ _ _ => pe_int)) pa_nil)))
      (pss_cons (ps_set (i := 6) sc__law_counted_right.nd rfl (Or.inl rfl) (pe_callB call_len (by rfl) M.len0 PySem.boot_len (pa_cons (pe_lc (own := [("pair", 10)]) (g := (gName 10)) (by rfl) sc__law_counted_right.nd (pi_list (pv 1)) (blkOk_by (own := [("pair", 10)]) (N := N__law_counted_right) (sc := defScope s__law_counted_right) (by decide +kernel))
        (fun _ _ _ _ _ => (pg_name (i := 10) sc__law_counted_right.nd rfl (Or.inl rfl))) (fun _ _ _ _ _ => (pts_one (pt_cmpR (r := rEqD K) (op_eqD hr.units) (pe_dget hu (pv 3) (pv 10) (fun _ _ => rfl)) (pv 10) (nomark _)))) (fun _ _ _ _ _ => pe_int)) pa_nil)))
      (pss_cons (ps_par (i := 7) (j := 8) (by rfl) sc__law_counted_right.nd rfl rfl (by decide) rfl rfl (pa_cons (pe_callB call_len (by rfl) M.len0 PySem.boot_len (pa_cons (pe_call (ok__law_orbits M) (hr.mono (by decide)) rfl M.g__law_orbits M.k__law_orbits M.b__law_orbits .nil pass0 (pa_cons (pv 2) pa_nil)) pa_nil)) (pa_cons (pe_callB call_len (by rfl) M.len0 PySem.boot_len (pa_cons (pe_call (ok__law_orbits M) (hr.mono (by decide)) rfl M.g__law_orbits M.k__law_orbits M.b__law_orbits .nil pass0 (pa_cons (pv 3) pa_nil)) pa_nil)) pa_nil)) (by rfl))
      (pss_cons (ps_set (i := 9) sc__law_counted_right.nd rfl (Or.inl rfl) (pe_op op_add (pe_op op_sub (pe_op op_add (pv 7) (pv 8)) (pe_callB call_len (by rfl) M.len0 PySem.boot_len (pa_cons (pv 1) pa_nil))) (pe_callB call_len (by rfl) M.len0 PySem.boot_len (pa_cons (pv 4) pa_nil))))
      (C8.pss_cut (ps_if (PW.pt (pw_or (pt_cmpR (op_neD hr.units) (pe_call (ok_elliptic M) (hr.mono (by decide)) rfl M.g_elliptic M.k_elliptic M.b_elliptic .nil hx (pa_cons (pv 0) pa_nil)) (pe_tup (pa_cons (pv 5) (pa_cons (pv 6) pa_nil))) (nomark _)) (pw_or (pt_cmpR op_ne (pe_call (ok_cusp_count M) (hr.mono (by decide)) rfl M.g_cusp_count M.k_cusp_count M.b_cusp_count .nil hx (pa_cons (pv 0) pa_nil)) (pe_callB call_len (by rfl) M.len0 PySem.boot_len (pa_cons (pv 4) pa_nil)) (nomark _)) (pw_or1 (pt_cmpR op_ne (pe_op op_mul (pe_call (ok_genus_of M) (hr.mono (by decide)) rfl M.g_genus_of M.k_genus_of M.b_genus_of .nil hx (pa_cons (pv 0) pa_nil)) pe_int) (pe_op op_sub pe_int (pv 9)) (nomark _)))))) 
        (pss_one (ps_ret pe_bl)) pss_nil)
      (pss_one (ps_ret (pe_cmpR op_eq (pe_call (ok_rank_of M) (hr.mono (by decide)) rfl M.g_rank_of M.k_rank_of M.b_rank_of .nil hx (pa_cons (pv 0) pa_nil)) (pe_callB (cr_sumT rfl) (by rfl) M.sum0 (by decide +kernel) (pa_cons (pe_call (ok__law_ranks M) (hr.mono (by decide)) rfl M.g__law_ranks M.k__law_ranks M.b__law_ranks .nil pass0 (pa_cons (pv 0) pa_nil)) pa_nil)) (nomark _)))))))))))), ?_⟩
    refine ⟨_, rfl, tn <| ⟨N, rfl, n1, n2, fun p H1 hp s1 ep => ?_⟩⟩
    have lk : (mvs N (mS N)).length ≤ 5000 ∧ (mvs N (mU N)).length ≤ 5000 := by
      have := pts_len N n2
      unfold mvs
      rw [List.length_map, List.length_map]
      omega
    have rS : (0 : Int) % (N : Int) = ((mS N).1 : Int) % (N : Int) ∧ (-1 : Int) % (N : Int) = ((mS N).2.1 : Int) % (N : Int) ∧ (1 : Int) % (N : Int) = ((mS N).2.2.1 : Int) % (N : Int) ∧ (0 : Int) % (N : Int) = ((mS N).2.2.2 : Int) % (N : Int) := ⟨rfl, neg1 n1, rfl, rfl⟩
    have rU : (0 : Int) % (N : Int) = ((mU N).1 : Int) % (N : Int) ∧ (-1 : Int) % (N : Int) = ((mU N).2.1 : Int) % (N : Int) ∧ (1 : Int) % (N : Int) = ((mU N).2.2.1 : Int) % (N : Int) ∧ (1 : Int) % (N : Int) = ((mU N).2.2.2 : Int) % (N : Int) := ⟨rfl, neg1 n1, rfl, rfl⟩
    have rT : (1 : Int) % (N : Int) = (mT.1 : Int) % (N : Int) ∧ (1 : Int) % (N : Int) = (mT.2.1 : Int) % (N : Int) ∧ (0 : Int) % (N : Int) = (mT.2.2.1 : Int) % (N : Int) ∧ (1 : Int) % (N : Int) = (mT.2.2.2 : Int) % (N : Int) := ⟨rfl, rfl, rfl, rfl⟩
    refine ⟨_, rfl, _, rfl, 1, rfl, (by show 4 ≤ sizeLine; decide), fun t1 h1 => tn <| map_use n1 n2 C (ep.same (same_new h1)) (mS N) upd_same (by decide) rS fun m1 H2 hm1 s2 e1 => ?_⟩
    have s02 : Same H1 H2 := (same_new (o := .tup [.int 0, .int (-1), .int 1, .int 0]) h1).trans s2
    refine ⟨_, rfl, _, rfl, 1, rfl, (by show 4 ≤ sizeLine; decide), fun t2 h2 => tn <| map_use n1 n2 C (ep.same (s02.trans (same_new h2))) (mU N) upd_same (by decide) rU fun m2 H3 hm2 s3 e2 => ?_⟩
    have s23 : Same H2 H3 := (same_new (o := .tup [.int 0, .int (-1), .int 1, .int 1]) h2).trans s3
    have e1 := e1.same s23
    refine tn <| ⟨(by show 2 ≤ sizeLine; decide), fun Tp hT => ⟨Tp, _, rfl, SqT.of upd_same, rfl, _, _, rfl, _, _, rfl, rfl, ?_⟩⟩
    have s4 := same_new (o := .tup [.ref m1, .ref m2]) hT
    have s04 := s1.trans ((s02.trans s23).trans s4)
    have ep := ep.same ((s02.trans s23).trans s4)
    have e1 := e1.same s4
    have e2 := e2.same s4
    generalize upd H3 Tp (.tup [.ref m1, .ref m2]) = H4 at s04 ep e1 e2 ⊢
    clear s4 hT s23 s02 hm2 s3 h2 hm1 s2 h1 s1
    -- turns
    refine ⟨_, rfl, _, rfl, (by show 4 ≤ sizeLine; decide), fun t3 h3 => tn <| map_use n1 n2 C (ep.same (same_new h3)) mT upd_same (by decide) rT fun m3 H5 hm3 s5 e3 => tn <| orb_use n2 C e3 C.T fun p3 H6 xs3 hp3 s6 h6 l6 => ?_⟩
    have s46 : Same H4 H6 := ((same_new (o := .tup [.int 1, .int 1, .int 0, .int 1]) h3).trans s5).trans s6
    have s06 := s04.trans s46
    have ep := ep.same s46
    have e1 := e1.same s46
    have e2 := e2.same s46
    clear s46 s04 s6 hp3 e3 s5 hm3 h3
    -- twos, threes
    show tSeq _ _ _ _ _
    refine asg (show tFixN K 1 2 10 _ H6 _ from fixN_ok (N := N) (by show 10 < 11; decide) (by decide) (by decide) rfl rfl (by rw [mvs_keys]; exact ep) e1 (by rw [mvs_keys]; exact C.nd) lk.1 fun H7 s7 => ?_)
    show tSeq _ _ _ _ _
    refine asg (show tFixN K 1 3 10 _ H7 _ from fixN_ok (N := N) (by show 10 < 11; decide) (by decide) (by decide) rfl rfl (by rw [mvs_keys]; exact ep.same s7) (e2.same s7) (by rw [mvs_keys]; exact C.nd) lk.2 fun H8 s8 => ?_)
    have s68 := s7.trans s8
    have h8 := s68 _ _ h6
    obtain ⟨ps, hps, pa⟩ := ep.same s68
    have pl := paired_len pa
    have e1 := e1.same s68
    have e2 := e2.same s68
    have s08 := s06.trans s68
    clear s68 s06 s7 s8 ep h6
    have g0 : g12 N % 12 = 0 := (prod_ok ⟨N, by omega⟩ n1).2
    have n3 : N ≤ 360 := by omega
    refine ⟨_, rfl, tn <| orb_use n2 C e1 C.S fun p4 H9 ys1 hp4 s9 h9 l9 => tn <| ⟨_, _, rfl, .inl ⟨_, SqL.of h9, rfl⟩, _, rfl, tn <| orb_use n2 C (e2.same s9) C.U fun p5 H10 ys2 hp5 s10 h10 l10 => tn <| ⟨_, _, rfl, .inl ⟨_, SqL.of h10, rfl⟩, tn <| ⟨_, _, rfl, ?_⟩⟩⟩⟩
    have s910 := s9.trans s10
    refine ⟨_, rfl, _, rfl, _, _, rfl, rfl, _, rfl, tn <| ⟨_, _, rfl, .inl ⟨_, SqL.of (s910 _ _ hps), rfl⟩, _, _, rfl, rfl, _, rfl, tn <| ⟨_, _, rfl, .inl ⟨_, SqL.of (s910 _ _ h8), rfl⟩, _, _, rfl, rfl, ?_⟩⟩⟩
    have s010 := s08.trans s910
    refine ⟨fun σ' H' => ∃ r, σ' = some (.int (N : Int)) :: r ∧ Same H H', ?_, ?_⟩
    · refine ⟨_, rfl, tn <| ell_use n1 n3 fun tq H11 htq s11 e11 => ?_⟩
      refine ⟨_, rfl, _, rfl, tn <| ⟨(by show 2 ≤ sizeLine; decide), fun tr htr => ?_⟩⟩
      have s12 := same_new (o := .tup [.int (fixM (mvs N (mS N)) : Int), .int (fixM (mvs N (mU N)) : Int)]) htr
      refine ⟨tupD [(sqN N : Int), (cbN N : Int)], tupD [(fixM (mvs N (mS N)) : Int), (fixM (mvs N (mU N)) : Int)], tup_dp (ns := [_, _]) (s12 _ _ e11), tup_dp (ns := [_, _]) upd_same, tup_shaped _, tup_shaped _, _, rfl, iteF' (by
        rw [two_eqv, C.fS, C.fU]
        simp) ?_⟩
      refine ⟨_, rfl, tn <| cus_use n1 n3 fun H12 s13 => ?_⟩
      have h8' := s13 _ _ (s12 _ _ (s11 _ _ (s910 _ _ h8)))
      refine ⟨_, rfl, tn <| ⟨_, _, rfl, .inl ⟨_, SqL.of h8', rfl⟩, rfl, _, rfl, iteF' (by
        rw [l6, C.oT]
        simp) ?_⟩⟩
      refine ⟨_, rfl, tn <| gen_use n1 n3 fun H13 s14 => ⟨_, _, rfl, rfl, .inr ⟨by decide, by decide⟩, _, rfl, _, _, rfl, rfl, rfl, _, rfl, iteF' ?_ ⟨_, rfl, ?_⟩⟩⟩
      · have key : gnN N * 2 = 2 - ((ys1.length : Int) + (ys2.length : Int) - ((List.map V.ref ps).length : Int) + (xs3.length : Int)) := by
          have := C.eu
          rw [l9, l10, l6, List.length_map, pl, List.length_map]
          unfold gnN
          omega
        show (!decide (V.int (gnN N * 2) = V.int _)) = false
        rw [key]
        simp
      · exact s010.trans (s11.trans (s12.trans (s13.trans s14)))
    · rintro σ H11 ⟨r, rfl, s11⟩
      refine ⟨_, rfl, tn <| rnk_use n1 n3 fun H12 s12 => ?_⟩
      refine ⟨_, rfl, tn <| ⟨N, rfl, n1, n2, C, fun tr H13 htr s13 e13 => tn <| ⟨tr, [_, _, _], rfl, SqT.of e13, (by show 3 ≤ 1000; decide), ?_, rfl, ?_⟩⟩⟩
      · have pb := pts_len N n2
        have b1 := fil_le (fun e : Nat × Nat => Nat.beq e.2 e.1) (mvs N (mS N))
        have b2 := fil_le (fun e : Nat × Nat => Nat.beq e.2 e.1) (mvs N (mU N))
        have b3 := orb_le (mvs N (mS N))
        have b4 := orb_le (mvs N (mU N))
        rw [mvs_len] at b1 b2 b3 b4
        intro x hx
        simp only [List.mem_cons, List.not_mem_nil, or_false] at hx
        rcases hx with rfl | rfl | rfl
        · unfold fixM
          omega
        · unfold fixM
          omega
        · omega
      · have key : rkN N = [(fixM (mvs N (mS N)) : Int), (fixM (mvs N (mU N)) : Int), ((pts N).length : Int) + 1 - (orbM (mvs N (mS N)) : Int) - (orbM (mvs N (mU N)) : Int)].sum := by
          have e1 := C.eu
          have e2 := C.oT
          rw [C.fS, C.fU]
          simp only [List.sum_cons, List.sum_nil]
          unfold rkN gnN
          omega
        show Q (.bl (decide (V.int (rkN N) = V.int _))) H13
        rw [key, decide_eq_true rfl]
        exact q H13 (s11.trans (s12.trans s13))
abbrev tInt5 : TE := tCB (fun xs H Q => (∃ i, xs = [V.int i] ∧ Q (V.int i) H) ∨ ∃ k, xs = [V.bl k] ∧ Q (V.int (if k = true then 1 else 0)) H) (tCons (tVar 5) tNil)
abbrev tMod : TE → Int → TE := fun t m => tOp (rI (fun x j => 0 < j) fun i j => V.int (i % j)) t (tC (V.int m))
abbrev tTw (a b : Int) : TE := tIf (tTest (tOp rEq (tMod tInt5 a) (tC (V.int 1)))) (tC (V.int 2)) (tIf (tAnd (tTest (tOp rEq (tVar 5) (tC (V.int b)))) (tTest (tOp rEq (tVar 6) (tC (V.int 1))))) (tC (V.int 1)) (tC (V.int 0)))
abbrev tCu : TE := tIf (tTest (tOp rEq (tMod (tVar 6) 2) (tC (V.int 1)))) (tOp (rI CMul fun i j => V.int (i * j)) (tC (V.int 2)) (tVar 7)) (tOp (rI CMul fun i j => V.int (i * j)) (tVar 7) (tOp (rI0 fun i j => V.int (i + j)) (tVar 5) (tC (V.int 1))))
theorem modL (p m : Nat) : decide (V.int ((p : Int) % (m : Int)) = V.int 1) = decide (p % m = 1) := by
  rw [← Int.natCast_emod]
  exact dec_n1 _
theorem tw_ok {σ : L2.St} {H : Hp} {Q : VK} {p k : Nat} (a b : Nat) (ha : 0 < a) (h5 : σ[5]? = some (some (.int (p : Int)))) (h6 : σ[6]? = some (some (.int (k : Int)))) (q : Q (.int ((if p % a = 1 then 2 else if p = b ∧ k = 1 then 1 else 0 : Nat) : Int)) H) : tTw (a : Int) (b : Int) σ H Q := by
  refine ⟨_, h5, tn <| .inl ⟨_, rfl, _, _, rfl, rfl, (by show (0 : Int) < (a : Int); omega), rfl, _, rfl, iteB (modL p a) (fun c => ?_) (fun c => ?_)⟩⟩
  · have c := of_decide_eq_false c
    rw [if_neg c] at q
    refine ⟨_, h5, rfl, _, rfl, iteB (dec_nn p b) (fun c2 => ?_) (fun c2 => ?_)⟩
    · have c2 := of_decide_eq_false c2
      rw [if_neg (fun z => c2 z.1)] at q
      exact iteF q
    · have c2 := of_decide_eq_true c2
      refine ⟨_, h6, rfl, _, rfl, ?_⟩
      by_cases c3 : k = 1
      · rw [if_pos ⟨c2, c3⟩] at q
        exact iteT' (by rw [dec_n1]; exact decide_eq_true c3) q
      · rw [if_neg (fun z => c3 z.2)] at q
        exact iteF' (by rw [dec_n1]; exact decide_eq_false c3) q
  · have c := of_decide_eq_true c
    rw [if_pos c] at q
    exact q
theorem cu_ok {σ : L2.St} {H : Hp} {Q : VK} {p k h : Nat} (hp : p ≤ 360) (h5 : σ[5]? = some (some (.int (p : Int)))) (h6 : σ[6]? = some (some (.int (k : Int)))) (h7 : σ[7]? = some (some (.int (h : Int)))) (q : Q (.int ((if k % 2 = 1 then 2 * h else h * (p + 1) : Nat) : Int)) H) : tCu σ H Q := by
  refine ⟨_, h6, _, _, rfl, rfl, (by show (0 : Int) < 2; decide), rfl, _, rfl, iteB (modL k 2) (fun c => ?_) (fun c => ?_)⟩
  · have c := of_decide_eq_false c
    rw [if_neg c] at q
    refine ⟨_, h7, _, h5, _, _, rfl, rfl, _, _, rfl, rfl, .inr ⟨by omega, by omega⟩, ?_⟩
    rw [Int.natCast_mul] at q
    exact q
  · have c := of_decide_eq_true c
    rw [if_pos c] at q
    refine ⟨_, h7, _, _, rfl, rfl, .inl ⟨by decide, by decide⟩, ?_⟩
    rw [Int.natCast_mul] at q
    exact q
def sp__law_product_right : Sp := fun vs H Q _ => ∃ N : Nat, vs = [.int (N : Int)] ∧ 1 ≤ N ∧ N ≤ 360 ∧ ∀ H' : Hp, Same H H' → Q (.bl true) H'
theorem ok__law_product_right (M : Mod P w K mg base) : FnOk P w K mg base CX0 7 M.f__law_product_right M.d__law_product_right ["level"] sp__law_product_right := by
  refine M.F__law_product_right.ok sc__law_product_right (fun vs H Q E h => ?_) (fun cdv A outer s H vs Q E hr h => ?_)
  · obtain ⟨N, rfl, _⟩ := h
    rfl
  · obtain ⟨N, rfl, n1, n2, q⟩ := h
    have hx : ∀ {X : Cx}, Passes (L2.CX X.prog X.w) X (fun _ _ _ => False) := fun {X} => passes_call L2.takes0 (fun _ _ _ _ z => z)
    refine ⟨_, PSs.nox (pss_cons (ps_asg (pe_tup (pa_cons pe_int (pa_cons pe_int (pa_cons pe_int (pa_cons (pe_call (ok__law_primes M) (hr.mono (by decide)) rfl M.g__law_primes M.k__law_primes M.b__law_primes .nil pass0 (pa_cons (pv 0) pa_nil)) pa_nil))))) (pg_tup rfl (pgs_cons (pg_name (i := 1) sc__law_product_right.nd rfl (Or.inl rfl)) (pgs_cons (pg_name (i := 2) sc__law_product_right.nd rfl (Or.inl rfl)) (pgs_cons (pg_name (i := 3) sc__law_product_right.nd rfl (Or.inl rfl)) (pgs_cons (pg_name (i := 4) sc__law_product_right.nd rfl (Or.inl rfl)) pgs_nil))))))
      (pss_cons (ps_for PassesOwn.never rfl (pi_list (pv 4)) (pg_name (i := 5) sc__law_product_right.nd rfl (Or.inl rfl)) 
        (pss_cons (ps_set (i := 6) sc__law_product_right.nd rfl (Or.inl rfl) (pe_call (ok__law_held M) (hr.mono (by decide)) rfl M.g__law_held M.k__law_held M.b__law_held .nil pass0 (pa_cons (pv 0) (pa_cons (pv 5) pa_nil))))
        (pss_cons (ps_set (i := 1) sc__law_product_right.nd rfl (Or.inl rfl) (pe_op op_mul (pv 1) (pe_ifExp (pt_cmpR op_eq (pe_op op_mod (pe_callTy call_int1 (by rfl) M.int0 boot_int (pa_cons (pv 5) pa_nil)) pe_int) pe_int (nomark _)) pe_int (pe_ifExp (PW.pt (pw_and (pt_cmpR op_eq (pv 5) pe_int (nomark _)) (pw_and1 (pt_cmpR op_eq (pv 6) pe_int (nomark _))))) pe_int pe_int))))
        (pss_cons (ps_set (i := 2) sc__law_product_right.nd rfl (Or.inl rfl) (pe_op op_mul (pv 2) (pe_ifExp (pt_cmpR op_eq (pe_op op_mod (pe_callTy call_int1 (by rfl) M.int0 boot_int (pa_cons (pv 5) pa_nil)) pe_int) pe_int (nomark _)) pe_int (pe_ifExp (PW.pt (pw_and (pt_cmpR op_eq (pv 5) pe_int (nomark _)) (pw_and1 (pt_cmpR op_eq (pv 6) pe_int (nomark _))))) pe_int pe_int))))
        (pss_cons (ps_set (i := 7) sc__law_product_right.nd rfl (Or.inl rfl) (pe_call (ok__law_power M) (hr.mono (by decide)) rfl M.g__law_power M.k__law_power M.b__law_power .nil pass0 (pa_cons (pv 5) (pa_cons (pe_op op_fdiv (pe_op op_sub (pv 6) pe_int) pe_int) pa_nil))))
        (pss_one (ps_set (i := 3) sc__law_product_right.nd rfl (Or.inl rfl) (pe_op op_mul (pv 3) (pe_ifExp (pt_cmpR op_eq (pe_op op_mod (pv 6) pe_int) pe_int (nomark _)) (pe_op op_mul pe_int (pv 7)) (pe_op op_mul (pv 7) (pe_op op_add (pv 5) pe_int)))))))))))
      (pss_cons (ps_set (i := 8) sc__law_product_right.nd rfl (Or.inl rfl) (pe_op op_sub (pe_op op_sub (pe_op op_sub (pe_op op_add pe_int (pe_call (ok__law_index M) (hr.mono (by decide)) rfl M.g__law_index M.k__law_index M.b__law_index .nil pass0 (pa_cons (pv 0) pa_nil))) (pe_op op_mul pe_int (pv 1))) (pe_op op_mul pe_int (pv 2))) (pe_op op_mul pe_int (pv 3))))
      (C8.pss_cut (ps_if (PW.pt (pw_or (pt_cmpR (op_neD hr.units) (pe_callK0 (ok_elliptic M) (hr.mono (by decide)) rfl M.g_elliptic M.k_elliptic M.h_elliptic hx (pk_cons (pv 0) pk_nil)) (pe_tup (pa_cons (pv 1) (pa_cons (pv 2) pa_nil))) (nomark _)) (pw_or1 (pt_cmpR op_ne (pe_callK0 (ok_cusp_count M) (hr.mono (by decide)) rfl M.g_cusp_count M.k_cusp_count M.h_cusp_count hx (pk_cons (pv 0) pk_nil)) (pv 3) (nomark _))))) 
        (pss_one (ps_ret pe_bl)) pss_nil)
      (C8.pss_cut (ps_if (PW.pt (pw_or (pt_cmpR op_ne (pe_op op_mul pe_int (pe_callK0 (ok_genus_of M) (hr.mono (by decide)) rfl M.g_genus_of M.k_genus_of M.h_genus_of hx (pk_cons (pv 0) pk_nil))) (pv 8) (nomark _)) (pw_or1 (pt_cmpR op_ne (pe_call (ok_genus_of M) (hr.mono (by decide)) rfl M.g_genus_of M.k_genus_of M.b_genus_of .nil hx (pa_cons (pv 0) pa_nil)) (pe_callK0 (ok_genus_of M) (hr.mono (by decide)) rfl M.g_genus_of M.k_genus_of M.h_genus_of hx (pk_cons (pv 0) pk_nil)) (nomark _))))) 
        (pss_one (ps_ret pe_bl)) pss_nil)
      (pss_one (ps_ret (pe_cmpR op_eq (pe_callK0 (ok_rank_of M) (hr.mono (by decide)) rfl M.g_rank_of M.k_rank_of M.h_rank_of hx (pk_cons (pv 0) pk_nil)) (pe_op op_sub (pe_op op_add (pe_op op_add (pe_op op_add (pv 1) (pv 2)) (pe_op op_fdiv (pv 8) pe_int)) (pv 3)) pe_int) (nomark _))))))))), ?_⟩
    have d2 : ∀ d ∈ lpr N, 2 ≤ d ∧ d ≤ 360 ∧ 1 ≤ held N N d ∧ held N N d ≤ 9 ∧ tc d (held N N d) < 2 ^ 40 := fun d hd => by
      have h1 := lpr_b hd
      have h2 := List.all_eq_true.mp (tc_ok ⟨N, by omega⟩ n1) d hd
      unfold tcb at h2
      simp only [Bool.and_eq_true, decide_eq_true_eq] at h2
      exact ⟨h1.1, by omega, h2.1.1, h2.1.2, h2.2⟩
    refine ⟨_, rfl, tn <| ⟨N, rfl, n1, n2, fun p H1 hp s1 e1 => tn <| ⟨(by show 4 ≤ sizeLine; decide), fun Tp hT => ⟨Tp, _, rfl, SqT.of upd_same, rfl, _, _, rfl, _, _, rfl, _, _, rfl, _, _, rfl, rfl, ?_⟩⟩⟩⟩
    have s12 := same_new (o := .tup [.int 1, .int 1, .int 1, .ref p]) hT
    have e2 := s12 _ _ e1
    have s02 := s1.trans s12
    generalize upd H1 Tp (.tup [.int 1, .int 1, .int 1, .ref p]) = H2 at s02 e2 ⊢
    clear s12 hT e1 s1
    obtain ⟨S, eS⟩ : ∃ S : Nat → T3, S = fun i => ((lpr N).take i).foldl (stepP N) (1, 1, 1) := ⟨_, rfl⟩
    refine ⟨_, rfl, p, rfl, ⟨_, SqL.of e2⟩, for_list (K := K) (a := p) (xs := nV (lpr N)) (fun i σ H' => ∃ x5 x6 x7, σ = [some (.int (N : Int)), some (.int ((S i).1 : Int)), some (.int ((S i).2.1 : Int)), some (.int ((S i).2.2 : Int)), some (.ref p), x5, x6, x7, none] ∧ H' = H2) ⟨_, _, _, by rw [eS]; rfl, rfl⟩ (fun i σ H' _ ⟨_, _, _, _, z⟩ => by rw [z]; exact SqL.of e2) ?_ ?_⟩
    · rintro i x σ H3 hx ⟨x5, x6, x7, rfl, rfl⟩
      obtain ⟨d, hd, rfl⟩ := nV_at hx
      obtain ⟨d1, d2, k1, k9, ct⟩ := d2 d (List.mem_of_getElem? hd)
      obtain ⟨k, ek⟩ : ∃ k, k = held N N d := ⟨_, rfl⟩
      rw [← ek] at k1 k9 ct
      have eN : S (i + 1) = ((S i).1 * t2 d k, (S i).2.1 * t3 d k, (S i).2.2 * tc d k) := by
        rw [eS, ek]
        show ((lpr N).take (i + 1)).foldl (stepP N) (1, 1, 1) = _
        rw [take_nx hd, List.foldl_append]
        rfl
      refine ⟨_, rfl, _, rfl, tn <| ⟨N, d, rfl, n1, n2, d1, d2, ?_⟩⟩
      rw [← ek]
      refine ⟨_, rfl, tw_ok (p := d) (k := k) 4 2 (by decide) rfl rfl ⟨_, _, rfl, rfl, .inr ⟨?_, ?_⟩, ?_⟩⟩
      · omega
      · show (((if d % 4 = 1 then 2 else if d = 2 ∧ k = 1 then 1 else 0 : Nat)) : Int) < 2 ^ 64
        have : (if d % 4 = 1 then 2 else if d = 2 ∧ k = 1 then 1 else 0 : Nat) ≤ 2 := by
          split
          · decide
          · split <;> decide
        omega
      refine ⟨_, rfl, tw_ok (p := d) (k := k) 3 3 (by decide) rfl rfl ⟨_, _, rfl, rfl, .inr ⟨?_, ?_⟩, ?_⟩⟩
      · omega
      · show (((if d % 3 = 1 then 2 else if d = 3 ∧ k = 1 then 1 else 0 : Nat)) : Int) < 2 ^ 64
        have : (if d % 3 = 1 then 2 else if d = 3 ∧ k = 1 then 1 else 0 : Nat) ≤ 2 := by
          split
          · decide
          · split <;> decide
        omega
      have ehalf : (((k : Int) - 1) / 2) = (((k - 1) / 2 : Nat) : Int) := by omega
      refine ⟨_, rfl, _, rfl, _, _, rfl, rfl, _, _, rfl, rfl, ⟨by decide, by decide⟩, tn <| ⟨d, (k - 1) / 2, ?_, by omega, by omega, ?_⟩⟩
      · show [V.int (d : Int), V.int (((k : Int) - 1) / 2)] = _
        rw [ehalf]
      refine ⟨_, rfl, cu_ok (p := d) (k := k) (h := d ^ ((k - 1) / 2)) d2 rfl rfl rfl ⟨_, _, rfl, rfl, .inr ⟨?_, ?_⟩, some (.int (d : Int)), some (.int (k : Int)), some (.int ((d ^ ((k - 1) / 2) : Nat) : Int)), ?_, rfl⟩⟩
      · omega
      · show ((tc d k : Nat) : Int) < 2 ^ 64
        omega
      · rw [eN]
        show [_, some (V.int (((S i).1 : Int) * ((t2 d k : Nat) : Int))), some (V.int (((S i).2.1 : Int) * ((t3 d k : Nat) : Int))), some (V.int (((S i).2.2 : Int) * ((tc d k : Nat) : Int))), _, _, _, _, _] = _
        rw [← Int.natCast_mul, ← Int.natCast_mul, ← Int.natCast_mul]
    · rintro σ H3 ⟨x5, x6, x7, rfl, rfl⟩
      obtain ⟨pO, g0⟩ := prod_ok ⟨N, by omega⟩ n1
      have pO : prod N = (sqN N, cbN N, cuN N) := pO
      have g0 : g12 N % 12 = 0 := g0
      have eP : S (nV (lpr N)).length = (sqN N, cbN N, cuN N) := by
        rw [← pO, eS, nV_len]
        show ((lpr N).take (lpr N).length).foldl (stepP N) (1, 1, 1) = _
        rw [List.take_length]
        rfl
      rw [eP]
      have g3 : ∀ z : Int, CMul 3 z := fun z => .inl ⟨by decide, by decide⟩
      refine ⟨_, rfl, tn <| ⟨N, rfl, n1, n2, fun H4 s4 => ⟨_, _, rfl, rfl, _, rfl, _, _, rfl, rfl, .inl ⟨by decide, by decide⟩, _, _, rfl, rfl, _, rfl, _, _, rfl, rfl, .inl ⟨by decide, by decide⟩, _, _, rfl, rfl, _, rfl, _, _, rfl, rfl, .inl ⟨by decide, by decide⟩, _, _, rfl, rfl, ?_⟩⟩⟩
      have s04 := s02.trans s4
      refine ⟨fun σ' H' => σ' = [some (.int (N : Int)), some (.int (sqN N : Int)), some (.int (cbN N : Int)), some (.int (cuN N : Int)), some (.ref p), x5, x6, x7, some (.int (g12 N))] ∧ Same H H', ?_, ?_⟩
      · refine ⟨_, rfl, tn <| ell_use n1 n2 fun tq H5 htq s5 e5 => ⟨_, rfl, _, rfl, tn <| ⟨(by show 2 ≤ sizeLine; decide), fun tr htr => ?_⟩⟩⟩
        have s6 := same_new (o := .tup [.int (sqN N : Int), .int (cbN N : Int)]) htr
        refine ⟨tupD [(sqN N : Int), (cbN N : Int)], tupD [(sqN N : Int), (cbN N : Int)], tup_dp (ns := [_, _]) (s6 _ _ e5), tup_dp (ns := [_, _]) upd_same, tup_shaped _, tup_shaped _, _, rfl, iteF' (by
          rw [two_eqv]
          simp) ?_⟩
        exact ⟨_, rfl, tn <| cus_use n1 n2 fun H6 s7 => ⟨_, rfl, rfl, _, rfl, iteF' (by simp) ⟨rfl, s04.trans (s5.trans (s6.trans s7))⟩⟩⟩
      · rintro σ H5 ⟨rfl, s5⟩
        have key : (12 : Int) * gnN N = g12 N := by
          unfold gnN
          omega
        refine ⟨fun σ' H' => σ' = [some (.int (N : Int)), some (.int (sqN N : Int)), some (.int (cbN N : Int)), some (.int (cuN N : Int)), some (.ref p), x5, x6, x7, some (.int (g12 N))] ∧ Same H H', ?_, ?_⟩
        · exact ⟨_, rfl, tn <| gen_use n1 n2 fun H6 s6 => ⟨_, _, rfl, rfl, .inl ⟨by decide, by decide⟩, _, rfl, rfl, _, rfl, iteF' (by
            show (!decide (V.int (12 * gnN N) = V.int (g12 N))) = false
            rw [key]
            simp) ⟨_, rfl, tn <| gen_use n1 n2 fun H7 s7 => ⟨_, rfl, tn <| gen_use n1 n2 fun H8 s8 => ⟨rfl, _, rfl, iteF' (by simp) ⟨rfl, s5.trans (s6.trans (s7.trans s8))⟩⟩⟩⟩⟩⟩
        · rintro σ H6 ⟨rfl, s6⟩
          refine ⟨_, rfl, tn <| rnk_use n1 n2 fun H7 s7 => ⟨_, rfl, _, rfl, _, _, rfl, rfl, _, rfl, _, _, rfl, rfl, ⟨by decide, by decide⟩, _, _, rfl, rfl, _, rfl, _, _, rfl, rfl, _, _, rfl, rfl, rfl, ?_⟩⟩
          have k2 : rkN N = (sqN N : Int) + (cbN N : Int) + g12 N / 6 + (cuN N : Int) - 1 := by
            unfold rkN gnN
            omega
          show Q (.bl (decide (V.int (rkN N) = V.int ((sqN N : Int) + (cbN N : Int) + g12 N / 6 + (cuN N : Int) - 1)))) H7
          rw [k2, decide_eq_true rfl]
          exact q H7 (s6.trans s7)

end
end K13

set_option Elab.async false
set_option linter.all false
set_option maxRecDepth 100000
set_option maxHeartbeats 4000000
set_option pp.maxSteps 3000
/-! kept lambdas that all raise one class of errors -/
namespace Gn
open PySem PySem.Spec PyProof.Rows L2 Dr Xv LamX Ps
/-- steps that keep what is ok to be kept -/
structure StepR (R : Hp → Hp → Prop) (ok : Addr → Prop) : Prop where
  tr : ∀ {H H1 H2}, R H H1 → R H1 H2 → R H H2
  of : ∀ {H H1}, Same H H1 → R H H1
  keep : ∀ {H H1 a o}, R H H1 → H a = some o → ok a → H1 a = some o
theorem StepR.same : StepR Same (fun _ => True) := ⟨fun a b => a.trans b, id, fun s e _ => s _ _ e⟩
/-- a lambda that raises C, from here on -/
def Rais (R : Hp → Hp → Prop) (ok : Addr → Prop) (X : Cx) (k : Nat) (C : Addr) (σ0 : L2.St) (H : Hp) (f : Addr) : Prop := ∃ t, (∃ (ob : Obj) (cA : Addr), ok f ∧ ok cA ∧ H f = some (LamZ f ob) ∧ H cA = some (CodeO cA (X.env.qual ++ "<lambda>")) ∧ LamIs X k t ob cA) ∧
  ∀ (E : XK) (H' : Hp) (Q : VK), R H H' → (∀ H'', R H' H'' → E (.ref C) none H'') → t E σ0 H' Q
theorem Rais.step {R : Hp → Hp → Prop} {ok : Addr → Prop} {X : Cx} {k : Nat} {C f : Addr} {σ0 : L2.St} {H H1 : Hp} (S : StepR R ok) (h : Rais R ok X k C σ0 H f) (r : R H H1) : Rais R ok X k C σ0 H1 f := by
  obtain ⟨t, ⟨ob, cA, o1, o2, h1, h2, h3⟩, g⟩ := h
  exact ⟨t, ⟨ob, cA, o1, o2, S.keep r h1 o1, S.keep r h2 o2, h3⟩, fun E H' Q r' => g E H' Q (S.tr r r')⟩
theorem works_all {R : Hp → Hp → Prop} {ok : Addr → Prop} {K : PySem.W.Frag} {X : Cx} {k j iw : Nat} {σ : L2.St} {H : Hp} {Q : VK} {W C CS : Addr} {fs : List Addr} {te : L2.St → TE} (S : StepR R ok) (hj : σ[j]? = some (some (.ref W))) (hjw : j ≠ iw) (hiw : iw < σ.length) (hW : H W = some (.lst (fs.map V.ref))) (oW : ok W) (oN : ∀ D, H D = none → ok D)
    (all : ∀ f ∈ fs, Rais R ok X k C σ H f) (em : PySem.W.exmOne K (.ref C) (.ref CS) = some true) (ec : ExcC K C) (ki : PySem.W.kitOne K (.ref C) (.ref C) = some true)
    (q : ∀ D H', H D = none → R H H' → H' D = some (.lst []) → Q (.ref D) H') :
    tLcK (iList K (tVar j)) (gName iw) (fun σ0 => tNot (tB (tCB (rIsC K) (tCons (tKept X k (TCaught K CS) iw σ0) (tCons (tC (.ref C)) tNil))))) te [iw] σ H Q := by
  refine ⟨_, hj, W, rfl, ⟨_, SqL.of hW⟩, fun D hD => ?_⟩
  have nWD : W ≠ D := ne_of_none hW hD
  refine lc_list (K := K) (a := W) (xs := fs.map V.ref) (fun i H' => H' D = some (.lst []) ∧ R H H') ⟨upd_same, S.of (same_new hD)⟩ (fun i H' _ h => SqL.of (S.keep h.2 hW oW)) ?_ (fun H' h => q D H' hD h.2 h.1)
  rintro i x H1 hx ⟨h1, r1⟩
  rw [List.getElem?_map] at hx
  cases hf : fs[i]? with
  | none =>
    rw [hf] at hx
    cases hx
  | some f =>
    rw [hf] at hx
    obtain rfl : V.ref f = x := Option.some.inj hx
    obtain ⟨t, ⟨ob, cA, o1, o2, g1, g2, g3⟩, rz⟩ := (all f (List.mem_of_getElem? hf)).step S r1
    have rz0 := fun E Q => rz E H1 Q (S.of same_rfl)
    have e1 : ((wipe σ [iw]).set iw (some (.ref f)))[iw]? = some (some (.ref f)) := by
      show ((σ.set iw none).set iw (some (.ref f)))[iw]? = _
      rw [List.getElem?_set_self (by rw [List.length_set]; exact hiw)]
    have e2 : wipe ((wipe σ [iw]).set iw (some (.ref f))) [iw] = wipe σ [iw] := by
      show (((σ.set iw none).set iw (some (.ref f))).set iw none) = σ.set iw none
      rw [List.set_set, List.set_set]
    refine ⟨e2, f, t, e1, ⟨ob, cA, g1, g2, g3⟩, ?_⟩
    refine rz0 _ _ fun H2 r2 => ⟨em, fun a ha => ?_⟩
    have r3 : R H2 (upd H2 a (ErX (.ref C) none a)) := S.of (same_new ha)
    refine ⟨a, C, none, _, _, true, rfl, .inl ⟨rfl, upd_same⟩, ec, (fun u r => r), ki, _, rfl, iteF' rfl ⟨?_, S.tr r1 (S.tr r2 r3)⟩⟩
    exact S.keep (S.tr r2 r3) h1 (oN D hD)
theorem lam_put {H : Hp} {X : Cx} {k : Nat} {f W : Addr} {t : XK → TE} {xs : List V} {o : HO} (h : LamAt H X k f t) (e : H W = some (.lst xs)) : LamAt (upd H W o) X k f t := by
  obtain ⟨ob, cA, h1, h2, h3⟩ := h
  refine ⟨ob, cA, ?_, ?_, h3⟩
  · rw [upd_ne (ne_of h1 e (fun z => by unfold LamZ at z; cases z))]
    exact h1
  · rw [upd_ne (ne_of h2 e (fun z => by unfold CodeO at z; cases z))]
    exact h2
theorem Rais.made {R : Hp → Hp → Prop} {X : Cx} {k : Nat} {C f : Addr} {σ0 : L2.St} {H : Hp} {t : XK → TE} (h : LamAt H X k f t) (g : ∀ (E : XK) (H' : Hp) (Q : VK), R H H' → (∀ H'', R H' H'' → E (.ref C) none H'') → t E σ0 H' Q) : Rais R (fun _ => True) X k C σ0 H f := by
  obtain ⟨ob, cA, h1, h2, h3⟩ := h
  exact ⟨t, ⟨ob, cA, trivial, trivial, h1, h2, h3⟩, g⟩
theorem ifne {K : PySem.W.Frag} {te tl : TE} {a b : TS} {D : Ends} {σ : L2.St} {H : Hp} (h : te σ H fun x H1 => tl σ H1 fun y H2 => rNeD K x y H2 fun z H3 => ∃ k, z = .bl k ∧ (if k = true then a D σ H3 else b D σ H3)) : tIfS (tTest (tOp (rNeD K) te tl)) a b D σ H := h
theorem pv_ext {H H' : Hp} {v : V} (h : PV H v) (e : ExtN H H') : PV H' v := by
  cases h with
  | non => exact .non
  | bl b => exact .bl b
  | int i => exact .int i
  | str x => exact .str x
  | lst q => exact .lst (e _ _ q (fun _ z => nomatch z))
  | tup q => exact .tup (e _ _ q (fun _ z => nomatch z))
  | dK q => exact .dK (e _ _ q (fun _ z => nomatch z))
/-- an extension of H, then a list that H did not have is written -/
theorem ext_put {H H1 : Hp} {W : Addr} {o : HO} (e : ExtN H H1) (n : ∀ o, H W = some o → ∃ ps, o = .tbl ps) : ExtN H (upd H1 W o) := fun b ob h nt => by
  by_cases c : b = W
  · rw [c] at h
    obtain ⟨ps, q⟩ := n _ h
    exact absurd q (nt ps)
  · rw [upd_ne c]
    exact e b ob h nt
theorem new_put {H H1 : Hp} {W : Addr} (e : ExtN H H1) (hW : H1 W = none) : ∀ o, H W = some o → ∃ ps, o = .tbl ps := fun o h => by
  by_cases c : ∃ ps, o = .tbl ps
  · exact c
  · have := e _ _ h fun ps z => c ⟨ps, z⟩
    rw [hW] at this
    cases this
end Gn

set_option Elab.async false
set_option linter.all false
set_option maxRecDepth 100000
set_option maxHeartbeats 4000000
set_option pp.maxSteps 3000
set_option exponentiation.threshold 500000
namespace K13
open PySem PySem.Spec PyProof.Rows L2 Dr Xv LamX Ps Gn Gp
section
variable {P : Program} {w : World} {K : PySem.W.Frag} {mg : Str → Option Value} {base : Heap}
abbrev XL (P : Program) (w : World) (K : PySem.W.Frag) (mg : Str → Option Value) (base : Heap) (f c : Addr) (A : Around) (outer : List Env) (s : Shared) (H : Hp) (E : XK) : Cx := (cxOf CX0 P w K mg base N_law "law" (defScope s_law) f (.ref c) A outer s H E).nox
/-- _law_caught(lambda: body) -/
theorem pe_law {f c Pt : Addr} {A : Around} {outer : List Env} {s : Shared} {H : Hp} {E : XK} {body : Expr} {scope : Scope} {t : XK → TE} {k : Nat} {p lpos pos : Pos} (M : Mod P w K mg base) (TB : TabB base mg c Pt) (hr : Room (k + 2) (XL P w K mg base f c A outer s H E).A) (L : lamSB (defScope s_law) scope = true)
    (hg : Gl (XL P w K mg base f c A outer s H E) "_law_caught")
    (hbody : ∀ (A' : Around) (outer' : List Env) (s' : Shared) (H' : Hp) (E' : XK) (f' c' : Addr), Room k (A'.deeper (lamEnv (XL P w K mg base f c A outer s H E) scope s'.heap.objs.size f' c')) → PE (lamCx (XL P w K mg base f c A outer s H E) A' outer' s' H' E' scope f' c') body (t E')) :
    PE (XL P w K mg base f c A outer s H E) (.Call (.Name "_law_caught" p) [.Lambda noArgs body scope lpos] [] pos) (tLam [(Pt, qL)] (TCaught K M.a_SeriesError) t) := by
  obtain ⟨oc, od, dV, kV, doc, pm, an, cdv, ct, osl, e, lk, hcd, hD, hK⟩ := M.F__law_caught.ex
  have bC : L2.Binds K M.d__law_caught ["work"] [] := M.b__law_caught
  rw [e] at lk bC
  exact pe_lamcall (X := XL P w K mg base f c A outer s H E) (T := [(Pt, qL)]) (a := "work") hg M.g__law_caught M.k__law_caught lk hcd bC sc__law_caught rfl (Or.inl rfl)
    (caught_gives sc__law_caught rfl rfl rfl rfl M.g_SeriesError) TB rfl (List.mem_singleton.mpr rfl) (fun p hp _ => by rw [List.mem_singleton.mp hp]; rfl) hr (lamS_by L) rfl (fun _ _ _ _ _ => rfl) hbody

/-- lambda: body, kept -/
theorem pe_lamL {f c Pt : Addr} {A : Around} {outer : List Env} {s : Shared} {H : Hp} {E : XK} {body : Expr} {scope : Scope} {t : XK → TE} {k : Nat} {lpos : Pos} (M : Mod P w K mg base) (TB : TabB base mg c Pt) (L : lamSB (defScope s_law) scope = true)
    (hbody : ∀ (A' : Around) (outer' : List Env) (s' : Shared) (H' : Hp) (E' : XK) (f' c' : Addr), Room k (A'.deeper (lamEnv (XL P w K mg base f c A outer s H E) scope s'.heap.objs.size f' c')) → PE (lamCx (XL P w K mg base f c A outer s H E) A' outer' s' H' E' scope f' c') body (t E')) :
    PE (XL P w K mg base f c A outer s H E) (.Lambda noArgs body scope lpos) (tLamV (XL P w K mg base f c A outer s H E) [(Pt, qL)] k t) :=
  pe_lamv TB rfl (List.mem_singleton.mpr rfl) (fun p hp _ => by rw [List.mem_singleton.mp hp]; rfl) (lamS_by L) rfl (fun _ _ _ _ _ => rfl) hbody
/-- _law_caught(work), in a comprehension -/
theorem pe_keptL {f c : Addr} {A : Around} {outer : List Env} {s : Shared} {H : Hp} {E : XK} {pins : List (Addr × Obj)} {σ : L2.St} {s' : Shared} {H' : Hp} {bs : Scope} {C : Addr} {cl : List (Str × Addr)} {fp : List Addr} {iw k : Nat} {wn : Str} {p pw pos : Pos} (M : Mod P w K mg base) (hr : Room (k + 2) (XL P w K mg base f c A outer s H E).A)
    (I : L2.Inv (XL P w K mg base f c A outer s H E) pins σ H' s') (fo : ∀ b ∈ fp, FpOk (XL P w K mg base f c A outer s H E) pins H' b ∧ b < s'.heap.objs.size) (hg : Gl ((XL P w K mg base f c A outer s H E).blk s' H' bs (compEnvC bs cl C (XL P w K mg base f c A outer s H E).env) fp) "_law_caught")
    (hN : (XL P w K mg base f c A outer s H E).N[iw]? = some wn) (hv : Vis (compEnvC bs cl C (XL P w K mg base f c A outer s H E).env).scope wn) (hw1 : (wn == ("__debug__" : Str)) = false := by decide) (hw2 : (wn == ("__classdict__" : Str)) = false := by decide) :
    PE ((XL P w K mg base f c A outer s H E).blk s' H' bs (compEnvC bs cl C (XL P w K mg base f c A outer s H E).env) fp) (.Call (.Name "_law_caught" p) [.Name wn pw] [] pos) (tKept (XL P w K mg base f c A outer s H E) k (TCaught K M.a_SeriesError) iw σ) := by
  obtain ⟨oc, od, dV, kV, doc, pm, an, cdv, ct, osl, e, lk, hcd, hD, hK⟩ := M.F__law_caught.ex
  have bC : L2.Binds K M.d__law_caught ["work"] [] := M.b__law_caught
  rw [e] at lk bC
  exact pe_kept (a := "work") M.g__law_caught M.k__law_caught lk hcd bC sc__law_caught rfl (Or.inl rfl) (caught_gives sc__law_caught rfl rfl rfl rfl M.g_SeriesError) hr I fo hg hN hv hw1 hw2

end
def forBody : Stmt → List Stmt
  | .For _ _ b _ _ => b
  | _ => []
abbrev lapB : List Stmt := forBody ((defBody s_law).getD 1 (.Pass ⟨0, 0, 0, 0⟩))
abbrev tailB : List Stmt := (defBody s_law).drop 2
def Slots (a d : Addr) (σ : L2.St) : Prop := ∃ x2 x3 x4 x5 x6 x7 : Option V, σ = [some (.ref a), some (.ref d), x2, x3, x4, x5, x6, x7]
section
variable {P : Program} {w : World} {K : PySem.W.Frag} {mg : Str → Option Value} {base : Heap} {f c Pt : Addr} {A : Around} {outer : List Env} {s : Shared} {H : Hp} {E : XK}
theorem lap_ok (M : Mod P w K mg base) (TB : TabB base mg c Pt) (hr : Room 9 (XL P w K mg base f c A outer s H E).A) :
    ∃ t, PSs (XL P w K mg base f c A outer s H E) lapB t ∧ ∀ (D : Ends) (σ : L2.St) (H0 : Hp) (os : List (Addr × HO)) (ra d l cc : Addr), Slots ra d σ → Sta Pt H0 d l cc os → (∀ σ' H', Slots ra d σ' → Sta Pt H' d l cc os → D.nx σ' H') → t D σ H0 := by
  have hrL : Room 9 (XL P w K mg base f c A outer s H E).A := hr
  have hu := hu_of hr
  have hx : ∀ {X : Cx}, Passes (L2.CX X.prog X.w) X (fun _ _ _ => False) := fun {X} => passes_call L2.takes0 (fun _ _ _ _ z => z)
  refine ⟨_, (pss_cons (ps_set (i := 3) sc_law.nd rfl (Or.inl rfl) (pe_call (ok__law_level M) (hr.mono (by decide)) rfl M.g__law_level M.k__law_level M.b__law_level .nil pass0 (pa_cons (pv 1) (pa_cons (pe_call (ok__law_pick M) (hr.mono (by decide)) rfl M.g__law_pick M.k__law_pick M.b__law_pick .nil pass0 (pa_cons (pv 1) (pa_cons (pe_lst (pa_cons pe_int (pa_cons pe_int (pa_cons pe_int pa_nil)))) pa_nil))) pa_nil))))
      (C8.pss_cut (ps_if (PW.pt (pw_or (pt_not (pt_val (pe_call (ok__law_counted_right M) (hr.mono (by decide)) rfl M.g__law_counted_right M.k__law_counted_right M.b__law_counted_right .nil pass0 (pa_cons (pv 3) pa_nil)))) (pw_or1 (pt_not (pt_val (pe_call (ok__law_product_right M) (hr.mono (by decide)) rfl M.g__law_product_right M.k__law_product_right M.b__law_product_right .nil pass0 (pa_cons (pv 3) pa_nil))))))) 
        (pss_one (ps_ret pe_bl)) pss_nil)
      (pss_cons (ps_for PassesOwn.never rfl (pi_range1 (by rfl) M.range0 (pa_cons pe_int pa_nil)) (pg_name (i := 4) sc_law.nd rfl (Or.inl rfl)) 
        (pss_one (ps_if (pt_not (pt_val (pe_call (ok__law_product_right M) (hr.mono (by decide)) rfl M.g__law_product_right M.k__law_product_right M.b__law_product_right .nil pass0 (pa_cons (pe_call (ok__law_level M) (hr.mono (by decide)) rfl M.g__law_level M.k__law_level M.b__law_level .nil pass0 (pa_cons (pv 1) (pa_cons pe_int pa_nil))) pa_nil)))) 
          (pss_one (ps_ret pe_bl)) pss_nil)))
      (pss_cons (ps_set (i := 5) sc_law.nd rfl (Or.inr rfl) (pe_call (ok__law_bad_level M) (hr.mono (by decide)) rfl M.g__law_bad_level M.k__law_bad_level M.b__law_bad_level .nil pass0 (pa_cons (pv 1) pa_nil)))
      (pss_cons (ps_set (i := 6) sc_law.nd rfl (Or.inl rfl) (pe_lst (pa_cons (pe_lamL (k := 7) (t := fun E' => (tCall (sp_elliptic M.a_BadLevel) [] E' (tCons (tVar 5) tNil))) M TB (by decide +kernel)
          (fun A' outer' s' H' E' f' c' hr' => (pe_call (ok_elliptic M) (hr'.mono (by decide)) rfl M.g_elliptic M.k_elliptic M.b_elliptic .nil (passes_call (takes_of rfl rfl rfl rfl) (fun _ _ _ _ h => h)) (pa_cons (pv 5) pa_nil)))) pa_nil)))
      (pss_cons (ps_expr (pe_bm PySem.F.plainAttrs_list PySem.F.slot_list_append PySem.F.type_list_append mt_append (pv 6) (pa_cons (pe_lamL (k := 7) (t := fun E' => (tCall (sp_cusp_count M.a_BadLevel) [] E' (tCons (tVar 5) tNil))) M TB (by decide +kernel)
          (fun A' outer' s' H' E' f' c' hr' => (pe_call (ok_cusp_count M) (hr'.mono (by decide)) rfl M.g_cusp_count M.k_cusp_count M.b_cusp_count .nil (passes_call (takes_of rfl rfl rfl rfl) (fun _ _ _ _ h => h)) (pa_cons (pv 5) pa_nil)))) pa_nil)))
      (pss_cons (ps_expr (pe_bm PySem.F.plainAttrs_list PySem.F.slot_list_append PySem.F.type_list_append mt_append (pv 6) (pa_cons (pe_lamL (k := 7) (t := fun E' => (tCall (sp_genus_of M.a_BadLevel) [] E' (tCons (tVar 5) tNil))) M TB (by decide +kernel)
          (fun A' outer' s' H' E' f' c' hr' => (pe_call (ok_genus_of M) (hr'.mono (by decide)) rfl M.g_genus_of M.k_genus_of M.b_genus_of .nil (passes_call (takes_of rfl rfl rfl rfl) (fun _ _ _ _ h => h)) (pa_cons (pv 5) pa_nil)))) pa_nil)))
      (pss_cons (ps_expr (pe_bm PySem.F.plainAttrs_list PySem.F.slot_list_append PySem.F.type_list_append mt_append (pv 6) (pa_cons (pe_lamL (k := 7) (t := fun E' => (tCall (sp_rank_of M.a_BadLevel) [] E' (tCons (tVar 5) tNil))) M TB (by decide +kernel)
          (fun A' outer' s' H' E' f' c' hr' => (pe_call (ok_rank_of M) (hr'.mono (by decide)) rfl M.g_rank_of M.k_rank_of M.b_rank_of .nil (passes_call (takes_of rfl rfl rfl rfl) (fun _ _ _ _ h => h)) (pa_cons (pv 5) pa_nil)))) pa_nil)))
      (pss_one (ps_if (pt_cmpR (op_neD hr.units) (pe_lcK (own := [("work", 7)]) (g := (gName 7)) (by rfl) sc_law.nd (pi_list (pv 6)) (blkOk_by (own := [("work", 7)]) (N := N_law) (sc := defScope s_law) (by decide +kernel))
        (fun _ _ _ _ _ => (pg_name (i := 7) sc_law.nd rfl (Or.inl rfl))) (fun pins0 σ0 s0 H0 C0 cl0 fp0 I0 fo0 => (pts_one (pt_not (pt_val (pe_callB (r := rIsC K) call_isC (by rfl) M.isinstance0 boot_isinstance (pa_cons (pe_keptL (iw := 7) M hrL I0 fo0 (by rfl) rfl (Or.inl rfl)) (pa_cons (pe_glob (v := .ref M.a_BadLevel) rfl M.g_BadLevel rfl) pa_nil))))))) (fun pins0 σ0 s0 H0 C0 cl0 fp0 I0 fo0 => pe_int)) (pe_lst pa_nil) (nomark _)) 
        (pss_one (ps_ret pe_bl)) pss_nil)))))))))), ?_⟩
  rintro D σ H0 os ra d l cc ⟨x2, x3, x4, x5, x6, x7, rfl⟩ S0 fin
  -- level
  refine ⟨_, rfl, _, rfl, (by show 3 ≤ sizeLine; decide), fun z hz => ?_⟩
  have S1 := S0.newL (xs := [.int 12, .int 30, .int 60]) hz
  refine tn <| ⟨d, l, cc, z, [.int 12, .int 30, .int 60], rfl, S1.dr, (fun H' s' => SqL.of (S1.gx 0 rfl s')), by simp, (by show 3 ≤ 1000; decide), fun mv H1 hmv D1 s1 => ?_⟩
  have S2 := (S1.sx s1 D1).tl
  clear S1 hz s1 D1
  obtain ⟨mo, rfl, m1, m2⟩ : ∃ mo : Nat, mv = .int (mo : Int) ∧ 1 ≤ mo ∧ mo ≤ 60 := by
    simp only [List.mem_cons, List.not_mem_nil, or_false] at hmv
    rcases hmv with rfl | rfl | rfl
    · exact ⟨12, rfl, by decide, by decide⟩
    · exact ⟨30, rfl, by decide, by decide⟩
    · exact ⟨60, rfl, by decide, by decide⟩
  refine tn <| ⟨d, l, cc, mo, rfl, S2.dr, m1, by omega, fun N H2 n1 n2 D2 s2 => ?_⟩
  have S3 := S2.sx s2 D2
  clear S2 s2 D2
  have C := cnt_of (chk_ok N n1 (by omega))
  refine ⟨fun σ' H' => σ' = [some (.ref ra), some (.ref d), x2, some (.int (N : Int)), x4, x5, x6, x7] ∧ Sta Pt H' d l cc os, ?_, ?_⟩
  · refine ⟨_, rfl, tn <| ⟨N, rfl, n1, by omega, C, fun H3 s3 => ⟨_, rfl, iteF' rfl ⟨_, rfl, tn <| ⟨N, rfl, n1, by omega, fun H4 s4 => ⟨_, rfl, iteF' rfl ⟨rfl, S3.same (s3.trans s4)⟩⟩⟩⟩⟩⟩⟩
  rintro σ H3 ⟨rfl, S4⟩
  clear S3 H2 x3
  -- turns
  refine ⟨_, rfl, by decide, by decide, ?_⟩
  refine for_range (lo := 0) (n := 4) (fun i σ H' => ∃ x4, σ = [some (.ref ra), some (.ref d), x2, some (.int (N : Int)), x4, x5, x6, x7] ∧ Sta Pt H' d l cc os) ⟨_, rfl, S4⟩ ?_ ?_
  · rintro i σ H4 hi ⟨x4, rfl, S5⟩
    refine ⟨_, rfl, tn0 <| ⟨d, l, cc, 360, rfl, S5.dr, by decide, by decide, fun N' H5 k1 k2 D5 s5 => tn <| ⟨N', rfl, k1, k2, fun H6 s6 => ⟨_, rfl, iteF' rfl ⟨_, rfl, (S5.sx s5 D5).same s6⟩⟩⟩⟩⟩
  rintro σ H4 ⟨x4, rfl, S5⟩
  clear S4
  -- bad
  refine ⟨_, rfl, tn <| ⟨d, l, cc, rfl, S5.dr, fun bad H5 pb wb D5 s5 => ?_⟩⟩
  have S6 := S5.sx s5 D5
  clear S5 s5 D5
  -- works
  refine ⟨S6.tb, fun f1 H6 eN6 T6 nf1 L1 => ⟨(by show 1 ≤ sizeLine; decide), fun W hW => ?_⟩⟩
  have nW5 := new_put eN6 hW
  have S7 := (S6.ext eN6 T6).newL (xs := [.ref f1]) hW
  have X7 := ext_put (o := .lst [.ref f1]) eN6 nW5
  have L1 := L1.same (same_new (o := .lst [.ref f1]) hW)
  generalize upd H6 W (.lst [.ref f1]) = H7 at S7 X7 L1 ⊢
  clear S6 eN6 T6 nf1 hW
  refine ⟨_, rfl, .inl ⟨rfl, _, SqL.of (S7.g 0 rfl)⟩, S7.tb, fun f2 H8 eN8 T8 nf2 L2 => tn <| ?_⟩
  have S8 := S7.ext eN8 T8
  refine ⟨W, _, _, rfl, rfl, S8.g 0 rfl, (by show 1 < sizeLine; decide), ?_⟩
  have L1 := lam_put (o := .lst ([.ref f1] ++ [.ref f2])) (L1.ext eN8) (S8.g 0 rfl)
  have L2 := lam_put (o := .lst ([.ref f1] ++ [.ref f2])) L2 (S8.g 0 rfl)
  have X8 := ext_put (o := .lst ([.ref f1] ++ [.ref f2])) (X7.trans eN8) nW5
  have S8 := S8.put (ys := [.ref f1] ++ [.ref f2])
  generalize upd H8 W (.lst ([.ref f1] ++ [.ref f2])) = H9 at S8 X8 L1 L2 ⊢
  clear S7 X7 eN8 T8 nf2
  refine ⟨_, rfl, .inl ⟨rfl, _, SqL.of (S8.g 0 rfl)⟩, S8.tb, fun f3 H10 eN8 T8 nf3 L3 => tn <| ?_⟩
  have S9 := S8.ext eN8 T8
  refine ⟨W, _, _, rfl, rfl, S9.g 0 rfl, (by show 2 < sizeLine; decide), ?_⟩
  have L1 := lam_put (o := .lst (([.ref f1] ++ [.ref f2]) ++ [.ref f3])) (L1.ext eN8) (S9.g 0 rfl)
  have L2 := lam_put (o := .lst (([.ref f1] ++ [.ref f2]) ++ [.ref f3])) (L2.ext eN8) (S9.g 0 rfl)
  have L3 := lam_put (o := .lst (([.ref f1] ++ [.ref f2]) ++ [.ref f3])) L3 (S9.g 0 rfl)
  have X9 := ext_put (o := .lst (([.ref f1] ++ [.ref f2]) ++ [.ref f3])) (X8.trans eN8) nW5
  have S9 := S9.put (ys := ([.ref f1] ++ [.ref f2]) ++ [.ref f3])
  generalize upd H10 W (.lst (([.ref f1] ++ [.ref f2]) ++ [.ref f3])) = H11 at S9 X9 L1 L2 L3 ⊢
  clear S8 X8 eN8 T8 nf3
  refine ⟨_, rfl, .inl ⟨rfl, _, SqL.of (S9.g 0 rfl)⟩, S9.tb, fun f4 H12 eN8 T8 nf4 L4 => tn <| ?_⟩
  have S10 := S9.ext eN8 T8
  refine ⟨W, _, _, rfl, rfl, S10.g 0 rfl, (by show 3 < sizeLine; decide), ?_⟩
  have L1 := lam_put (o := .lst ((([.ref f1] ++ [.ref f2]) ++ [.ref f3]) ++ [.ref f4])) (L1.ext eN8) (S10.g 0 rfl)
  have L2 := lam_put (o := .lst ((([.ref f1] ++ [.ref f2]) ++ [.ref f3]) ++ [.ref f4])) (L2.ext eN8) (S10.g 0 rfl)
  have L3 := lam_put (o := .lst ((([.ref f1] ++ [.ref f2]) ++ [.ref f3]) ++ [.ref f4])) (L3.ext eN8) (S10.g 0 rfl)
  have L4 := lam_put (o := .lst ((([.ref f1] ++ [.ref f2]) ++ [.ref f3]) ++ [.ref f4])) L4 (S10.g 0 rfl)
  have X10 := ext_put (o := .lst ((([.ref f1] ++ [.ref f2]) ++ [.ref f3]) ++ [.ref f4])) (X9.trans eN8) nW5
  have S10 := S10.put (ys := (([.ref f1] ++ [.ref f2]) ++ [.ref f3]) ++ [.ref f4])
  generalize upd H12 W (.lst ((([.ref f1] ++ [.ref f2]) ++ [.ref f3]) ++ [.ref f4])) = H13 at S10 X10 L1 L2 L3 L4 ⊢
  clear S9 X9 eN8 T8 nf4
  have pb := pv_ext pb X10
  have no : ∀ {G : Prop} (N' : Nat), bad = .int (N' : Int) → 1 ≤ N' → N' ≤ 360 → G := fun N' e h1 h2 => by
    rw [e, lev_in h1 h2] at wb
    cases wb
  refine ifne (works_all (R := Same) (ok := fun _ => True) (K := K) (X := XL P w K mg base f c A outer s H E) (k := 7) (j := 6) (iw := 7) (W := W) (C := M.a_BadLevel) (σ := [some (.ref ra), some (.ref d), x2, some (.int (N : Int)), x4, some bad, some (.ref W), x7]) (te := fun _ => tC (.int 1)) (fs := [f1, f2, f3, f4]) (CS := M.a_SeriesError) StepR.same rfl (by decide) (by show 7 < 8; decide) (S10.g 0 rfl) trivial (fun _ _ => trivial) ?_ M.E_BadLevel.m M.E_BadLevel.e M.E_BadLevel.i fun Dn H14 hDn s14 e14 => ?_)
  · intro f hf
    simp only [List.mem_cons, List.not_mem_nil, or_false] at hf
    rcases hf with rfl | rfl | rfl | rfl
    · exact Rais.made L1 fun E' H' Q s' he => ⟨_, rfl, tn <| ⟨bad, rfl, pb.same s', fun _ => he _ same_rfl, fun N' e a b => no N' e a b⟩⟩
    · exact Rais.made L2 fun E' H' Q s' he => ⟨_, rfl, tn <| ⟨bad, rfl, pb.same s', fun _ => he _ same_rfl, fun N' e a b => no N' e a b⟩⟩
    · exact Rais.made L3 fun E' H' Q s' he => ⟨_, rfl, tn <| ⟨bad, rfl, pb.same s', fun _ => he _ same_rfl, fun N' e a b => no N' e a b⟩⟩
    · exact Rais.made L4 fun E' H' Q s' he => ⟨_, rfl, tn <| ⟨bad, rfl, pb.same s', fun _ => he _ same_rfl, fun N' e a b => no N' e a b⟩⟩
  · refine ⟨(by show 0 ≤ sizeLine; decide), fun z hz => ?_⟩
    have s15 := same_new (o := .lst []) hz
    refine ne_nil (xs := []) (SqL.of (s15 _ _ e14)) (SqL.of upd_same) ⟨_, rfl, iteF' (by decide) (fin _ _ ⟨_, _, _, _, _, _, rfl⟩ (S10.tl.same (s14.trans s15)))⟩
end
end K13

set_option Elab.async false
set_option linter.all false
set_option maxRecDepth 100000
set_option maxHeartbeats 0
set_option pp.maxSteps 3000
namespace K13
open PySem PySem.Spec PyProof.Rows L2 Dr Xv LamX Ps Gn Gp
section
variable {P : Program} {w : World} {K : PySem.W.Frag} {mg : Str → Option Value} {base : Heap} {c Pt : Addr}
/-- the script as one of the law's objects (none where it is the module's) -/
theorem scr_own {H : Hp} {a d l cc : Addr} {xs : List V} (h : SqL K H a xs) (hd : H d = none) (hl : H l = none) (hc : H cc = none) : ∃ os : List (Addr × HO), os.length ≤ 1 ∧
    (∀ x ∈ os, H x.1 = some x.2 ∧ x.1 ≠ d ∧ x.1 ≠ l ∧ x.1 ≠ cc ∧ ∀ ps, x.2 ≠ .tbl ps) ∧ ∀ H', (∀ x ∈ os, H' x.1 = some x.2) → SqL K H' a xs := by
  have mk : ∀ o, H a = some o → (∀ ps, o ≠ .tbl ps) → (∀ H' : Hp, H' a = some o → SqL K H' a xs) → ∃ os : List (Addr × HO), os.length ≤ 1 ∧ (∀ x ∈ os, H x.1 = some x.2 ∧ x.1 ≠ d ∧ x.1 ≠ l ∧ x.1 ≠ cc ∧ ∀ ps, x.2 ≠ .tbl ps) ∧ ∀ H', (∀ x ∈ os, H' x.1 = some x.2) → SqL K H' a xs := fun o e nt k =>
    ⟨[(a, o)], Nat.le_refl _, fun x hx => by
      rw [List.mem_singleton.mp hx]
      exact ⟨e, ne_of_none e hd, ne_of_none e hl, ne_of_none e hc, nt⟩, fun H' h' => k H' (h' _ (List.mem_singleton.mpr rfl))⟩
  rcases h with (e | ⟨o, e⟩) | e
  · exact mk _ e (fun _ z => nomatch z) fun H' e' => .inl (.inl e')
  · exact mk _ e (fun _ z => nomatch z) fun H' e' => .inl (.inr ⟨o, e'⟩)
  · exact ⟨[], Nat.zero_le _, (fun x hx => absurd hx List.not_mem_nil), fun H' _ => Or.inr e⟩
def sp_law (K : PySem.W.Frag) (Pt : Addr) : Sp := fun vs H Q _ => ∃ (a : Addr) (ns : List Int), vs = [.ref a] ∧ SqL K H a (ns.map V.int) ∧ ns.length ≤ 1000 ∧ H Pt = some (.tbl #[]) ∧ ∀ H', Q (.bl true) H'
theorem ok_law (M : Mod P w K mg base) (hc : M.d_law.code = .ref c) (TB : TabB base mg c Pt) : FnOk P w K mg base CX0 10 M.f_law M.d_law ["script"] (sp_law K Pt) := by
  obtain ⟨oc, od, dV, kV, doc, pm, an, cdv, ct, osl, ed, lk, hcd, _, _⟩ := M.F_law.ex
  rw [ed] at hc lk ⊢
  have e : cdv = .ref c := hc
  subst e
  refine fn_of lk hcd sc_law (fun vs H Q E h => ?_) fun A outer s H vs Q E hr h => ?_
  · obtain ⟨a, ns, rfl, _⟩ := h
    rfl
  · obtain ⟨a, ns, rfl, hS, hlen, hT, q⟩ := h
    have hr' : Room 9 (XL P w K mg base M.f_law c A outer s H E).A := hr
    obtain ⟨tL, hL, rL⟩ := lap_ok (f := M.f_law) (c := c) (A := A) (outer := outer) (s := s) (H := H) (E := E) (Pt := Pt) M TB hr'
    refine ⟨_, PSs.nox (pss_cons (ps_set (i := 1) sc_law.nd rfl (Or.inl rfl) (pe_call (ok__law_begun M) (hr.mono (by decide)) rfl M.g__law_begun M.k__law_begun M.b__law_begun .nil pass0 (pa_cons (pv 0) pa_nil)))
      (pss_cons (ps_for PassesOwn.never rfl (pi_range1 (by rfl) M.range0 (pa_cons (pe_op op_add pe_int (pe_callB (call_min2 rfl) (by rfl) M.min0 (by decide +kernel) (pa_cons (pe_callB call_len (by rfl) M.len0 PySem.boot_len (pa_cons (pv 0) pa_nil)) (pa_cons pe_int pa_nil)))) pa_nil)) (pg_name (i := 2) sc_law.nd rfl (Or.inl rfl)) hL)
      (pss_one (ps_ret pe_bl)))), ?_⟩
    refine ⟨_, rfl, a, ns, rfl, hS, hlen, fun d l cc H1 hd hl hcc s1 D1 => ?_⟩
    have W0 : Wd Pt H1 d l cc := ⟨D1, fun p hp => by
      rw [List.mem_singleton.mp hp]
      exact TabS.nil (s1 _ _ hT)⟩
    obtain ⟨os, o1, o2, o3⟩ := scr_own hS hd hl hcc
    have W1 : Sta Pt H1 d l cc os := ⟨W0, fun x hx => ⟨s1 _ _ (o2 x hx).1, (o2 x hx).2⟩, by
      cases os with
      | nil => exact List.Pairwise.nil
      | cons x r =>
        cases r with
        | nil => exact List.pairwise_singleton _ _
        | cons y r =>
          simp at o1⟩
    have hb : ∀ n : Nat, 0 ≤ (if (2 : Int) < (n : Int) then (2 : Int) else (n : Int)) ∧ (if (2 : Int) < (n : Int) then (2 : Int) else (n : Int)) ≤ 2 := fun n => by
      by_cases h4 : (2 : Int) < (n : Int)
      · rw [if_pos h4]
        exact ⟨by decide, by decide⟩
      · rw [if_neg h4]
        omega
    obtain ⟨hb1, hb2⟩ := hb (ns.map V.int).length
    refine ⟨_, rfl, _, _, rfl, .inl ⟨_, s1.seq hS, rfl⟩, _, _, rfl, _, _, rfl, rfl, _, rfl, ?_, ?_, ?_⟩
    · show -(2 ^ 62) ≤ 2 + _
      omega
    · show 2 + _ < 2 ^ 62
      omega
    refine for_range (lo := 0) (n := _) (fun i σ H' => Slots a d σ ∧ Sta Pt H' d l cc os) ⟨⟨_, _, _, _, _, _, rfl⟩, W1⟩ ?_ ?_
    · rintro i σ H2 hi ⟨⟨x2, x3, x4, x5, x6, x7, rfl⟩, W2⟩
      exact rL _ _ _ os a d l cc ⟨_, _, _, _, _, _, rfl⟩ W2 fun σ' H' hs W' => ⟨hs, W'⟩
    · rintro σ H2 ⟨hs, W2⟩
      exact q H2
end
end K13

set_option Elab.async false
set_option linter.all false
set_option maxRecDepth 100000
set_option maxHeartbeats 0
namespace K13
open PySem PySem.Spec PyProof.Rows L2 Dr Xv LamX Ps Gn
def dd (x : Str) (st : Stmt) : He.DefD := ⟨(x, none), x, x, defArgs st, defBody st, defScope st, [], []⟩
def fn : List He.DefD := [dd "law" s_law, dd "divisors_of" s_divisors_of, dd "primes_of" s_primes_of, dd "phi" s_phi, dd "is_number" s_is_number, dd "is_within" s_is_within, dd "check_level" s_check_level, dd "index_of" s_index_of, dd "elliptic" s_elliptic, dd "cusp_count" s_cusp_count, dd "genus_of" s_genus_of, dd "rank_of" s_rank_of, dd "_law_begun" s__law_begun, dd "_law_blend" s__law_blend, dd "_law_take" s__law_take, dd "_law_pick" s__law_pick, dd "_law_caught" s__law_caught, dd "_law_gcd" s__law_gcd, dd "_law_level" s__law_level, dd "_law_bad_level" s__law_bad_level, dd "_law_units" s__law_units, dd "_law_point" s__law_point, dd "_law_primes" s__law_primes, dd "_law_index" s__law_index, dd "_law_divisors" s__law_divisors, dd "_law_points" s__law_points, dd "_law_map" s__law_map, dd "_law_orbits" s__law_orbits, dd "_law_ranks" s__law_ranks, dd "_law_counted_right" s__law_counted_right, dd "_law_held" s__law_held, dd "_law_power" s__law_power, dd "_law_product_right" s__law_product_right]
def fa : List He.Fa := [.glo "law", .glo "divisors_of", .glo "primes_of", .glo "phi", .glo "is_number", .glo "is_within", .glo "check_level", .glo "index_of", .glo "elliptic", .glo "cusp_count", .glo "genus_of", .glo "rank_of", .glo "_law_begun", .glo "_law_blend", .glo "_law_take", .glo "_law_pick", .glo "_law_caught", .glo "_law_gcd", .glo "_law_level", .glo "_law_bad_level", .glo "_law_units", .glo "_law_point", .glo "_law_primes", .glo "_law_index", .glo "_law_divisors", .glo "_law_points", .glo "_law_map", .glo "_law_orbits", .glo "_law_ranks", .glo "_law_counted_right", .glo "_law_held", .glo "_law_power", .glo "_law_product_right", .glo "SeriesError", .glo "BadLevel", .int "GREATEST_LEVEL" 360, .free "abs", .free "bool", .free "dict", .free "int", .free "isinstance", .free "len", .free "min", .free "range", .free "sum"]
abbrev R : PySem.W.OpenRow := PySem.W.OpenLaw.row PySem.Challenge.rw_etasure_k13_genus_by_formulas_and_by_cou
abbrev ga (K : PySem.W.Frag) (x : Str) : Addr := He.ga K x
def up (K : PySem.W.Frag) (x : Str) : List Value := .ref (ga K x) :: .ref (ga K "SeriesError") :: veT
def upS (K : PySem.W.Frag) : List Value := .ref (ga K "SeriesError") :: veT
def ext (K : PySem.W.Frag) : Bool := clsB K (ga K "SeriesError") (upS K) && (clsB K (ga K "BadLevel") (up K "BadLevel") && (PySem.W.excIn K (ga K "BadLevel") veT "ValueError.__new__" && (He.eqO (PySem.W.specialIn K (.builtin "object.__class__") "__get__") (some (some (.builtin "getset_descriptor.__get__"))) && (eqB (PySem.W.takesIn K (.builtin "object.__class__")) (some true) && (He.eqO (PySem.W.nsIn K mainGlobals "gcd") (some (some (.builtin "math.gcd"))) && (He.eqO (PySem.W.nsIn K mainGlobals "isqrt") (some (some (.builtin "math.isqrt")))))))))
def ob (s : PySem.W.SharedT) : AlE := obsE fa fn ext 4 (HandSHeadRun.getT s)
theorem ob_eq (s : PySem.W.SharedT) : ob s = (hookE fa fn ext 4).obs s.abs := by
  have e : HandSHeadRun.getT s = s.abs.heap.get? := funext (HandSHeadRun.getT_eq s)
  show obsE fa fn ext 4 (HandSHeadRun.getT s) = obsE fa fn ext 4 s.abs.heap.get?
  rw [e]
def loose : List PySem.Str := (List.map Str.ofString ["divisors_of", "primes_of", "phi", "SeriesError", "BadLevel", "GREATEST_LEVEL", "is_number", "is_within", "check_level", "index_of", "elliptic", "cusp_count", "genus_of", "rank_of", "_law_begun", "_law_blend", "_law_take", "_law_pick", "_law_caught", "_law_gcd", "_law_level", "_law_bad_level", "_law_units", "_law_point", "_law_primes", "_law_index", "_law_divisors", "_law_points", "_law_map", "_law_orbits", "_law_ranks", "_law_counted_right", "_law_held", "_law_power", "_law_product_right"])
theorem errs_of {K : PySem.W.Frag} (e : ext K = true) : ErrT K (ga K "BadLevel") (ga K "SeriesError") ∧ PySem.W.nsIn K mainGlobals "gcd" = some (some (.builtin "math.gcd")) ∧ PySem.W.nsIn K mainGlobals "isqrt" = some (some (.builtin "math.isqrt")) := by
  unfold ext at e
  simp only [Bool.and_eq_true] at e
  obtain ⟨eS, e_BadLevel, x_BadLevel, e7, e8, i_gcd, i_isqrt⟩ := e
  have cS := clsB_ok eS
  have ne : ∀ x, up K x ≠ [] := fun x z => by cases z
  have hasT : ∀ (x : Str) (v : Value), veT.contains v = true → (up K x).contains v = true := fun x v hv => by
    unfold up
    rw [List.contains_cons, List.contains_cons, hv, Bool.or_true, Bool.or_true]
  have e7' := He.eqO_ok e7
  have e8' : PySem.W.takesIn K (.builtin "object.__class__") = some true := of_decide_eq_true e8
  have xS := cS.excC (fun z => by cases z) (by unfold upS; rw [List.contains_cons, show veT.contains (.type "BaseException") = true from rfl, Bool.or_true]) (by unfold upS; rw [List.contains_cons, show veT.contains (.type "object") = true from rfl, Bool.or_true]) e7' e8'
  have subS : ∀ x, (up K x).contains (.ref (ga K "SeriesError")) = true := fun x => by
    unfold up
    rw [List.contains_cons, List.contains_cons]
    simp
  have mk : ∀ x, ClsOk K (ga K x) (up K x) → PySem.W.excIn K (ga K x) veT "ValueError.__new__" = true → ErrT K (ga K x) (ga K "SeriesError") := fun x cx hx =>
    have xx := cx.excC (ne x) (hasT x _ rfl) (hasT x _ rfl) e7' e8'
    { x := hx, k := cx.kp, b := xx.hs, t := cx.ty, m := PySem.W.exm_ref xS.hs xS.hd cS.ty (by rw [cx.sub (ne x), subS x]), e := xx, i := cx.kit (ne x) cx (by rw [decide_eq_true rfl]; rfl) }
  exact ⟨mk _ (clsB_ok e_BadLevel) x_BadLevel, He.eqO_ok i_gcd, He.eqO_ok i_isqrt⟩
theorem run (w : World) : HandSHeadRun.RunEqI R (PySem.W.view R.prog [0, 42]) (hookE fa fn ext 4) ob 40000 loose w := by
  unfold HandSHeadRun.RunEqI
  kernel_rfl
theorem mod_of {P : Program} {w : World} {K : PySem.W.Frag} {h : Heap} {mg : Str → Option Value} {f : Addr} (X : K.In h) (G : h.Ns mainGlobals mg) (hfa : mg ("law" : Str) = some (.ref f)) (c : He.SaysD fa fn K) (ex : ext K = true) :
    ∃ fd, FnP K "law" s_law f fd ∧ ∀ base : Heap, ∃ M : Mod P w K mg base, M.f_law = f ∧ M.d_law = fd := by
  obtain ⟨fd0, F0⟩ := c.def_ 0 (d := dd "law" s_law) rfl
  obtain ⟨fd1, F1⟩ := c.def_ 1 (d := dd "divisors_of" s_divisors_of) rfl
  obtain ⟨fd2, F2⟩ := c.def_ 2 (d := dd "primes_of" s_primes_of) rfl
  obtain ⟨fd3, F3⟩ := c.def_ 3 (d := dd "phi" s_phi) rfl
  obtain ⟨fd4, F4⟩ := c.def_ 4 (d := dd "is_number" s_is_number) rfl
  obtain ⟨fd5, F5⟩ := c.def_ 5 (d := dd "is_within" s_is_within) rfl
  obtain ⟨fd6, F6⟩ := c.def_ 6 (d := dd "check_level" s_check_level) rfl
  obtain ⟨fd7, F7⟩ := c.def_ 7 (d := dd "index_of" s_index_of) rfl
  obtain ⟨fd8, F8⟩ := c.def_ 8 (d := dd "elliptic" s_elliptic) rfl
  obtain ⟨fd9, F9⟩ := c.def_ 9 (d := dd "cusp_count" s_cusp_count) rfl
  obtain ⟨fd10, F10⟩ := c.def_ 10 (d := dd "genus_of" s_genus_of) rfl
  obtain ⟨fd11, F11⟩ := c.def_ 11 (d := dd "rank_of" s_rank_of) rfl
  obtain ⟨fd12, F12⟩ := c.def_ 12 (d := dd "_law_begun" s__law_begun) rfl
  obtain ⟨fd13, F13⟩ := c.def_ 13 (d := dd "_law_blend" s__law_blend) rfl
  obtain ⟨fd14, F14⟩ := c.def_ 14 (d := dd "_law_take" s__law_take) rfl
  obtain ⟨fd15, F15⟩ := c.def_ 15 (d := dd "_law_pick" s__law_pick) rfl
  obtain ⟨fd16, F16⟩ := c.def_ 16 (d := dd "_law_caught" s__law_caught) rfl
  obtain ⟨fd17, F17⟩ := c.def_ 17 (d := dd "_law_gcd" s__law_gcd) rfl
  obtain ⟨fd18, F18⟩ := c.def_ 18 (d := dd "_law_level" s__law_level) rfl
  obtain ⟨fd19, F19⟩ := c.def_ 19 (d := dd "_law_bad_level" s__law_bad_level) rfl
  obtain ⟨fd20, F20⟩ := c.def_ 20 (d := dd "_law_units" s__law_units) rfl
  obtain ⟨fd21, F21⟩ := c.def_ 21 (d := dd "_law_point" s__law_point) rfl
  obtain ⟨fd22, F22⟩ := c.def_ 22 (d := dd "_law_primes" s__law_primes) rfl
  obtain ⟨fd23, F23⟩ := c.def_ 23 (d := dd "_law_index" s__law_index) rfl
  obtain ⟨fd24, F24⟩ := c.def_ 24 (d := dd "_law_divisors" s__law_divisors) rfl
  obtain ⟨fd25, F25⟩ := c.def_ 25 (d := dd "_law_points" s__law_points) rfl
  obtain ⟨fd26, F26⟩ := c.def_ 26 (d := dd "_law_map" s__law_map) rfl
  obtain ⟨fd27, F27⟩ := c.def_ 27 (d := dd "_law_orbits" s__law_orbits) rfl
  obtain ⟨fd28, F28⟩ := c.def_ 28 (d := dd "_law_ranks" s__law_ranks) rfl
  obtain ⟨fd29, F29⟩ := c.def_ 29 (d := dd "_law_counted_right" s__law_counted_right) rfl
  obtain ⟨fd30, F30⟩ := c.def_ 30 (d := dd "_law_held" s__law_held) rfl
  obtain ⟨fd31, F31⟩ := c.def_ 31 (d := dd "_law_power" s__law_power) rfl
  obtain ⟨fd32, F32⟩ := c.def_ 32 (d := dd "_law_product_right" s__law_product_right) rfl
  obtain ⟨X_BadLevel, XI_gcd, XI_isqrt⟩ := errs_of ex
  obtain ⟨t_GREATEST_LEVEL, c_GREATEST_LEVEL⟩ := He.int_ok X G (c.fact 35 (f := .int "GREATEST_LEVEL" 360) rfl)
  have gl := hfa.symm.trans (He.glo_ok X G (c.fact 0 (f := .glo "law") rfl))
  cases gl
  have g0 := He.glo_ok X G (c.fact 0 (f := .glo "law") rfl)
  have g1 := He.glo_ok X G (c.fact 1 (f := .glo "divisors_of") rfl)
  have g2 := He.glo_ok X G (c.fact 2 (f := .glo "primes_of") rfl)
  have g3 := He.glo_ok X G (c.fact 3 (f := .glo "phi") rfl)
  have g4 := He.glo_ok X G (c.fact 4 (f := .glo "is_number") rfl)
  have g5 := He.glo_ok X G (c.fact 5 (f := .glo "is_within") rfl)
  have g6 := He.glo_ok X G (c.fact 6 (f := .glo "check_level") rfl)
  have g7 := He.glo_ok X G (c.fact 7 (f := .glo "index_of") rfl)
  have g8 := He.glo_ok X G (c.fact 8 (f := .glo "elliptic") rfl)
  have g9 := He.glo_ok X G (c.fact 9 (f := .glo "cusp_count") rfl)
  have g10 := He.glo_ok X G (c.fact 10 (f := .glo "genus_of") rfl)
  have g11 := He.glo_ok X G (c.fact 11 (f := .glo "rank_of") rfl)
  have g12 := He.glo_ok X G (c.fact 12 (f := .glo "_law_begun") rfl)
  have g13 := He.glo_ok X G (c.fact 13 (f := .glo "_law_blend") rfl)
  have g14 := He.glo_ok X G (c.fact 14 (f := .glo "_law_take") rfl)
  have g15 := He.glo_ok X G (c.fact 15 (f := .glo "_law_pick") rfl)
  have g16 := He.glo_ok X G (c.fact 16 (f := .glo "_law_caught") rfl)
  have g17 := He.glo_ok X G (c.fact 17 (f := .glo "_law_gcd") rfl)
  have g18 := He.glo_ok X G (c.fact 18 (f := .glo "_law_level") rfl)
  have g19 := He.glo_ok X G (c.fact 19 (f := .glo "_law_bad_level") rfl)
  have g20 := He.glo_ok X G (c.fact 20 (f := .glo "_law_units") rfl)
  have g21 := He.glo_ok X G (c.fact 21 (f := .glo "_law_point") rfl)
  have g22 := He.glo_ok X G (c.fact 22 (f := .glo "_law_primes") rfl)
  have g23 := He.glo_ok X G (c.fact 23 (f := .glo "_law_index") rfl)
  have g24 := He.glo_ok X G (c.fact 24 (f := .glo "_law_divisors") rfl)
  have g25 := He.glo_ok X G (c.fact 25 (f := .glo "_law_points") rfl)
  have g26 := He.glo_ok X G (c.fact 26 (f := .glo "_law_map") rfl)
  have g27 := He.glo_ok X G (c.fact 27 (f := .glo "_law_orbits") rfl)
  have g28 := He.glo_ok X G (c.fact 28 (f := .glo "_law_ranks") rfl)
  have g29 := He.glo_ok X G (c.fact 29 (f := .glo "_law_counted_right") rfl)
  have g30 := He.glo_ok X G (c.fact 30 (f := .glo "_law_held") rfl)
  have g31 := He.glo_ok X G (c.fact 31 (f := .glo "_law_power") rfl)
  have g32 := He.glo_ok X G (c.fact 32 (f := .glo "_law_product_right") rfl)
  have gc0 := He.glo_ok X G (c.fact 33 (f := .glo "SeriesError") rfl)
  have gc1 := He.glo_ok X G (c.fact 34 (f := .glo "BadLevel") rfl)
  have b_abs := He.free_ok X G (c.fact 36 (f := .free "abs") rfl)
  have b_bool := He.free_ok X G (c.fact 37 (f := .free "bool") rfl)
  have b_dict := He.free_ok X G (c.fact 38 (f := .free "dict") rfl)
  have b_int := He.free_ok X G (c.fact 39 (f := .free "int") rfl)
  have b_isinstance := He.free_ok X G (c.fact 40 (f := .free "isinstance") rfl)
  have b_len := He.free_ok X G (c.fact 41 (f := .free "len") rfl)
  have b_min := He.free_ok X G (c.fact 42 (f := .free "min") rfl)
  have b_range := He.free_ok X G (c.fact 43 (f := .free "range") rfl)
  have b_sum := He.free_ok X G (c.fact 44 (f := .free "sum") rfl)
  exact ⟨fd0, F0, fun base => ⟨{ f_law := _, d_law := fd0, F_law := F0, g_law := g0, f_divisors_of := _, d_divisors_of := fd1, F_divisors_of := F1, g_divisors_of := g1, f_primes_of := _, d_primes_of := fd2, F_primes_of := F2, g_primes_of := g2, f_phi := _, d_phi := fd3, F_phi := F3, g_phi := g3, f_is_number := _, d_is_number := fd4, F_is_number := F4, g_is_number := g4, f_is_within := _, d_is_within := fd5, F_is_within := F5, g_is_within := g5, f_check_level := _, d_check_level := fd6, F_check_level := F6, g_check_level := g6, f_index_of := _, d_index_of := fd7, F_index_of := F7, g_index_of := g7, f_elliptic := _, d_elliptic := fd8, F_elliptic := F8, g_elliptic := g8, f_cusp_count := _, d_cusp_count := fd9, F_cusp_count := F9, g_cusp_count := g9, f_genus_of := _, d_genus_of := fd10, F_genus_of := F10, g_genus_of := g10, f_rank_of := _, d_rank_of := fd11, F_rank_of := F11, g_rank_of := g11, f__law_begun := _, d__law_begun := fd12, F__law_begun := F12, g__law_begun := g12, f__law_blend := _, d__law_blend := fd13, F__law_blend := F13, g__law_blend := g13, f__law_take := _, d__law_take := fd14, F__law_take := F14, g__law_take := g14, f__law_pick := _, d__law_pick := fd15, F__law_pick := F15, g__law_pick := g15, f__law_caught := _, d__law_caught := fd16, F__law_caught := F16, g__law_caught := g16, f__law_gcd := _, d__law_gcd := fd17, F__law_gcd := F17, g__law_gcd := g17, f__law_level := _, d__law_level := fd18, F__law_level := F18, g__law_level := g18, f__law_bad_level := _, d__law_bad_level := fd19, F__law_bad_level := F19, g__law_bad_level := g19, f__law_units := _, d__law_units := fd20, F__law_units := F20, g__law_units := g20, f__law_point := _, d__law_point := fd21, F__law_point := F21, g__law_point := g21, f__law_primes := _, d__law_primes := fd22, F__law_primes := F22, g__law_primes := g22, f__law_index := _, d__law_index := fd23, F__law_index := F23, g__law_index := g23, f__law_divisors := _, d__law_divisors := fd24, F__law_divisors := F24, g__law_divisors := g24, f__law_points := _, d__law_points := fd25, F__law_points := F25, g__law_points := g25, f__law_map := _, d__law_map := fd26, F__law_map := F26, g__law_map := g26, f__law_orbits := _, d__law_orbits := fd27, F__law_orbits := F27, g__law_orbits := g27, f__law_ranks := _, d__law_ranks := fd28, F__law_ranks := F28, g__law_ranks := g28, f__law_counted_right := _, d__law_counted_right := fd29, F__law_counted_right := F29, g__law_counted_right := g29, f__law_held := _, d__law_held := fd30, F__law_held := F30, g__law_held := g30, f__law_power := _, d__law_power := fd31, F__law_power := F31, g__law_power := g31, f__law_product_right := _, d__law_product_right := fd32, F__law_product_right := F32, g__law_product_right := g32, a_SeriesError := _, g_SeriesError := gc0, a_BadLevel := _, g_BadLevel := gc1, E_BadLevel := X_BadLevel, i_gcd := PySem.W.mg_of X G XI_gcd, i_isqrt := PySem.W.mg_of X G XI_isqrt, t_GREATEST_LEVEL := t_GREATEST_LEVEL, c_GREATEST_LEVEL := c_GREATEST_LEVEL, abs0 := b_abs, bool0 := b_bool, dict0 := b_dict, int0 := b_int, isinstance0 := b_isinstance, len0 := b_len, min0 := b_min, range0 := b_range, sum0 := b_sum }, rfl, rfl⟩⟩
theorem facts {P : Program} {w : World} {K : PySem.W.Frag} {h : Heap} {mg : Str → Option Value} {f : Addr} (X : K.In h) (G : h.Ns mainGlobals mg) (hfa : mg ("law" : Str) = some (.ref f)) (c : He.SaysD fa fn K) (ex : ext K = true) :
    ∃ fd, (∀ (s : Shared) (v : Value), BindsTo s fd ⟨[v], []⟩ [("script", v)]) ∧ ∀ base : Heap, K.In base → base.Ns mainGlobals mg → TabB base mg (He.cT K lawD).1 (He.cT K lawD).2 → FnOk P w K mg base CX0 10 f fd ["script"] (sp_law K (He.cT K lawD).2) := by
  have gl := hfa.symm.trans (He.glo_ok X G (c.fact 0 (f := .glo "law") rfl))
  cases gl
  obtain ⟨fd, F, hM⟩ := mod_of (P := P) (w := w) X G hfa c ex
  have b := FunD.bindsA (ps := ["script"]) F fun _ _ _ _ _ _ us hl => match us, hl with | [_], _ => rfl
  refine ⟨fd, fun s v => b s [v] rfl, fun base hK hN TB => ?_⟩
  obtain ⟨M, e1, e2⟩ := hM base
  have hc : fd.code = .ref (He.cT K lawD).1 := by
    obtain ⟨oc, od, dV, kV, doc, pm, an, cdv, ct, osl, rfl, lk, hcd, _, _⟩ := F.ex
    obtain ⟨c0, rfl⟩ := He.codeIn_ref hcd
    have z := He.codeOf_eq (p := lawD) (c := c0) lk rfl
    show Value.ref c0 = Value.ref (He.codeOf K lawD)
    rw [z]
  have z := ok_law M (c := (He.cT K lawD).1) (Pt := (He.cT K lawD).2) (by rw [e2]; exact hc) TB
  rw [e1, e2] at z
  exact z
end K13
open PySem PySem.W PySem.Calls PyProof.Rows
theorem PySem.Challenge.cw_etasure_k13_genus_by_formulas_and_by_cou_holds : PySem.Challenge.rw_etasure_k13_genus_by_formulas_and_by_cou.Holds := by
  w_on; o_law
  refine HandSHeadRun.head_imp (r := OpenLaw.row PySem.Challenge.rw_etasure_k13_genus_by_formulas_and_by_cou) (q := view (OpenLaw.row PySem.Challenge.rw_etasure_k13_genus_by_formulas_and_by_cou).prog [0, 42]) (H := Xv.hookE K13.fa K13.fn K13.ext 4) (ob := K13.ob) (M := 40000) (loose := K13.loose) (d := HandSHeadRun.topDef (OpenLaw.row PySem.Challenge.rw_etasure_k13_genus_by_formulas_and_by_cou).prog 42) (kwd := []) K13.ob_eq
    K13.run (by kernel_rfl) (by kernel_rfl) (by kernel_rfl) (by rfl) (by first | assumption | decide +kernel) (by decide +kernel) ⟨rfl, rfl, rfl, rfl, rfl, by decide +kernel⟩ ?hw ?hc
  case hw => w_witness2
  case hc =>
    refine LamX.walk_ofTsE (l := PySem.Challenge.rw_etasure_k13_genus_by_formulas_and_by_cou) (n := 63) (k := 10) (x := "script") (CX := fun _ => L2.CX0) rfl (by decide) (by kernel_rfl) ⟨rfl, by decide, by decide⟩ ?F (fun _ _ _ _ _ h => h)
    intro w mg fa h Y G hmg0
    obtain ⟨K, KX, c⟩ := Y
    have hmg : mg ("law" : PySem.Str) = some (.ref fa) := by
      have e : (HandSHeadRun.topDef (OpenLaw.row PySem.Challenge.rw_etasure_k13_genus_by_formulas_and_by_cou).prog 42).name = ("law" : PySem.Str) := by kernel_rfl
      rw [← e]
      exact hmg0
    obtain ⟨fd, hb, hF⟩ := K13.facts (P := (PySem.Challenge.rw_etasure_k13_genus_by_formulas_and_by_cou).prog) (w := w) KX G hmg c.d c.more
    refine ⟨K, KX, fd, [He.cT K Xv.lawD], K13.sp_law K (He.cT K Xv.lawD).2, fun p hp => ?_, fun p hp => ?_, fun p hp => ?_, hb, fun H a ns hl _ hT hS => ⟨a, ns, rfl, hS, by omega, hT _ (List.mem_singleton.mpr rfl), fun _ => rfl⟩, fun base hK hN hTB => hF base hK hN (hTB _ (List.mem_singleton.mpr rfl))⟩
    · rw [List.mem_singleton.mp hp]
      exact c.empty
    · rw [List.mem_singleton.mp hp]
      exact c.out
    · rw [List.mem_singleton.mp hp]
      exact PySem.W.codeHd_of_K KX c.hd

