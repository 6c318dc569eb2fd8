import PyProof.Rows.All
import Wide.All
import OpenK.AllK
import Wide.FinOn
import HandS.ForMost
import HandS.Wide
import HandS.Defaults
import KE.KExcIs
import HandS.ForExc
import HandS.IsInst
import HandS.ExcIs
import HandS.ExcOwn
import HandS.ExcValue
import HandS.ExcInit
import HandS.MakeKw
import HandS.MakeKwOnly
import HandS.Lambda
import HandS.TryOnly
import HandS.ClsMeth
import HandS.HeadWalk
import HandS.ExcField
import KE.GoesEnum
import HandS.Walk
import KE.GoesEnumKw
import KE.GoesMore
import HandS.SortKw
import HandS.Zip
import HandS.ExcBuiltin
import HandS.EndOwn
import HandS.Small
import HandS.Style
import HandS.TupAny
import HandS.TupLe
import Lean
import KE.KStateDown
import HandS.More
import HandS.Words
import HandS.WordsExc
import HandS.Head0
import HandS.Head1
import HandS.Head2
import HandS.HeadEnd
import HandS.HeadHook1
import HandS.HeadHook2
import HandS.HeadHook4
import HandS.Conv
import HandS.Deep
import KE.DataMinMax
import HandS.DictComp
import HandS.Gcd
import Flt.RightSqrt
import HandS.Iter
import HandS.SetFor
import HandS.Strs
import KE.SortData
import HandS.Sort
import HandS.DeepEq
import HandS.SortInts
import HandS.TupMul
import HandS.Head3
import PySem.Challenge.RW_etasure_k63_forms_and_their_ways
set_option Elab.async false
set_option linter.all false
set_option maxRecDepth 100000
set_option maxHeartbeats 4000000
set_option pp.deepTerms false
set_option pp.maxSteps 3000
namespace Dr
open PySem PySem.Spec PyProof.Rows L2
abbrev FnP (K : PySem.W.Frag) (x : Str) (st : Stmt) (f : Addr) (fd : FuncData) : Prop := FunD K x x (defArgs st) (defBody st) (defScope st) [] [] f fd
/-! ### the draw: a dict of four entries, two lists -/
def kLarge : Key := Sum.inr "large"
def kCells : Key := Sum.inr "cells"
def kRest : Key := Sum.inr "rest"
def kTurn : Key := Sum.inr "turn"
def drK (l c : Addr) (r t : Int) : List (Key × V) := [(kLarge, .ref l), (kCells, .ref c), (kRest, .int r), (kTurn, .int t)]
theorem k12 : ¬ kLarge = kCells := by decide +kernel
theorem k13 : ¬ kLarge = kRest := by decide +kernel
theorem k14 : ¬ kLarge = kTurn := by decide +kernel
theorem k23 : ¬ kCells = kRest := by decide +kernel
theorem k24 : ¬ kCells = kTurn := by decide +kernel
theorem k34 : ¬ kRest = kTurn := by decide +kernel
section
variable {l c : Addr} {r t z : Int}
theorem get_large : valV (drK l c r t) kLarge = some (.ref l) := valV_pos rfl
theorem get_cells : valV (drK l c r t) kCells = some (.ref c) := (valV_neg k12).trans (valV_pos rfl)
theorem get_rest : valV (drK l c r t) kRest = some (.int r) := (valV_neg k13).trans ((valV_neg k23).trans (valV_pos rfl))
theorem get_turn : valV (drK l c r t) kTurn = some (.int t) := (valV_neg k14).trans ((valV_neg k24).trans ((valV_neg k34).trans (valV_pos rfl)))
theorem put_rest : putK (drK l c r t) kRest (.int z) = drK l c z t := by
  have h1 := k13
  have h2 := k23
  have h3 : ¬ kTurn = kRest := fun e => k34 e.symm
  simp [putK, drK, h1, h2, h3]
theorem put_turn : putK (drK l c r t) kTurn (.int z) = drK l c r z := by
  have h1 := k14
  have h2 := k24
  have h3 := k34
  simp [putK, drK, h1, h2, h3]
end
/-- the draw at d, its lists at l and c -/
structure DrawAt (H : Hp) (d l c : Addr) (ls cs : List Int) (r t : Int) : Prop where
  dd : H d = some (.dK (drK l c r t))
  dl : H l = some (.lst (ls.map V.int))
  dc : H c = some (.lst (cs.map V.int))
  lc : l ≠ c
/-- all but d and l stays -/
def SameX (d l : Addr) (H H' : Hp) : Prop := ∀ b o, H b = some o → b ≠ d → b ≠ l → H' b = some o
/-- a draw at d (its list at l): what the callers keep -/
def Draw (H : Hp) (d l c : Addr) : Prop := ∃ ls cs r t, DrawAt H d l c ls cs r t
theorem SameX.refl (d l : Addr) (H : Hp) : SameX d l H H := fun _ _ e _ _ => e
theorem SameX.trans {d l : Addr} {H H1 H2 : Hp} (a : SameX d l H H1) (b : SameX d l H1 H2) : SameX d l H H2 := fun c o e n1 n2 => b c o (a c o e n1 n2) n1 n2
theorem SameX.of {d l : Addr} {H H' : Hp} (a : Same H H') : SameX d l H H' := fun c o e _ _ => a c o e
theorem DrawAt.nl {H : Hp} {d l c : Addr} {ls cs : List Int} {r t : Int} (D : DrawAt H d l c ls cs r t) : d ≠ l := ne_of D.dd D.dl (fun z => by cases z)
theorem DrawAt.nc {H : Hp} {d l c : Addr} {ls cs : List Int} {r t : Int} (D : DrawAt H d l c ls cs r t) : d ≠ c := ne_of D.dd D.dc (fun z => by cases z)
theorem DrawAt.same {H H' : Hp} {d l c : Addr} {ls cs : List Int} {r t : Int} (D : DrawAt H d l c ls cs r t) (s : Same H H') : DrawAt H' d l c ls cs r t := ⟨s _ _ D.dd, s _ _ D.dl, s _ _ D.dc, D.lc⟩
theorem Draw.same {H H' : Hp} {d l c : Addr} (D : Draw H d l c) (s : Same H H') : Draw H' d l c := by
  obtain ⟨ls, cs, r, t, D⟩ := D
  exact ⟨ls, cs, r, t, D.same s⟩
theorem Draw.put {H : Hp} {d l c p : Addr} {o : HO} (D : Draw H d l c) (h1 : p ≠ d) (h2 : p ≠ l) (h3 : p ≠ c) : Draw (upd H p o) d l c := by
  obtain ⟨ls, cs, r, t, D⟩ := D
  exact ⟨ls, cs, r, t, by rw [upd_ne h1.symm]; exact D.dd, by rw [upd_ne h2.symm]; exact D.dl, by rw [upd_ne h3.symm]; exact D.dc, D.lc⟩
theorem Draw.ne {H : Hp} {d l c p : Addr} (D : Draw H d l c) (n : H p = none) : p ≠ d ∧ p ≠ l ∧ p ≠ c := by
  obtain ⟨ls, cs, r, t, D⟩ := D
  exact ⟨(ne_of_none D.dd n).symm, (ne_of_none D.dl n).symm, (ne_of_none D.dc n).symm⟩
theorem DrawAt.rest {H : Hp} {d l c : Addr} {ls cs : List Int} {r t : Int} (D : DrawAt H d l c ls cs r t) (z : Int) : DrawAt (upd H d (.dK (drK l c z t))) d l c ls cs z t :=
  ⟨upd_same, by rw [upd_ne D.nl.symm]; exact D.dl, by rw [upd_ne D.nc.symm]; exact D.dc, D.lc⟩
theorem DrawAt.turn {H : Hp} {d l c : Addr} {ls cs : List Int} {r t : Int} (D : DrawAt H d l c ls cs r t) (z : Int) : DrawAt (upd H d (.dK (drK l c r z))) d l c ls cs r z :=
  ⟨upd_same, by rw [upd_ne D.nl.symm]; exact D.dl, by rw [upd_ne D.nc.symm]; exact D.dc, D.lc⟩
theorem DrawAt.pop {H : Hp} {d l c : Addr} {ls ls' cs : List Int} {r t : Int} (D : DrawAt H d l c ls cs r t) : DrawAt (upd H l (.lst (ls'.map V.int))) d l c ls' cs r t :=
  ⟨by rw [upd_ne D.nl]; exact D.dd, upd_same, by rw [upd_ne D.lc.symm]; exact D.dc, D.lc⟩
theorem sameX_d {H : Hp} {d l : Addr} {o : HO} : SameX d l H (upd H d o) := fun b o e n1 n2 => by rw [upd_ne n1]; exact e
theorem sameX_l {H : Hp} {d l : Addr} {o : HO} : SameX d l H (upd H l o) := fun b o e n1 n2 => by rw [upd_ne n2]; exact e
theorem sameX_new {H : Hp} {d l p : Addr} {o : HO} (n : H p = none) : SameX d l H (upd H p o) := fun b o e n1 n2 => by rw [upd_ne (ne_of_none e n)]; exact e
theorem same_new {H : Hp} {p : Addr} {o : HO} (n : H p = none) : Same H (upd H p o) := fun b o e => by rw [upd_ne (ne_of_none e n)]; exact e
theorem int_at {ns : List Int} {i : Nat} {x : V} (h : (ns.map V.int)[i]? = some x) : ∃ z, ns[i]? = some z ∧ x = .int z := by
  rw [List.getElem?_map] at h
  cases e : ns[i]? with
  | none =>
    rw [e] at h
    cases h
  | some z =>
    rw [e] at h
    exact ⟨z, rfl, (Option.some.inj h).symm⟩
theorem merge_dr {l c : Addr} {r t : Int} : mergeK [] (drK l c r t) = drK l c r t := by
  have h1 := k12
  have h2 := k13
  have h3 := k14
  have h4 := k23
  have h5 := k24
  have h6 := k34
  simp [mergeK, putK, drK, h1, h2, h3, h4, h5, h6]
theorem yesT {s : L2.St} {H : Hp} {A B : Hp → Prop} (h : A H) : tYes s H (fun b H3 => if b = true then A H3 else B H3) := by
  show if true = true then A H else B H
  rw [if_pos rfl]
  exact h
/-! ### lists of ints as data -/
def intsD (ls : List Int) : List PyData := ls.map PyData.int
theorem ints_lay : ∀ ls : List Int, PyData.canLayAll0 (intsD ls) = true
  | [] => rfl
  | z :: r => by
    show (PyData.canLay0 (.int z) && PyData.canLayAll0 (intsD r)) = true
    rw [ints_lay r]
    rfl
theorem ints_depth : ∀ ls : List Int, PyData.depthAll (intsD ls) = 0
  | [] => rfl
  | z :: r => by
    show max (PyData.depth (.int z)) (PyData.depthAll (intsD r)) = 0
    rw [ints_depth r]
    rfl
theorem ints_shaped (ls : List Int) : SeqAt.shaped (.list (intsD ls)) = true := by
  show (PyData.canLayAll0 (intsD ls) && decide (PyData.depthAll (intsD ls) + 1 ≤ 64)) = true
  rw [ints_lay, ints_depth]
  rfl
theorem ints_dp {K : PySem.W.Frag} {H : Hp} : ∀ ls : List Int, DpAll K H (ls.map V.int) (intsD ls)
  | [] => .nil
  | z :: r => .cons (.int z) (ints_dp r)
def spBegun (K : PySem.W.Frag) : Sp := fun vs H Q _ => ∃ (a : Addr) (ns : List Int), vs = [.ref a] ∧ SqL K H a (ns.map V.int) ∧ ns.length ≤ 1000 ∧
  ∀ (d l c : Addr) (H' : Hp), H d = none → H l = none → H c = none → Same H H' → Draw H' d l c → Q (.ref d) H'
section
variable {H : Hp} {d l c : Addr} {ls cs : List Int} {r t : Int}
theorem DrawAt.gLarge (D : DrawAt H d l c ls cs r t) : DGet H d (.str "large") (some (.ref l)) := by
  have z := DGet.k (k := kLarge) D.dd
  rw [get_large] at z
  exact z
theorem DrawAt.gCells (D : DrawAt H d l c ls cs r t) : DGet H d (.str "cells") (some (.ref c)) := by
  have z := DGet.k (k := kCells) D.dd
  rw [get_cells] at z
  exact z
theorem DrawAt.gRest (D : DrawAt H d l c ls cs r t) : DGet H d (.str "rest") (some (.int r)) := by
  have z := DGet.k (k := kRest) D.dd
  rw [get_rest] at z
  exact z
theorem DrawAt.gTurn (D : DrawAt H d l c ls cs r t) : DGet H d (.str "turn") (some (.int t)) := by
  have z := DGet.k (k := kTurn) D.dd
  rw [get_turn] at z
  exact z
theorem DrawAt.pRest (D : DrawAt H d l c ls cs r t) (z : Int) : DPut H d (.str "rest") (.int z) (upd H d (.dK (drK l c z t))) := by
  have q := DPut.k (k := kRest) (v := .int z) D.dd (by show 4 < sizeLine; decide)
  rw [put_rest] at q
  exact q
theorem DrawAt.pTurn (D : DrawAt H d l c ls cs r t) (z : Int) : DPut H d (.str "turn") (.int z) (upd H d (.dK (drK l c r z))) := by
  have q := DPut.k (k := kTurn) (v := .int z) D.dd (by show 4 < sizeLine; decide)
  rw [put_turn] at q
  exact q
end
def spBlend : Sp := fun vs H Q _ => ∃ (d l c : Addr) (ls cs : List Int) (r t : Int), vs = [.ref d] ∧ DrawAt H d l c ls cs r t ∧
  ∀ (v t' : Int) (H' : Hp), DrawAt H' d l c ls cs r t' → SameX d l H H' → Q (.int v) H'
def spTake : Sp := fun vs H Q _ => ∃ (d l c : Addr) (n : Int), vs = [.ref d, .int n] ∧ Draw H d l c ∧ 0 < n ∧ n.natAbs.log2 < 9000 ∧
  ∀ (v : Int) (H' : Hp), 0 ≤ v → v < n → Draw H' d l c → SameX d l H H' → Q (.int v) H'
theorem pow_small {z q : Int} (h0 : 0 ≤ z) (h1 : z < q) (hq : q ≤ 2147483648) : CPow z 5 := ⟨by decide, by decide, by
  have e : (2 : Nat) ^ 64 = 18446744073709551616 := by decide
  omega⟩
theorem pop_ix (n : Nat) : seqIndex? 0 (n + 1) = some 0 := by
  unfold seqIndex?
  simp
def spPick (K : PySem.W.Frag) : Sp := fun vs H Q _ => ∃ (d l c a : Addr) (xs : List V), vs = [.ref d, .ref a] ∧ Draw H d l c ∧ (∀ H', SameX d l H H' → SqL K H' a xs) ∧ xs ≠ [] ∧ xs.length ≤ 1000 ∧
  ∀ (v : V) (H' : Hp), v ∈ xs → Draw H' d l c → SameX d l H H' → Q v H'
theorem log_small {n : Nat} (h : n ≤ 1000) : ((n : Int)).natAbs.log2 < 9000 := by
  have e : ((n : Int)).natAbs = n := by omega
  rw [e]
  by_cases z : n = 0
  · rw [z]
    decide
  · have k : n.log2 < 10 := (Nat.log2_lt z).mpr (by omega)
    omega
end Dr

set_option Elab.async false
set_option linter.all false
set_option maxRecDepth 100000
set_option maxHeartbeats 4000000
set_option pp.deepTerms false
set_option pp.maxSteps 3000
namespace Dr
open PySem PySem.Spec PyProof.Rows L2
def top (i : Nat) : Stmt := PySem.Challenge.pw_etasure_k63_forms_and_their_ways.main.body.getD i (.Pass ⟨0, 0, 0, 0⟩)
abbrev sBegun : Stmt := top 31
abbrev sBlend : Stmt := top 32
abbrev sTake : Stmt := top 33
abbrev sPick : Stmt := top 34
section
variable {P : Program} {w : World} {K : PySem.W.Frag} {mg : Str → Option Value} {base : Heap} {f fB fT : Addr} {fd fdB fdT : FuncData}
theorem scBegun : FnScope ["script", "large", "cell"] ["script"] (defScope sBegun) := ⟨rfl, rfl, rfl, by decide +kernel, rfl, by decide +kernel, by decide +kernel⟩
theorem ok_begun (F : FnP K "_law_begun" sBegun f fd) (abs0 : mg "abs" = none) : FnOk P w K mg base CX0 1 f fd ["script"] (spBegun K) := by
  refine F.ok scBegun (fun vs H Q E h => ?_) (fun cdv A outer s H vs Q E hr h => ?_)
  · obtain ⟨a, ns, rfl, _⟩ := h
    rfl
  · obtain ⟨a, ns, rfl, hS, hlen, k⟩ := h
    refine ⟨_, PSs.nox (pss_cons (ps_setLc (i := 1) (own := [("cell", 2)]) (g := gName 2) rfl scBegun.nd rfl rfl (sw_true rfl rfl rfl (by decide +kernel)) (pi_list (pv 0)) (blkOk_by (own := [("cell", 2)]) (N := ["script", "large", "cell"]) (sc := defScope sBegun) (by decide +kernel))
        (fun _ _ _ _ _ => pg_name (i := 2) scBegun.nd rfl (Or.inl rfl)) (fun _ _ _ _ _ => pts_one (pt_cmpR op_ge (pe_callB call_abs (by rfl) abs0 boot_abs (pa_cons (pv 2) pa_nil)) (pe_op op_pow pe_int pe_int) (nomark _)))
        (fun _ _ _ _ _ => pe_op op_sub (pe_callB call_abs (by rfl) abs0 boot_abs (pa_cons (pv 2) pa_nil)) (pe_op op_pow pe_int pe_int)))
      (pss_one (ps_ret (pe_disp (pps_cons pe_str (pv 1) (pps_cons pe_str (pe_lc (own := [("cell", 2)]) (g := gName 2) rfl scBegun.nd (pi_list (pv 0)) (blkOk_by (own := [("cell", 2)]) (N := ["script", "large", "cell"]) (sc := defScope sBegun) (by decide +kernel))
        (fun _ _ _ _ _ => pg_name (i := 2) scBegun.nd rfl (Or.inl rfl)) (fun _ _ _ _ _ => pts_nil) (fun _ _ _ _ _ => pe_callB call_abs (by rfl) abs0 boot_abs (pa_cons (pv 2) pa_nil)))
        (pps_cons pe_str pe_int (pps_cons pe_str pe_int pps_nil)))) (by rfl) (by rfl) (fun z => by cases z) (by decide))))), ?_⟩
    refine ⟨_, rfl, a, rfl, ⟨_, hS⟩, fun D hD => lc_list (K := K) (a := a) (xs := ns.map V.int) (fun i H' => ∃ out : List Int, H' D = some (.lst (out.map V.int)) ∧ out.length ≤ i ∧ Same H H')
      ⟨[], upd_same, Nat.le_refl _, same_new hD⟩ (fun i H' _ ⟨_, _, _, s⟩ => s.seq hS) ?_ ?_⟩
    · rintro i x H' hi ⟨out, h1, h2, s⟩
      obtain ⟨z, hz, rfl⟩ := int_at hi
      have hlt : i < ns.length := by
        by_cases q : i < ns.length
        · exact q
        · rw [List.getElem?_eq_none (by omega)] at hz
          cases hz
      refine ⟨rfl, _, rfl, _, rfl, _, _, rfl, rfl, ⟨by decide, by decide, by decide⟩, _, _, rfl, rfl, _, rfl, ?_⟩
      refine ite2 (fun _ => ?_) (fun _ => ?_)
      · refine ⟨_, rfl, _, rfl, _, _, rfl, rfl, ⟨by decide, by decide, by decide⟩, _, _, rfl, rfl, _, h1, ?_, ?_⟩
        · rw [List.length_map]
          exact small1000 (by omega)
        · exact ⟨out ++ [(if z < 0 then -z else z) - 10 ^ (18 : Int).toNat], by rw [upd_same, List.map_append]; rfl, by rw [List.length_append]; show out.length + 1 ≤ i + 1; omega, fun b o e => by rw [upd_ne (ne_of_none e hD)]; exact s b o e⟩
      · exact ⟨out, h1, by omega, s⟩
    · rintro H1 ⟨out, h1, h2, s⟩
      intro p hp
      refine ⟨_, rfl, _, rfl, a, rfl, ⟨ns.map V.int, ?_⟩, fun D2 hD2 => lc_list (K := K) (a := a) (xs := ns.map V.int) (fun i H' => ∃ out : List Int, H' D2 = some (.lst (out.map V.int)) ∧ out.length ≤ i ∧ Same (upd H1 p (.dK [])) H')
        ⟨[], upd_same, Nat.le_refl _, same_new hD2⟩ (fun i H' _ ⟨_, _, _, s2⟩ => (s.trans ((same_new hp).trans s2)).seq hS) ?_ ?_⟩
      · exact ((same_new hp).seq (s.seq hS))
      · rintro i x H' hi ⟨out2, g1, g2, s2⟩
        obtain ⟨z, hz, rfl⟩ := int_at hi
        have hlt : i < ns.length := by
          by_cases q : i < ns.length
          · exact q
          · rw [List.getElem?_eq_none (by omega)] at hz
            cases hz
        refine ⟨rfl, yesT ?_⟩
        refine ⟨_, rfl, _, rfl, _, g1, ?_, ?_⟩
        · rw [List.length_map]
          exact small1000 (by omega)
        · exact ⟨out2 ++ [(if z < 0 then -z else z)], by rw [upd_same, List.map_append]; rfl, by rw [List.length_append]; show out2.length + 1 ≤ i + 1; omega, fun b o e => by rw [upd_ne (ne_of_none e hD2)]; exact s2 b o e⟩
      · rintro H2 ⟨out2, g1, g2, s2⟩
        have hp2 : H2 p = some (.dK []) := s2 _ _ upd_same
        refine ⟨hp2, drK D D2 0 0, rfl, (by show 4 ≤ 15; decide), ?_⟩
        have nD : D ≠ p := ne_of_none h1 hp
        have nD2 : D2 ≠ p := (ne_of_none upd_same hD2).symm
        have e1 : H2 D = some (.lst (out.map V.int)) := s2 _ _ (by rw [upd_ne nD]; exact h1)
        have nDD : D ≠ D2 := ne_of_none (o := .lst (out.map V.int)) (by rw [upd_ne nD]; exact h1) hD2
        have em : mergeK [] (drK D D2 0 0) = drK D D2 0 0 := merge_dr
        rw [em]
        refine k p D D2 _ (s.free hp) hD ((s.trans (same_new hp)).free hD2) (fun b o e => ?_) ⟨out, out2, 0, 0, upd_same, by rw [upd_ne nD]; exact e1, by rw [upd_ne nD2]; exact g1, nDD⟩
        have nb : b ≠ p := ne_of_none (s b o e) hp
        rw [upd_ne nb]
        exact s2 b o (by rw [upd_ne nb]; exact s b o e)
theorem scBlend : FnScope ["draw", "turn", "found", "prime", "stirred", "cell"] ["draw"] (defScope sBlend) := ⟨rfl, rfl, rfl, by decide +kernel, rfl, by decide +kernel, by decide +kernel⟩
theorem ok_blend (F : FnP K "_law_blend" sBlend f fd) (int0 : mg "int" = none) : FnOk P w K mg base CX0 1 f fd ["draw"] spBlend := by
  refine F.ok scBlend (fun vs H Q E h => ?_) (fun cdv A outer s H vs Q E hr h => ?_)
  · obtain ⟨d, l, c, ls, cs, r, t, rfl, _⟩ := h
    rfl
  · obtain ⟨d, l, c, ls, cs, r, t, rfl, D, k⟩ := h
    have hu := hu_of hr
    refine ⟨_, PSs.nox (pss_cons (ps_par (i := 1) (j := 2) (by rfl) scBlend.nd rfl rfl (by decide) rfl rfl (pa_cons (pe_op op_add (pe_dget hu (pv 0) pe_str (fun _ _ => rfl)) pe_int) (pa_cons pe_int pa_nil)) (by rfl))
      (pss_cons (ps_dput hu (pv 0) pe_str (pv 1) rfl)
      (pss_cons (ps_for PassesOwn.never rfl (pi_list (pe_lst (pa_cons pe_int (pa_cons pe_int (pa_cons pe_int pa_nil))))) (pg_name (i := 3) scBlend.nd rfl (Or.inl rfl))
        (pss_cons (ps_set (i := 4) scBlend.nd rfl (Or.inl rfl) (pe_op op_mod (pe_callTy call_int1 (by rfl) int0 boot_int (pa_cons (pe_op op_add (pe_op op_mul (pv 1) pe_int) (pe_op op_fdiv (pv 3) pe_int)) pa_nil)) (pv 3)))
        (pss_cons (ps_for PassesOwn.never rfl (pi_list (pe_dget hu (pv 0) pe_str (fun _ _ => rfl))) (pg_name (i := 5) scBlend.nd rfl (Or.inl rfl))
          (pss_one (ps_set (i := 4) scBlend.nd rfl (Or.inl rfl) (pe_op op_mod (pe_callTy call_int1 (by rfl) int0 boot_int (pa_cons (pe_op op_add (pe_op op_add (pe_op op_mul (pv 4) pe_int) (pe_callTy call_int1 (by rfl) int0 boot_int (pa_cons (pv 5) pa_nil))) pe_int) pa_nil)) (pv 3)))))
        (pss_one (ps_set (i := 2) scBlend.nd rfl (Or.inl rfl) (pe_op op_add (pe_op op_mul (pv 2) pe_int) (pe_op op_mod (pe_callTy call_int1 (by rfl) int0 boot_int (pa_cons (pe_op op_pow (pv 4) pe_int) pa_nil)) (pv 3))))))))
      (pss_one (ps_ret (pv 2)))))), ?_⟩
    refine ⟨_, rfl, d, _, rfl, D.gTurn, _, _, rfl, rfl, _, _, rfl, ?_⟩
    refine ⟨_, rfl, _, rfl, d, _, rfl, D.pTurn _, ?_⟩
    have D1 := D.turn (t + 1)
    refine ⟨(by show 3 ≤ sizeLine; decide), fun p hp => ?_⟩
    have D2 := D1.same (same_new (o := .lst ([2147483629, 2147483587, 2147483579].map V.int)) hp)
    refine ⟨p, rfl, ⟨[2147483629, 2147483587, 2147483579].map V.int, SqL.of upd_same⟩, for_list (K := K) (a := p) (xs := [2147483629, 2147483587, 2147483579].map V.int)
      (fun i σ H2 => ∃ (v : Int) (x3 x4 x5 : Option V), σ = [some (.ref d), some (.int (t + 1)), some (.int v), x3, x4, x5] ∧ H2 = upd (upd H d (.dK (drK l c r (t + 1)))) p (.lst ([2147483629, 2147483587, 2147483579].map V.int)))
      ⟨0, none, none, none, rfl, rfl⟩ (fun i σ H2 _ ⟨_, _, _, _, _, e⟩ => by rw [e]; exact SqL.of upd_same) ?_ ?_⟩
    · rintro i x σ H2 hi ⟨v, x3, x4, x5, rfl, rfl⟩
      obtain ⟨q, hq, rfl⟩ := int_at hi
      have hq2 : 0 < q ∧ q ≤ 2147483648 := by
        rcases i with _ | _ | _ | i
        · cases hq; exact ⟨by decide, by decide⟩
        · cases hq; exact ⟨by decide, by decide⟩
        · cases hq; exact ⟨by decide, by decide⟩
        · cases hq
      refine ⟨_, rfl, _, _, rfl, rfl, .inr ⟨by decide, by decide⟩, _, rfl, _, _, rfl, rfl, ⟨by decide, by decide⟩, _, _, rfl, rfl, .inl ⟨_, rfl, _, rfl, _, _, rfl, rfl, hq2.1, ?_⟩⟩
      refine ⟨_, rfl, d, _, rfl, D2.gCells, c, rfl, ⟨cs.map V.int, SqL.of D2.dc⟩, for_list (K := K) (a := c) (xs := cs.map V.int)
        (fun j σ H2 => ∃ (z : Int) (y5 : Option V), σ = [some (.ref d), some (.int (t + 1)), some (.int v), some (.int q), some (.int z), y5] ∧ 0 ≤ z ∧ z < q ∧ H2 = upd (upd H d (.dK (drK l c r (t + 1)))) p (.lst ([2147483629, 2147483587, 2147483579].map V.int)))
        ⟨_, x5, rfl, Int.emod_nonneg _ (by omega), Int.emod_lt_of_pos _ hq2.1, rfl⟩ (fun j σ H2 _ ⟨_, _, _, _, _, e⟩ => by rw [e]; exact SqL.of D2.dc) ?_ ?_⟩
      · rintro j x σ H2 hj ⟨z, y5, rfl, z0, z1, rfl⟩
        obtain ⟨u, hu2, rfl⟩ := int_at hj
        refine ⟨_, rfl, _, _, rfl, rfl, .inr ⟨by decide, by decide⟩, _, rfl, .inl ⟨_, rfl, _, _, rfl, rfl, _, _, rfl, rfl, .inl ⟨_, rfl, _, rfl, _, _, rfl, rfl, hq2.1, ?_⟩⟩⟩
        exact ⟨_, some (.int u), rfl, Int.emod_nonneg _ (by omega), Int.emod_lt_of_pos _ hq2.1, rfl⟩
      · rintro σ H2 ⟨z, y5, rfl, z0, z1, rfl⟩
        refine ⟨_, rfl, _, _, rfl, rfl, .inr ⟨by decide, by decide⟩, _, rfl, _, _, rfl, rfl, pow_small z0 z1 hq2.2, .inl ⟨_, rfl, _, rfl, _, _, rfl, rfl, hq2.1, _, _, rfl, rfl, ?_⟩⟩
        exact ⟨_, some (.int q), some (.int z), y5, rfl, rfl⟩
    · rintro σ H2 ⟨v, x3, x4, x5, rfl, rfl⟩
      exact ⟨_, rfl, k v (t + 1) _ D2 (sameX_d.trans (sameX_new hp))⟩
theorem scTake : FnScope ["draw", "size", "found"] ["draw", "size"] (defScope sTake) := ⟨rfl, rfl, rfl, by decide +kernel, rfl, by decide +kernel, by decide +kernel⟩
theorem ok_take (F : FnP K "_law_take" sTake f fd) (int0 : mg "int" = none) (FB : FnP K "_law_blend" sBlend fB fdB) (gB : mg "_law_blend" = some (.ref fB)) : FnOk P w K mg base CX0 2 f fd ["draw", "size"] spTake := by
  have GB : FnOk P w K mg base CX0 1 fB fdB ["draw"] spBlend := ok_blend FB int0
  have bB : Binds K fdB ["draw"] [] := FB.bindsN fun _ _ _ _ _ _ us hl => match us, hl with | [_], _ => rfl
  refine F.ok scTake (fun vs H Q E h => ?_) (fun cdv A outer s H vs Q E hr h => ?_)
  · obtain ⟨d, l, c, n, rfl, _⟩ := h
    rfl
  · obtain ⟨d, l, c, n, rfl, ⟨ls, cs, r, t, D⟩, n0, n1, k⟩ := h
    have hu := hu_of hr
    refine ⟨_, PSs.nox (pss_cons (ps_while PassesOwn.never (PW.pt (pw_and (pt_cmpR op_eq (pe_dget hu (pv 0) pe_str (fun _ _ => rfl)) pe_int (nomark _)) (pw_and1 (pt_cmpR (op_neD hr.units) (pe_dget hu (pv 0) pe_str (fun _ _ => rfl)) (pe_lst pa_nil) (nomark _)))))
        (pss_one (ps_dput hu (pv 0) pe_str (pe_bm PySem.F.plainAttrs_list PySem.F.slot_list_pop PySem.F.type_list_pop mt_popAt (pe_dget hu (pv 0) pe_str (fun _ _ => rfl)) (pa_cons pe_int pa_nil)) rfl)))
      (pss_cons (ps_if (pt_cmpR op_eq (pe_dget hu (pv 0) pe_str (fun _ _ => rfl)) pe_int (nomark _))
          (pss_one (ps_dput hu (pv 0) pe_str (pe_call GB hr rfl gB FB.kp bB .nil pass0 (pa_cons (pv 0) pa_nil)) rfl)) pss_nil)
      (pss_cons (ps_set (i := 2) scTake.nd rfl (Or.inl rfl) (pe_op op_mod (pe_callTy call_int1 (by rfl) int0 boot_int (pa_cons (pe_dget hu (pv 0) pe_str (fun _ _ => rfl)) pa_nil)) (pv 1)))
      (pss_cons (ps_dput hu (pv 0) pe_str (pe_op op_fdivW (pe_callTy call_int1 (by rfl) int0 boot_int (pa_cons (pe_dget hu (pv 0) pe_str (fun _ _ => rfl)) pa_nil)) (pv 1)) rfl)
      (pss_one (ps_ret (pv 2))))))), ?_⟩
    refine ⟨fun m σ H' => ∃ (ls' : List Int) (r' : Int), σ = [some (.ref d), some (.int n), none] ∧ DrawAt H' d l c ls' cs r' t ∧ SameX d l H H' ∧ m = ls'.length, ⟨_, ls, r, rfl, D, SameX.refl _ _ _, rfl⟩, ?_⟩
    rintro m σ H1 ⟨ls1, r1, rfl, D1, s1, rfl⟩
    refine ⟨_, rfl, d, _, rfl, D1.gRest, rfl, _, rfl, ?_⟩
    refine ite2 (fun e0 => ?_) (fun e0 => ?_)
    · refine ⟨_, rfl, d, _, rfl, D1.gLarge, ?_⟩
      refine ⟨(by show 0 ≤ sizeLine; decide), fun p hp => ?_⟩
      have D2 := D1.same (same_new (o := .lst []) hp)
      have s2 := s1.trans (sameX_new (o := .lst []) hp)
      refine ⟨.list (intsD ls1), .list [], .lst (SqL.of D2.dl) (ints_dp _), .lst (SqL.of upd_same) .nil, ints_shaped _, rfl, _, rfl, ?_⟩
      cases ls1 with
      | nil =>
        refine iteF ?_
        have D1 := D2
        have s1 := s2
        refine ⟨_, rfl, d, _, rfl, D1.gRest, rfl, _, rfl, ?_⟩
        refine ite2 (fun _ => ?_) (fun _ => ?_)
        · refine ⟨_, rfl, d, l, c, _, cs, _, t, rfl, D1, fun v t' H2 D2 s2 => ?_⟩
          have DD := D2.rest v
          have SS := (s1.trans s2).trans (sameX_d (o := .dK (drK l c v t')))
          refine ⟨_, rfl, d, _, rfl, D2.pRest v, ?_⟩
          refine ⟨_, rfl, d, _, rfl, DD.gRest, .inl ⟨_, rfl, _, rfl, _, _, rfl, rfl, n0, ?_⟩⟩
          refine ⟨_, rfl, d, _, rfl, DD.gRest, .inl ⟨_, rfl, _, rfl, _, _, rfl, rfl, ⟨n0, n1⟩, _, rfl, d, _, rfl, DD.pRest _, _, rfl, ?_⟩⟩
          exact k _ _ (Int.emod_nonneg _ (by omega)) (Int.emod_lt_of_pos _ n0) ⟨_, cs, _, _, DD.rest _⟩ (SS.trans sameX_d)
        · have DD := D1
          have SS := s1
          refine ⟨_, rfl, d, _, rfl, DD.gRest, .inl ⟨_, rfl, _, rfl, _, _, rfl, rfl, n0, ?_⟩⟩
          refine ⟨_, rfl, d, _, rfl, DD.gRest, .inl ⟨_, rfl, _, rfl, _, _, rfl, rfl, ⟨n0, n1⟩, _, rfl, d, _, rfl, DD.pRest _, _, rfl, ?_⟩⟩
          exact k _ _ (Int.emod_nonneg _ (by omega)) (Int.emod_lt_of_pos _ n0) ⟨_, cs, _, _, DD.rest _⟩ (SS.trans sameX_d)
      | cons z zs =>
        refine iteT ⟨_, fun σ' H' e => e, ?_⟩
        refine ⟨_, rfl, d, _, rfl, D2.gLarge, .inl ⟨rfl, _, SqL.of D2.dl⟩, ?_⟩
        refine ⟨l, _, _, 0, V.int z, rfl, rfl, D2.dl, by decide, by decide, pop_ix _, rfl, ?_⟩
        have D3 := D2.pop (ls' := zs)
        refine ⟨_, rfl, d, _, rfl, D3.pRest _, ?_⟩
        exact ⟨zs.length, Nat.lt_succ_self _, zs, z, rfl, D3.rest z, (s2.trans sameX_l).trans sameX_d, rfl⟩
    · refine iteF ?_
      refine ⟨_, rfl, d, _, rfl, D1.gRest, rfl, _, rfl, ?_⟩
      refine ite2 (fun _ => ?_) (fun _ => ?_)
      · refine ⟨_, rfl, d, l, c, _, cs, _, t, rfl, D1, fun v t' H2 D2 s2 => ?_⟩
        have DD := D2.rest v
        have SS := (s1.trans s2).trans (sameX_d (o := .dK (drK l c v t')))
        refine ⟨_, rfl, d, _, rfl, D2.pRest v, ?_⟩
        refine ⟨_, rfl, d, _, rfl, DD.gRest, .inl ⟨_, rfl, _, rfl, _, _, rfl, rfl, n0, ?_⟩⟩
        refine ⟨_, rfl, d, _, rfl, DD.gRest, .inl ⟨_, rfl, _, rfl, _, _, rfl, rfl, ⟨n0, n1⟩, _, rfl, d, _, rfl, DD.pRest _, _, rfl, ?_⟩⟩
        exact k _ _ (Int.emod_nonneg _ (by omega)) (Int.emod_lt_of_pos _ n0) ⟨_, cs, _, _, DD.rest _⟩ (SS.trans sameX_d)
      · have DD := D1
        have SS := s1
        refine ⟨_, rfl, d, _, rfl, DD.gRest, .inl ⟨_, rfl, _, rfl, _, _, rfl, rfl, n0, ?_⟩⟩
        refine ⟨_, rfl, d, _, rfl, DD.gRest, .inl ⟨_, rfl, _, rfl, _, _, rfl, rfl, ⟨n0, n1⟩, _, rfl, d, _, rfl, DD.pRest _, _, rfl, ?_⟩⟩
        exact k _ _ (Int.emod_nonneg _ (by omega)) (Int.emod_lt_of_pos _ n0) ⟨_, cs, _, _, DD.rest _⟩ (SS.trans sameX_d)
/-! ### _law_pick -/
theorem scPick : FnScope ["draw", "some"] ["draw", "some"] (defScope sPick) := ⟨rfl, rfl, rfl, by decide +kernel, rfl, by decide +kernel, by decide +kernel⟩
theorem ok_pick (F : FnP K "_law_pick" sPick f fd) (len0 : mg "len" = none) (GT : FnOk P w K mg base CX0 2 fT fdT ["draw", "size"] spTake) (bT : Binds K fdT ["draw", "size"] []) (gT : mg "_law_take" = some (.ref fT)) (kT : PySem.W.keepIn K (.ref fT) = true) :
    FnOk P w K mg base CX0 3 f fd ["draw", "some"] (spPick K) := by
  refine F.ok scPick (fun vs H Q E h => ?_) (fun cdv A outer s H vs Q E hr h => ?_)
  · obtain ⟨d, l, c, a, xs, rfl, _⟩ := h
    rfl
  · obtain ⟨d, l, c, a, xs, rfl, D, hA, hne, hlen, q⟩ := h
    refine ⟨_, PSs.nox (pss_one (ps_ret (pe_ix ix_list (pv 1) (pe_call GT hr rfl gT kT bT .nil pass0 (pa_cons (pv 0) (pa_cons (pe_callB call_len (by rfl) len0 PySem.boot_len (pa_cons (pv 1) pa_nil)) pa_nil))) (fun _ _ => rfl)))), ?_⟩
    have h0 : 0 < xs.length := List.length_pos_iff.mpr hne
    refine ⟨_, rfl, _, rfl, _, rfl, _, xs.length, rfl, .inl ⟨_, hA H (SameX.refl _ _ _), rfl⟩, d, l, c, _, rfl, D, by omega, log_small hlen, fun v H' v0 v1 D' s' => ?_⟩
    obtain ⟨i, rfl⟩ : ∃ i : Nat, v = (i : Int) := ⟨v.toNat, by omega⟩
    have hi : i < xs.length := by omega
    refine ⟨a, xs, _, xs[i], rfl, rfl, hA H' s', atI_nat (by simp [hi]), ?_⟩
    exact q _ _ (List.getElem_mem hi) D' s'
end
end Dr

set_option Elab.async false
set_option linter.all false
set_option maxRecDepth 100000
set_option maxHeartbeats 4000000
set_option pp.maxSteps 3000
namespace Xv
open PySem PySem.Spec PyProof.Rows L2
/-! ### errors of own classes as values -/
/-- at a an error of the class at C: without a dict, or with its dict at d -/
def ErrAt (H : Hp) (a C : Addr) : Prop := H a = some (ExO (.ref C) a) ∨ ∃ d fs, H a = some (exo a C (some d)) ∧ H d = some (exd d fs)
section
variable {X : Cx} {pins : List (Addr × Obj)} {σ : L2.St} {H : Hp} {s : Shared} {a C : Addr}
theorem errAt_inst (I : Inv X pins σ H s) (h : ErrAt H a C) : ∃ ox od, PySem.W.InstAt s.heap a ox C od := by
  rcases h with h | ⟨d, fs, h, hd⟩
  · have q : ObjOk X.prog X.w H s.heap a (ExO (.ref C) a) := I.hok a _ h
    obtain ⟨⟨oe, vs, e, z, dt, _⟩, _⟩ := q
    obtain ⟨oc, od, oda, osl⟩ := oe
    obtain ⟨z1, z2⟩ := z
    dsimp only at z1 z2 dt
    subst z1 z2 dt
    exact ⟨_, none, e, rfl, rfl, trivial⟩
  · obtain ⟨t1, ho⟩ := exo_at I.hok h
    obtain ⟨mA, ⟨od, es, ep, e2, _⟩, _⟩ := exd_at I.hok hd
    exact ⟨_, some od, ho, rfl, rfl, e2⟩
/-- isinstance(e, c), e such an error -/
def rIsErr (K : PySem.W.Frag) : List V → Hp → VK → Prop := fun xs H Q => ∃ (a C : Addr) (c : V) (cv : Value) (b : Bool), xs = [.ref a, c] ∧ ErrAt H a C ∧ ExcC K C ∧ (∀ u, RelV c u → u = cv) ∧ PySem.W.kitOne K (.ref C) cv = some b ∧ Q (.bl b) H
theorem call_isErr : CallR X (.builtin "isinstance") (rIsErr X.K) := by
  intro pins s σ H xs us Q I r h
  obtain ⟨a, C, c, cv, b, rfl, he, T, hc, hk, q⟩ := h
  obtain ⟨u1, u2, rfl, r1, r2⟩ := vals2 r
  cases (show u1 = Value.ref a from r1)
  have e2 := hc _ r2
  subst e2
  obtain ⟨ox, od, J⟩ := errAt_inst I he
  obtain ⟨cd, hcd, _⟩ := PySem.W.any_some T.hd
  exact PySem.W.kia_one (PySem.W.kitx_exc (by rw [hcd]; rfl) T.hg T.hk T.hs T.ha T.hn T.ht T.hm) I.kIn J hk (fun z => nomatch z) fun tk => ⟨.bl b, H, I.tok tk, rfl, q⟩
end
/-! ### e.f of an error that holds its fields -/
structure ErrRd (K : PySem.W.Frag) (C : Addr) (f : Str) : Prop where
  ga : PySem.W.findIn K (.ref C) "__getattribute__" = some (some (.builtin "BaseException.__getattribute__"))
  gg : PySem.W.findIn K (.ref C) "__getattr__" = some none
  sub : PySem.W.subIn K (.ref C) (.type "BaseException") = some true
  hd : PySem.W.hasDictIn K C = true
  no : PySem.W.findIn K (.ref C) f = some none
def tErrF (K : PySem.W.Frag) (f : Str) (te : TE) : TE := fun σ H Q => te σ H fun x H1 => ∃ (a C d : Addr) (fs : List (Str × V)) (v : V), x = .ref a ∧ H1 a = some (exo a C (some d)) ∧ H1 d = some (exd d fs) ∧ ErrRd K C f ∧ fs.lookup f = some v ∧ Q v H1
section
variable {X : Cx}
theorem pe_errF {e : Expr} {te : TE} {f : Str} {pos : Pos} (he : PE X e te) (hb : attributeBase e f X.env (eval e X.env) = eval e X.env := by rfl) : PE X (.Attribute e f pos) (tErrF X.K f te) := by
  refine ⟨fun pins s σ H Q I h => attr_of hb (thn (he.run pins s σ H _ I h) fun u s1 hh => ?_)⟩
  obtain ⟨x, H1, I1, rx, a, C, d, fs, v, ex, ha, hd, T, hl, q⟩ := hh
  subst ex
  cases (show u = Value.ref a from rx)
  obtain ⟨t1, ho⟩ := exo_at I1.hok ha
  obtain ⟨mA, hns, hr⟩ := exd_at I1.hok hd
  obtain ⟨od, hod, hlk⟩ := lookIn_ns hns
  obtain ⟨u, hu, ru⟩ := RelO.some_of (v := v) (o := mA f) (by rw [← hl]; exact hr f)
  have J : PySem.W.InstAt s1.heap a _ C (some od) := ⟨ho, rfl, rfl, hod⟩
  exact PySem.HandSPX.exc_get I1.kIn J T.ga T.gg T.sub (PySem.W.findObj_own T.hd T.no rfl (by rw [hlk, hu])) (handed_of ru) ⟨v, H1, I1.tok _, ru, q⟩
end
/-! ### S.__init__(self, ..), S an own class over ValueError without an __init__ of its own -/
section
variable {X : Cx} {o e : Expr} {es : List Expr} {ta : TA} {x : Str} {p1 p2 pos : Pos}
theorem pe_sinit {S : Addr} {mc : Value} {pl : Sem Bool} (hg : Gl X x) (hm : X.mg x = some (.ref S)) (kS : PySem.W.keepIn X.K (.ref S) = true) (rd : PySem.W.readsIn X.K S mc = true) (sg : PySem.W.specialIn X.K (.ref S) "__getattribute__" = some (some (.builtin "type.__getattribute__")))
    (vV : PySem.W.findCls X.K (.ref S) mc "__init__" = some (.val (.builtin "ValueError.__init__"))) (ha : PA X (e :: es) ta) (hdb : (x == ("__debug__" : Str)) = false := by decide)
    (hc : eval (.Call (.Attribute (.Name x p1) "__init__" p2) (e :: es) [] pos) X.env = (do
      let ov ← eval (.Name x p1) X.env
      standAt p2.atName
      let (f, first) ← holding [ov] (getMethod ov "__init__" pl)
      callWith pos f first (backTo pos (starEach (e :: es) X.env)) (backToKw pos (keywordEach [] X.env))) := by rfl)
    (he : starEach (e :: es) X.env = (false, eval e X.env) :: starEach es X.env := by rfl) (hpl : (backTo pos (starEach es X.env)).any (·.1) = false := by rfl) :
    PE X (.Call (.Attribute (.Name x p1) "__init__" p2) (e :: es) [] pos) (tVeI X.K ta) := by
  refine ⟨fun pins s σ H Q I h => PySem.W.methodCall_KW (ld_glob I hg hm ?_ hdb) hc⟩
  refine PySem.W.method_cls I.kIn sg (PySem.W.cls_value I.kIn rd vV (by decide +kernel) ?_)
  show wpAny _ _ (callWith pos (Value.builtin "ValueError.__init__") [] (backTo pos (starEach (e :: es) X.env)) []) _ _ _
  refine PyProof.Rows.callWith_method1 (thn (ha.run pos pins _ σ H _ (I.tok _) h) fun us s1 hh => ?_) he hpl
  obtain ⟨vs, H1, I1, r1, a, C, ws, ev, hl, T, ea, q⟩ := hh
  subst ev
  cases r1 with
  | @cons _ u0 _ ur ra rw' =>
    cases (show u0 = Value.ref a from ra)
    have hlen : ur.length ≤ sizeLine := by
      have e1 := Paired.length rw'
      rw [sizeLine_eq]
      omega
    exact oinit_ok T I1 ea hlen fun s' J => ⟨.non, H1, J, rfl, q⟩
end
/-! ### C(e, ..) of such a class as a value, its own __init__ walked as a def -/
def tErrV (C : Addr) (sp : Sp) (E : XK) (ta : TA) : TE := fun σ H Q => ta σ H fun vs H1 => vs.length ≤ 1000 ∧ ∀ a, H1 a = none → sp (.ref a :: vs) (upd H1 a (exo a C none)) (fun v H2 => v = .non ∧ Q (.ref a) H2) E
section
variable {X : Cx} {e : Expr} {es : List Expr} {ta : TA} {x : Str} {p pos : Pos}
theorem pe_errV {CX : CXT} {C fI : Addr} {k : Nat} {fd : FuncData} {ps : List Str} {sp : Sp} {E : XK} (T : OexC X.K C) (iC : PySem.W.findIn X.K (.ref C) "__init__" = some (some (.ref fI))) (tI : PySem.W.typeIn X.K (.ref fI) = some (.type "function"))
    (F1 : FnOk X.prog X.w X.K X.mg X.base CX k fI fd ps sp) (hr : Room (k + 1) X.A) (hb : Binds X.K fd ps []) (hx : Passes CX X E) (hg : Gl X x) (hm : X.mg x = some (.ref C)) (ha : PA X (e :: es) ta)
    (hdb : (x == ("__debug__" : Str)) = false := by decide) (he : starEach (e :: es) X.env = (false, eval e X.env) :: starEach es X.env := by rfl) (hpl : (backTo pos (starEach es X.env)).any (·.1) = false := by rfl) :
    PE X (.Call (.Name x p) (e :: es) [] pos) (tErrV C sp E ta) := by
  refine ⟨fun pins s σ H Q I h => wpAny_Call_Name_kw (ld_glob I hg hm ?_ hdb)⟩
  obtain ⟨nm, q, N, bs, bm, sn, sub, ab, col, dd, k0, k1, k2, k3, k5, hC, hbm⟩ := T.cls
  refine PySem.W.callWith_K (h₀ := X.base) I.ok.mod.kin T.kC (thn (ha.run pos pins s σ H _ I h) fun us s1 hh => ?_) he hpl
  obtain ⟨vs, H1, I1, r1, hz, q1⟩ := hh
  refine ⟨I1.kIn, ?_⟩
  show wpAny _ _ (call (.ref C) us) _ _ _
  obtain ⟨hp, g, dr, tk, os⟩ := s1
  have hq := q1 (hp.objs.size + 1) (I1.hok.fresh (Nat.le_succ _))
  have I2 : Inv X pins σ (upd H1 (hp.objs.size + 1) (exo (hp.objs.size + 1) C none)) ⟨(hp.push (PySem.W.kdv_tup us)).push (PySem.HandSPX.excO C hp.objs.size), g, dr, tk, os⟩ :=
    I1.laid (t' := tk) (fun b o z => Heap.get?_push_of_some _ (Heap.get?_push_of_some _ z)) (Nat.le_succ _) (L2.exo_ok (by heap_get))
  have r2 : Vals (V.ref (hp.objs.size + 1) :: vs) (Value.ref (hp.objs.size + 1) :: us) := .cons rfl r1
  have hl : (Value.ref (hp.objs.size + 1) :: us).length = ps.length := by rw [← r2.length]; exact F1.len _ _ _ _ hq
  have hb2 := hb _ (Value.ref (hp.objs.size + 1) :: us) I2.kIn (by simpa using hl)
  rw [List.append_nil] at hb2
  have hus : us.length ≤ sizeLine := by
    have e1 := Paired.length r1
    rw [sizeLine_eq]
    omega
  refine wpAny_call (PySem.HandSPX.call_own F.excBase_ValueError (fun Y => PySem.HandSPX.refsVE_contains Y bm hbm) (I1.kIn _ _ hC) (PySem.W.looks_findIn I1.kIn iC) (fun self => PySem.W.bind_fn I1.kIn self tI) hus (codeAny_mono
    (F1.run _ X.stack _ _ ⟨_, []⟩ _ _ _ E (hr.make C us []) (I2.env0.make C us []) hb2 r2 hq) fun r s' hq' => ?_))
  rcases r with er | fl
  · exact hx pins σ _ _ er s' I2 hq'
  · cases fl with
    | ret u =>
      obtain ⟨v, H', I3, rv, ev, q3⟩ := I2.after hq'
      subst ev
      exact ⟨rv, ⟨V.ref (hp.objs.size + 1), H', I3, rfl, q3⟩⟩
    | next => exact hq'.elim
    | brk => exact hq'.elim
    | cont => exact hq'.elim
end
end Xv

set_option Elab.async false
set_option linter.all false
set_option maxRecDepth 100000
set_option maxHeartbeats 4000000
set_option pp.maxSteps 3000
/-! try: .. except x as n: suite, the exception known behind the try -/
namespace Xv
open PySem PySem.Spec PyProof.Rows L2
/-- at a an exception of the class cls, its dict d -/
def ErX (cls : Value) (d : Option Addr) (a : Addr) : HO := .ext fun h => ∃ (oe : Obj) (vs : Array Value), h.get? a = some oe ∧ Zc cls d oe ∧ oe.data = .fields vs
section
variable {X : Cx} {pins : List (Addr × Obj)} {σ : L2.St} {H : Hp} {s : Shared} {a : Addr} {oe : Obj} {vs : Array Value} {cls : Value} {d : Option Addr}
/-- a pinned exception that was not there at the entry is tracked -/
theorem track (I : Inv X ((a, oe) :: pins) σ H s) (hex : X.ex = []) (n0 : X.s_0.heap.get? a = none) (hz : Zc cls d oe) (hd : oe.data = .fields vs) (hA : ∀ p ∈ X.pn ++ pins, p.1 ≠ a) : Inv X pins σ (upd H a (ErX cls d a)) s := by
  obtain ⟨ha, hn, nL, nF, _⟩ := I.pin (a, oe) (List.mem_append_right _ List.mem_cons_self)
  have old : ∀ b o, X.s_0.heap.get? b = some o → b ≠ a := fun b o e z => by
    rw [z, n0] at e
    cases e
  have nl : X.env.locals ≠ a := fun z => nL z.symm
  have cl : ∀ x c, X.env.cells.lookup x = some c → c ≠ a := fun x c e z => by
    obtain ⟨v, o, q1, q2⟩ := I.cell x c e
    rw [z] at q1
    have ha' : s.heap.get? a = some oe := ha
    rw [ha'] at q1
    cases q1
    rw [hd] at q2
    cases q2
  have J : Inv X pins σ H s := ClX.unpin I
  refine ⟨J.ok, J.os, J.bare, ⟨J.base.keep, J.base.slot, fun b o e n hx => ?_, J.base.there, fun b xs e => ?_, fun b o u e => ?_, fun b ps e => ?_⟩, J.loc, J.cell, ?_, fun x c e => ?_, fun p hp => ?_, fun b o e => ?_, J.len⟩
  · rw [upd_ne (old b o e)]
    exact J.base.free b o e n hx
  · have q := J.base.tups b xs e
    rw [upd_ne (ne_of_none q hn)]
    exact q
  · have q := J.base.frzs b o u e
    rw [upd_ne (ne_of_none q hn)]
    exact q
  · obtain ⟨more, q⟩ := J.base.tbls b ps e
    exact ⟨more, by rw [upd_ne (ne_of_none q hn)]; exact q⟩
  · rw [upd_ne nl]
    exact J.free
  · rw [upd_ne (cl x c e)]
    exact J.freeC x c e
  · obtain ⟨e1, e2, e3, e4, e5⟩ := J.pin p hp
    exact ⟨e1, by rw [upd_ne (hA p hp)]; exact e2, e3, e4, e5⟩
  · by_cases hb : b = a
    · subst hb
      rw [upd_same] at e
      cases e
      exact ⟨⟨oe, vs, ha, hz, hd⟩, ⟨oe, ha⟩, fun h1 h2 q k => by
        obtain ⟨o, w, q1, q2⟩ := q
        exact ⟨o, w, k o q1, q2⟩⟩
    · rw [upd_ne hb] at e
      exact (J.hok b o e).stay (fun c v _ q => q) (fun c q => by rw [upd_ne (ne_of_none q hn)]; exact q) fun c xs q => by rw [upd_ne (ne_of_none q hn)]; exact q
end
/-- what the clause wishes of an exception of the body: behind the suite the exception is known -/
def wKeep (K : PySem.W.Frag) (len : Nat) (c : Value) (i : Nat) (ts : TS) (Wout : WX) (D : Ends) : WX := fun cls d σ H => σ.length = len → ∃ b, PySem.W.exmOne K cls c = some b ∧
  (b = true → ∀ a, H a = none → ts { nx := fun σ' H' => D.nx (σ'.set i none) (upd H' a (ErX cls d a)), rt := fun _ _ => False, bk := fun _ _ => False, ct := fun _ _ => False } (σ.set i (some (.ref a))) H) ∧ (b = false → Wout cls d σ H)
section
variable {X : Cx} {x n : Str} {c : Value} {i : Nat} {body suite : List Stmt} {b0 : Stmt} {np pos pos' : Pos} {tb : WX → TS} {ts : TS} {Wout : WX}
theorem ps_try_keep (hs : X.stack = X.env :: X.outer) (hf : X.env.frame = some X.env.locals) (hN : X.N.Nodup) (hex : X.ex = []) (hi : X.N[i]? = some n) (hln : X.env.kindOf n = some .local) (hc : Names X x c) (tk : Takes X Wout)
    (hb : ∀ (W : WX) (pn : List (Addr × Obj)) (xe : Value → Shared → Prop), Takes (X.tr pn xe) W → PSs (X.tr pn xe) body (tb W)) (hsu : ∀ (a : Addr) (oe : Obj) (pn : List (Addr × Obj)), PSs (X.suite a ((a, oe) :: pn)) (b0 :: suite) ts) :
    PS X (.Try body [.ExceptHandler (some (.Name x np)) (some n) (b0 :: suite) pos'] [] [] pos) (fun D σ H => tb (wKeep X.K X.N.length c i ts Wout D) D σ H) := by
  refine ⟨fun pins s σ H D I h => ?_⟩
  have ok := I.ok
  have frm : X.A.frames = some (X.env :: X.outer) := by
    rw [ok.frames, hs]
  refine wpAny_Try_except (wpAny_mono ((hb (wKeep X.K X.N.length c i ts Wout D) (X.pn ++ pins) (fun e s1 => wpAny (model X.prog X.w) X.A (noteFrame e X.env) (fun _ s2 => wpAny (model X.prog X.w) X.A (setFlight e none) (fun _ s3 => wpAny (model X.prog X.w) X.A
    (handleBy e X.env [.ExceptHandler (some (.Name x np)) (some n) (b0 :: suite) pos']) (SP X pins D) X.xe s3) X.xe s2) X.xe s1) (fun u s' xx => ?_)).run [] s σ H D (I.toTry _) h) (fun f s1 hsp => ?_) (fun _ _ he => he))
  · obtain ⟨a, B, sI, pins', σ', H', cls, d, rfl, J', nb, up, sky, na, os, ag, hw⟩ := xx
    obtain ⟨b, hb1, hyes, hno⟩ := hw J'.len
    have J : Inv X pins σ' H' sI := J'.ofTry ok
    rw [hs] at sky
    refine Sky.land Zc.steady frm hf sky fun h3 fl3 up3 => ?_
    have J3 : Inv X pins σ' H' { s' with heap := h3 } := J.landed nb fl3.1 (up.trans up3) os ag
    obtain ⟨oe3, vs3, he3, hz3, hd3⟩ := fl3.there
    have nfr : a ∉ frs (X.env :: X.outer) := fun hm => by
      obtain ⟨_, o', e', hnf⟩ := fl3.2.2.1.mem hm
      rw [he3] at e'
      cases e'
      exact hnf _ hd3
    have nL : a ≠ X.env.locals := fun z => nfr (List.mem_filterMap.mpr ⟨X.env, List.mem_cons_self, by rw [hf, z]⟩)
    have nF : a ∉ X.fs := fun hm => by
      obtain ⟨e, he, q⟩ := List.mem_filterMap.mp hm
      exact nfr (List.mem_filterMap.mpr ⟨e, List.mem_cons_of_mem _ he, q⟩)
    have notB : B.get? a = none := fl3.2.1
    have onB : ∀ b o, sI.heap.get? b = some o → b ∉ frs (X.env :: X.outer) → b ≠ a := fun b o e hm z => by
      have q := nb b o e (by rw [hs]; exact hm)
      rw [z, notB] at q
      cases q
    have n0 : X.s_0.heap.get? a = none := by
      cases e : X.s_0.heap.get? a with
      | none => rfl
      | some o =>
        obtain ⟨o', q⟩ := J.base.there a o e (by rw [hex]; exact fun z => nomatch z)
        exact absurd rfl (onB a o' q nfr)
    have nP : ∀ p ∈ X.pn ++ pins, p.1 ≠ a := fun p hp => by
      obtain ⟨e1, _, e3, e4, _⟩ := J.pin p hp
      refine onB p.1 p.2 e1 fun hm => ?_
      rcases List.mem_cons.mp (show p.1 ∈ X.env.locals :: frs X.outer from by
        have q : frs (X.env :: X.outer) = X.env.locals :: frs X.outer := by
          show (X.env :: X.outer).filterMap (·.frame) = _
          rw [List.filterMap_cons, hf]
          rfl
        rw [← q]
        exact hm) with z | z
      · exact e3 z
      · exact e4 z
    have S3 := J3.suite he3 hd3 na nL nF
    refine wpAny_handleBy_cons (codeAny_handlers_test ?_) (by intro q; cases q)
    have LT : PySem.W.Looks (model X.prog X.w) h3 (typeOf (.ref a)) cls := fun A Q E s k q => wpAny_typeOf_ref (k _ _ he3) (by rw [hz3.1]; exact q)
    have LM := PySem.W.exm_one (M := model X.prog X.w) (J3.kIn) LT hb1
    have test : ∀ {Q : Value → Shared → Prop} {E : Value → Shared → Prop}, Q c { s' with heap := h3 } → wpAny (model X.prog X.w) (X.A.mark (some (.ref a))) (eval (.Name x np) X.env) Q E { s' with heap := h3 } := by
      intro Q E q
      obtain ⟨hg, hdbg, hm | ⟨hm, hv, hnn⟩⟩ := hc
      · exact ld_glob (X := X.suite a ((a, oe3) :: (X.pn ++ pins))) S3 hg hm q hdbg
      · exact ld_blt (X := X.suite a ((a, oe3) :: (X.pn ++ pins))) S3 hg hm hv q hnn hdbg
    refine test (LM.here ?_)
    cases b with
    | true =>
      refine codeAny_handlers_suite_as (HandSPX.lands_againZ fl3 fun h4 fl4 up4 => ?_)
      have J4 : Inv X pins σ' H' { s' with heap := h4 } := J.landed nb fl4.1 ((up.trans up3).trans up4) os ag
      obtain ⟨oe4, vs4, he4, hz4, hd4⟩ := fl4.there
      refine store_ok (X := X.suite a ((a, oe4) :: (X.pn ++ pins))) (v := .ref a) (J4.suite he4 hd4 na nL nF) hN hi (.inl hln) rfl (fun s5 S5 => ?_) (.inr hln)
      refine wpAny_mono ((hsu a oe4 (X.pn ++ pins)).run [] s5 _ H' _ S5 (hyes rfl a na)) (fun f s6 hsp => ?_) (fun _ _ z => False.elim z)
      cases f with
      | next =>
        obtain ⟨σ6, H6, S6, q6⟩ := hsp
        have P6 : Inv X ((a, oe4) :: pins) σ6 H6 s6 := (S6.unsuite ok).pins_of fun p hp => by
          rcases List.mem_cons.mp hp with z | z
          · rw [z]
            exact S6.pin (a, oe4) (List.mem_append_left _ List.mem_cons_self)
          · exact S6.pin p (List.mem_append_left _ (List.mem_cons_of_mem _ (List.mem_append_right _ z)))
        exact gone_ok P6 hN hi hln fun s7 J7 => ⟨_, _, track J7 hex n0 hz4 hd4 nP, q6⟩
      | brk =>
        obtain ⟨_, _, _, q6⟩ := hsp
        exact q6.elim
      | cont =>
        obtain ⟨_, _, _, q6⟩ := hsp
        exact q6.elim
      | ret u =>
        obtain ⟨_, _, _, _, _, q6⟩ := hsp
        exact q6.elim
    | false =>
      show wpAny _ X.A (handleBy (.ref a) X.env []) _ _ _
      refine wpAny_handleBy_nil ?_
      obtain ⟨k1, k2, k3, oe, vs, T, oT, ts', he, hz, hd, h1, hr⟩ := id fl3
      unfold PySem.passOn
      refine wpAny_bind (wpAny_field he hd h1 ?_)
      rw [if_neg (show ¬ ((Value.ref T == Value.none) = true) from by simp)]
      have fin : wpAny (model X.prog X.w) X.A (setFlight (.ref a) X.env.frame) (fun _ s4 => wpAny (model X.prog X.w) X.A (throw (.ref a) : Sem Flow) (SP X pins D) X.xe s4) X.xe { s' with heap := h3 } := by
        rw [hf]
        exact HandSPX.setFlight_upZ fl3 fun h4 hh4 up4 => wpAny_throw (tk _ _ ⟨a, B, sI, pins, σ', H', cls, d, rfl, J, nb, (up.trans up3).trans up4, .inr (.inr (by rw [hs]; exact hh4)), na, os, ag, hno rfl⟩)
      first
        | exact wpAny_bind (wpAny_pure (wpAny_bind fin))
        | exact wpAny_bind fin
  · cases f with
    | next =>
      obtain ⟨σ', H', J', q⟩ := hsp
      exact wpAny_execs_nil ⟨σ', H', J'.ofTry ok, q⟩
    | brk =>
      obtain ⟨σ', H', J', q⟩ := hsp
      exact ⟨σ', H', J'.ofTry ok, q⟩
    | cont =>
      obtain ⟨σ', H', J', q⟩ := hsp
      exact ⟨σ', H', J'.ofTry ok, q⟩
    | ret u =>
      obtain ⟨v, σ', H', J', r, q⟩ := hsp
      exact ⟨v, σ', H', J'.ofTry ok, r, q⟩
end
end Xv

set_option Elab.async false
set_option linter.all false
set_option maxRecDepth 100000
set_option maxHeartbeats 4000000
set_option pp.maxSteps 3000
/-! _law_caught: work() is called, its exception is handed back -/
namespace Xv
open PySem PySem.Spec PyProof.Rows L2 LamX
abbrev caughtBody (p1 p2 p3 p4 p5 p6 p7 p8 p9 pa pb pc pd pe : Pos) (j : Nat) : List Stmt := [.Assign [.Name "caught" p1] (.Constant .none j p2) p3,
  .Try [.Expr (.Call (.Name "work" p4) [] [] p5) p6] [.ExceptHandler (some (.Name "SeriesError" p7)) (some "error") [.Assign [.Name "caught" p8] (.Name "error" p9) pa] pb] [] [] pc, .Return (some (.Name "caught" pd)) pe]
/-- what is asked: work() gives whatever, or raises an exception that is caught -/
def TCaught (K : PySem.W.Frag) (CS : Addr) : (XK → Hp → VK → Prop) → Hp → VK → Prop := fun tl H Q =>
  tl (fun cls d H' => PySem.W.exmOne K cls (.ref CS) = some true ∧ ∀ a, H' a = none → Q (.ref a) (upd H' a (ErX cls d a))) H (fun _ H' => ∃ v, some (some V.non) = some (some v) ∧ Q v H')
theorem caught_gives {X : Cx} {sg : Scope} {g CS : Addr} {cdg : Value} {q : Str} {p1 p2 p3 p4 p5 p6 p7 p8 p9 pa pb pc pd pe : Pos} {j : Nat} (Sg : FnScope ["work", "caught", "error"] ["work"] sg) (v0 : sg.names.lookup ("work" : Str) = some NameKind.local) (v1 : sg.names.lookup ("caught" : Str) = some NameKind.local) (v2 : sg.names.lookup ("error" : Str) = some NameKind.local)
    (hge : sg.names.lookup ("SeriesError" : Str) = some NameKind.globalImplicit) (hme : X.mg "SeriesError" = some (.ref CS)) : GivesTo X ["work", "caught", "error"] "_law_caught" sg g cdg (caughtBody p1 p2 p3 p4 p5 p6 p7 p8 p9 pa pb pc pd pe j) "work" q (TCaught X.K CS) := by
  intro f c' s H Q tl act hc h
  have hgl : Gl (cxOf C8.CX0 X.prog X.w X.K X.mg X.base ["work", "caught", "error"] "_law_caught" sg g cdg X.A X.stack s H C8.E0).nox "SeriesError" := hge
  refine ⟨_, pss_cons (ps_set (i := 1) Sg.nd rfl (Or.inl v1) pe_non) (pss_cons (ps_try_keep (X := (cxOf C8.CX0 X.prog X.w X.K X.mg X.base ["work", "caught", "error"] "_law_caught" sg g cdg X.A X.stack s H C8.E0).nox) (c := .ref CS) (i := 2)
      (tb := fun W D σ H => ∃ Ech : XK, (∀ cls d σ' H', Ech cls d H' → W cls d σ' H') ∧ σ[0]? = some (some (.ref f)) ∧ H c' = some (CodeO c' q) ∧ tl Ech H (fun _ H' => D.nx σ H'))
      rfl rfl Sg.nd rfl rfl v2 ⟨hgl, by decide, .inl hme⟩ L2.takes0 (fun W pn xe tk => ?_) (fun a oe pn => pss_one (ps_set (i := 1) Sg.nd rfl (Or.inl v1) (pe_var (i := 2) rfl (Or.inl v2))))) (pss_one (ps_ret (pe_var (i := 1) rfl (Or.inl v1))))), ?_⟩
  · refine ⟨fun pins s' σ H' D I h' => ?_⟩
    obtain ⟨Ech, hW, h1, h2, h3⟩ := h'
    have hp := act W pn xe Ech p4 p5 tk hW
    have hq := pss_one (ps_expr (pos := p6) hp)
    exact hq.run pins s' σ H' D I ⟨h1, h2, h3⟩
  · refine ⟨fun cls d H' => PySem.W.exmOne X.K cls (.ref CS) = some true ∧ ∀ a, H' a = none → Q (.ref a) (upd H' a (ErX cls d a)), fun cls d σ' H' hE => ?_, rfl, hc, ?_⟩
    · obtain ⟨e1, e2⟩ := hE
      intro hl
      match σ', hl with
      | [s0, s1, s2], _ => exact ⟨true, e1, fun _ a ha => ⟨_, rfl, _, rfl, e2 a ha⟩, fun z => nomatch z⟩
    · exact h
/-- a caught exception of the class at C at a, its fields fs, if it has a dict -/
def ErC (H : Hp) (a C : Addr) (fs : Option (List (Str × V))) : Prop := (fs = none ∧ H a = some (ErX (.ref C) none a)) ∨ ∃ d xs, fs = some xs ∧ H a = some (ErX (.ref C) (some d) a) ∧ H d = some (.xd xs)
section
variable {X : Cx} {pins : List (Addr × Obj)} {σ : L2.St} {H : Hp} {s : Shared} {a C : Addr} {fs : Option (List (Str × V))}
theorem erC_same {H H' : Hp} (h : ErC H a C fs) (k : Same H H') : ErC H' a C fs := by
  rcases h with ⟨e, h⟩ | ⟨d, xs, e, h, hd⟩
  · exact .inl ⟨e, k _ _ h⟩
  · exact .inr ⟨d, xs, e, k _ _ h, k _ _ hd⟩
theorem erC_inst (I : Inv X pins σ H s) (h : ErC H a C fs) : ∃ ox od, PySem.W.InstAt s.heap a ox C od := by
  rcases h with ⟨_, h⟩ | ⟨d, xs, _, h, hd⟩
  · have q : ObjOk X.prog X.w H s.heap a (ErX (.ref C) none a) := I.hok a _ h
    obtain ⟨⟨oe, vs, e, z, dt⟩, _⟩ := q
    obtain ⟨oc, od, oda, osl⟩ := oe
    obtain ⟨z1, z2⟩ := z
    dsimp only at z1 z2 dt
    subst z1 z2 dt
    exact ⟨_, none, e, rfl, rfl, trivial⟩
  · have q : ObjOk X.prog X.w H s.heap a (ErX (.ref C) (some d) a) := I.hok a _ h
    obtain ⟨⟨oe, vs, e, z, dt⟩, _⟩ := q
    have hx : ObjOk X.prog X.w H s.heap d (.xd xs) := I.hok d _ hd
    obtain ⟨mA, hns, hr⟩ := hx
    obtain ⟨od, ho, hl⟩ := lookIn_ns hns
    exact ⟨oe, some od, e, z.1, by unfold PySem.W.notCls; rw [dt] <;> rfl, by rw [z.2]; exact ho⟩
/-- isinstance(e, c), e a caught exception -/
def rIsC (K : PySem.W.Frag) : List V → Hp → VK → Prop := fun xs H Q => ∃ (a C : Addr) (fs : Option (List (Str × V))) (c : V) (cv : Value) (b : Bool), xs = [.ref a, c] ∧ ErC H a C fs ∧ ExcC K C ∧ (∀ u, RelV c u → u = cv) ∧ PySem.W.kitOne K (.ref C) cv = some b ∧ Q (.bl b) H
theorem call_isC : CallR X (.builtin "isinstance") (rIsC X.K) := by
  intro pins s σ H xs us Q I r h
  obtain ⟨a, C, fs, c, cv, b, rfl, he, T, hc, hk, q⟩ := h
  obtain ⟨u1, u2, rfl, r1, r2⟩ := vals2 r
  cases (show u1 = Value.ref a from r1)
  have e2 := hc _ r2
  subst e2
  obtain ⟨ox, od, J⟩ := erC_inst I he
  obtain ⟨cd, hcd, _⟩ := PySem.W.any_some T.hd
  exact PySem.W.kia_one (PySem.W.kitx_exc (by rw [hcd]; rfl) T.hg T.hk T.hs T.ha T.hn T.ht T.hm) I.kIn J hk (fun z => nomatch z) fun tk => ⟨.bl b, H, I.tok tk, rfl, q⟩
end
/-- e.f, e a caught exception with fields -/
def tErC (K : PySem.W.Frag) (f : Str) (te : TE) : TE := fun σ H Q => te σ H fun x H1 => ∃ (a C : Addr) (fs : List (Str × V)) (v : V), x = .ref a ∧ ErC H1 a C (some fs) ∧ XfC K C ∧ PySem.W.findIn K (.ref C) f = some none ∧ fs.lookup f = some v ∧ Q v H1
theorem pe_erC {X : Cx} {e : Expr} {te : TE} {pos : Pos} {n : Str} (he : PE X e te) (hb : attributeBase e n X.env (eval e X.env) = eval e X.env := by rfl) : PE X (.Attribute e n pos) (tErC X.K n te) := by
  refine ⟨fun pins s σ H Q I h => attr_of hb (thn (he.run pins s σ H _ I h) fun u s1 hh => ?_)⟩
  obtain ⟨x, H1, I1, rx, a, C, fs, v, rfl, he, T, hno, l, q⟩ := hh
  obtain rfl : u = Value.ref a := rx
  rcases he with ⟨z, _⟩ | ⟨d, xs, z, h, hd⟩
  · cases z
  · cases z
    have qo : ObjOk X.prog X.w H1 s1.heap a (ErX (.ref C) (some d) a) := I1.hok a _ h
    obtain ⟨⟨oe, vs, e, z, dt⟩, _⟩ := qo
    have hx : ObjOk X.prog X.w H1 s1.heap d (.xd fs) := I1.hok d _ hd
    obtain ⟨mA, hns, hr⟩ := hx
    obtain ⟨od, ho, hl⟩ := lookIn_ns hns
    obtain ⟨u, hu, ru⟩ := RelO.some_of (v := v) (o := mA n) (by rw [← l]; exact hr n)
    have J : PySem.W.InstAt s1.heap a oe C (some od) := ⟨e, z.1, by unfold PySem.W.notCls; rw [dt] <;> rfl, by rw [z.2]; exact ho⟩
    exact HandSPX.exc_get I1.kIn J T.ga T.gg T.exC (PySem.W.findObj_own T.hdC hno rfl (by rw [hl, hu])) (handed_of ru) ⟨v, H1, I1.tok _, ru, q⟩
end Xv

set_option Elab.async false
set_option linter.all false
set_option maxRecDepth 100000
set_option maxHeartbeats 4000000
set_option pp.maxSteps 3000
namespace PySem
theorem meets_enumerate_new1 {v : Value} {o : Obj} {H : Heap → Prop} (B : Begins v o H) :
    Meets (Builtin.«enumerate.__new__» ⟨[.type "enumerate", v], []⟩) (fun _ R s => H s.heap ∧
      R (.ok (.ret (.ref (s.heap.push o).objs.size))) { s with heap := (s.heap.push o).push { cls := .type "enumerate", data := .fields #[.none, .bool false, .ref s.heap.objs.size, rawInt 0, .none, .none] } }) :=
  .of_wp fun prog w A R s h => by
    obtain ⟨hp, g, d, tk, os⟩ := s; obtain ⟨h1, h⟩ := h
    have hsub := sub_enumerate
    have q1 : ∀ {A' : Around} {E : Value → Shared → Prop} {Q : Value → Shared → Prop}, Q (.ref hp.objs.size) ⟨hp.push o, g, d, tk, os⟩ → wpAny (model prog w) A' (pyIter v) Q E ⟨hp, g, d, tk, os⟩ :=
      fun q => B.iter prog w _ _ ⟨hp, g, d, tk, os⟩ _ h1 q
    wp_walk using q1
    refine wpAny_stack_any fun st => wpAny_pure ?_
    split
    · rename_i c _ _ _ _ _
      cases (c == Value.type "enumerate")
      · wp_walk using q1
        exact ⟨_, rfl, h⟩
      · wp_walk using q1
        exact ⟨_, rfl, h⟩
    · wp_walk using q1
      exact ⟨_, rfl, h⟩
section
variable {prog : Program} {w : World} {A : Around} {E : Value → Shared → Prop} {s : Shared}
theorem enum_begins1 {v : Value} {o : Obj} {H : Heap → Prop} {Q : Value → Shared → Prop} (B : Begins v o H) (h1 : H s.heap)
    (h : ∀ h', IsEnum h' (s.heap.objs.size + 1) s.heap.objs.size 0 .none → h'.get? s.heap.objs.size = some o → h'.objs.size = s.heap.objs.size + 2 →
      (∀ b o, s.heap.get? b = some o → h'.get? b = some o) → Q (.ref (s.heap.objs.size + 1)) { s with heap := h' }) :
    wpAny (model prog w) A (call (.type "enumerate") [v]) Q E s := by
  refine callType_new F.called_enumerate (by decide) (F.typeCall_enumerate_1 _) (F.newCall_enumerate_1 _) (fun obj => F.args_object_init_2 obj _) F.entry_enumerate_new
    (meets_enumerate_new1 B) ⟨h1, ?_⟩
  have hz : (s.heap.push o).objs.size = s.heap.objs.size + 1 := Heap.size_push ..
  show _ ∧ _
  rw [hz]
  have he : IsEnum ((s.heap.push o).push { cls := .type "enumerate", data := .fields #[.none, .bool false, .ref s.heap.objs.size, rawInt 0, .none, .none] }) (s.heap.objs.size + 1) s.heap.objs.size 0 .none := by
    have := Heap.get?_push_size (s.heap.push o) (o := { cls := .type "enumerate", data := .fields #[.none, .bool false, .ref s.heap.objs.size, rawInt 0, .none, .none] }) rfl
    rw [hz] at this; exact this
  refine ⟨⟨_, he, rfl⟩, h _ he (Heap.get?_push_of_some _ (Heap.get?_push_size _ B.free)) (by rw [Heap.size_push, hz]) fun b o x => Heap.get?_push_of_some _ (Heap.get?_push_of_some _ x)⟩
end
end PySem
namespace Xv
open PySem PySem.Spec PyProof.Rows L2
/-- enumerate of a tuple -/
def IteT (K : PySem.W.Frag) (a : Addr) : It :=
  ⟨fun i H => ∃ (xs : List V) (x : V), SqT K H a xs ∧ xs[i]? = some x, fun i H v H' => ∃ T x, v = .ref T ∧ H T = none ∧ H' = upd H T (.tup [.int (i : Nat), x]) ∧ ∀ xs, SqT K H a xs → xs[i]? = some x, fun i H => ∃ xs : List V, SqT K H a xs ∧ xs.length = i⟩
theorem turn_enumT {P : Program} {w : World} {K : PySem.W.Frag} {elts : List Expr} {kk : Nat} {tpos : Pos} (a e it : Addr) (hat : a ≠ it) :
    Turn P w K (.Tuple elts kk tpos) (IteT K a) [e, it] e (fun i h => (∃ old, IsEnum h e it ((i : Nat) : Int) old) ∧ h.IsTupleIter it a i ∧ e ≠ it ∧ e ≠ a) where
  mem := by simp
  obj := fun i h st b hb => by
    obtain ⟨⟨old, he⟩, ⟨o, ho, hc, hd⟩, _⟩ := st
    have e' : b = e ∨ b = it := by simpa using hb
    rcases e' with z | z
    · rw [z]; exact ⟨_, he, fun v q => nomatch q⟩
    · rw [z]; exact ⟨o, ho, fun v q => by rw [hd] at q; cases q⟩
  keep := fun i h h' st k => let ⟨⟨old, he⟩, hi, hne, hea⟩ := st; ⟨⟨old, k e (by simp) _ he⟩, hi.at fun o q => k it (by simp) o q, hne, hea⟩
  item := by
    intro X hP hw hK hc i pins s σ H E I hf st hg
    subst hP hw hK
    obtain ⟨⟨old, he⟩, hit, hne, hea⟩ := st
    obtain ⟨xs, x, hq, hx⟩ := hg
    obtain ⟨its, rv, p, hz⟩ := I.tuple hq
    obtain ⟨u, hu, ru⟩ := rv.get hx
    have hel : e < s.heap.objs.size := Heap.lt_size he
    have hil : it < s.heap.objs.size := by obtain ⟨_, q, _⟩ := hit; exact Heap.lt_size q
    have hlt : i < its.toArray.size := by
      have := (List.getElem?_eq_some_iff.mp hu).1
      simpa using this
    refine wpAny_pyNext_enum_itemD (Draws.tuple (prog := X.prog) (w := X.w) (A := X.A.in1) (I.ok.hd hc) it a hat its.toArray) he ⟨hit, p⟩ hlt hne (by simp [hne, hea]) fun y h' tk hy ho hst' hT hsz hk => ?_
    obtain ⟨hit', _⟩ := hst'
    have ey : y = u := by
      have e1 : its.toArray[i]? = some u := by simpa using hu
      rw [e1] at hy
      exact (Option.some.inj hy).symm
    subst ey
    refine ⟨_, rfl, wpAny_letOwnedTupleGo_enum (s := { s with heap := h', toks := tk + 1 }) ho fun h'' he' sb => ?_⟩
    have hT2 : h''.get? s.heap.objs.size = some { cls := .type "tuple", data := .seq #[.int i tk, y] } := (sb.2 _ (Nat.ne_of_gt hel)).trans hT
    have new : ObjOk X.prog X.w (upd H s.heap.objs.size (.tup [.int (i : Nat), x])) h'' s.heap.objs.size (.tup [.int (i : Nat), x]) :=
      ⟨by show 2 ≤ sizeLine; decide, [.int i tk, y], .cons ⟨_, rfl⟩ (.cons ru .nil), ⟨_, hT2, rfl, _, rfl⟩⟩
    have I1 : Inv X pins σ (upd H s.heap.objs.size (.tup [.int (i : Nat), x])) { s with heap := h'', toks := tk + 1 } :=
      I.turnedNew (ch := [e, it]) (fun b ob hb q => (sb.2 b (fun z => hb (by simp [z]))).trans (hk b ob (fun z => hb (by simp [z])) (fun z => hb (by simp [z])) q)) hf (Nat.le_refl _) new
    refine ⟨.ref s.heap.objs.size, _, I1, rfl, ⟨_, x, rfl, I.hok.fresh (Nat.le_refl _), rfl, fun ys hy => by rw [I.tuple_inj hy hq]; exact hx⟩, ⟨⟨y, ?_⟩, hit'.at fun o q => (sb.2 it (Ne.symm hne)).trans q, hne, hea⟩, fun b hb => ?_⟩
    · have e1 : ((i + 1 : Nat) : Int) = (i : Int) + 1 := by omega
      rw [e1]; exact he'
    · have hb' : b < s.heap.objs.size := by
        have e' : b = e ∨ b = it := by simpa using hb
        rcases e' with z | z
        · rw [z]; exact hel
        · rw [z]; exact hil
      rw [upd_ne (Nat.ne_of_lt hb')]
      exact (hf b hb).1
  done := by
    intro X hP hw hK hc i pins s σ H E I hf st hg
    subst hP hw hK
    obtain ⟨⟨old, he⟩, hit, hne, hea⟩ := st
    obtain ⟨xs, hq, hx⟩ := hg
    obtain ⟨its, rv, p, hz⟩ := I.tuple hq
    obtain ⟨f0, f1, f2, f3, f4, f5⟩ := hf it (by simp)
    have hl := rv.length
    have en : i = its.toArray.size := by
      rw [List.size_toArray]
      omega
    subst en
    have D := Draws.tuple (prog := X.prog) (w := X.w) (A := X.A.in1) (I.ok.hd hc) it a hat its.toArray
    exact wpAny_pyNext_enum_endD D he ⟨hit, p⟩ fun h' eb => ⟨rfl, I.turned (t' := s.toks) (fun b o hb q => eb b o hb q) f0 f1 f3 f4 f5⟩
  self := fun A i s Q E st h => let ⟨⟨_, he⟩, _⟩ := st; wpAny_pyIter_enum he h
/-- enumerate of a list or a tuple -/
def iEnumT (K : PySem.W.Frag) (ta : TA) : TI := fun σ H R => ta σ H fun vs H1 => ∃ a xs, vs = [.ref a] ∧ ((SqL K H1 a xs ∧ R (Ite K a) H1) ∨ (SqT K H1 a xs ∧ R (IteT K a) H1))
theorem pi_enumT {X : Cx} {e : Expr} {ta : TA} {p pos tpos : Pos} {elts : List Expr} {kk : Nat} (hg : Gl X "enumerate") (hm : X.mg "enumerate" = none) (ha : PA X [e] ta) (hs : starEach [e] X.env = [(false, eval e X.env)] := by rfl) :
    PI X (.Tuple elts kk tpos) (.Call (.Name "enumerate" p) [e] [] pos) (iEnumT X.K ta) := by
  refine ⟨fun pins s σ H R I h => ?_⟩
  refine Call_ (ld_blt I hg hm boot_enumerate (PyProof.Rows.callWith_type1 (thn (ha.run pos pins s σ H _ I h) fun us s1 ⟨vs, H1, I1, r1, q1⟩ => ?_) hs rfl))
  obtain ⟨a, xs, ex, q⟩ := q1
  subst ex
  cases r1 with
  | cons r rr =>
    cases rr
    cases r
    rcases q with ⟨hq, q⟩ | ⟨hq, q⟩
    · obtain ⟨its, rv, p', hz⟩ := I1.list hq
      refine call_enumerate_list p'.isList fun h' he hit hsz hk => wpAny_pyIter_enum he ?_
      have I2 : Inv X pins σ H1 { s1 with heap := h' } := I1.kept (t' := s1.toks) hk
      refine ⟨s1.heap.objs.size + 1, [s1.heap.objs.size + 1, s1.heap.objs.size], _, _, H1, rfl, I2, turn_enum a (s1.heap.objs.size + 1) s1.heap.objs.size, ⟨⟨.none, he⟩, hit, Nat.succ_ne_self _⟩, fun b hb => ?_, q⟩
      have e' : b = s1.heap.objs.size + 1 ∨ b = s1.heap.objs.size := by simpa using hb
      have hle : s1.heap.objs.size ≤ b := by
        rcases e' with z | z
        · rw [z]; exact Nat.le_add_right _ _
        · rw [z]; exact Nat.le_refl _
      exact I1.fpOk hle (I1.hok.fresh hle)
    · obtain ⟨its, rv, p', hz⟩ := I1.tuple hq
      have p2 : s1.heap.IsTuple a its.toArray := p'
      have hal : a < s1.heap.objs.size := by
        obtain ⟨o, ho, _⟩ := p2
        exact Heap.lt_size ho
      refine enum_begins1 (begins_tuple a its.toArray) p2 fun h' he hit hsz hk => wpAny_pyIter_enum he ?_
      have I2 : Inv X pins σ H1 { s1 with heap := h' } := I1.kept (t' := s1.toks) hk
      refine ⟨s1.heap.objs.size + 1, [s1.heap.objs.size + 1, s1.heap.objs.size], _, _, H1, rfl, I2, turn_enumT a (s1.heap.objs.size + 1) s1.heap.objs.size (Nat.ne_of_lt hal),
        ⟨⟨.none, he⟩, ⟨_, hit, rfl, rfl⟩, Nat.succ_ne_self _, Nat.ne_of_gt (Nat.lt_succ_of_lt hal)⟩, fun b hb => ?_, q⟩
      have e' : b = s1.heap.objs.size + 1 ∨ b = s1.heap.objs.size := by simpa using hb
      have hle : s1.heap.objs.size ≤ b := by
        rcases e' with z | z
        · rw [z]; exact Nat.le_add_right _ _
        · rw [z]; exact Nat.le_refl _
      exact I1.fpOk hle (I1.hok.fresh hle)
theorem walk_enumT {K : PySem.W.Frag} {a : Addr} {xs : List V} : Walk (IteT K a) xs.length (fun H => SqT K H a xs) (YPair (fun i => some (.int (i : Nat))) (fun i => xs[i]?)) := by
  refine ⟨fun i _ hi q => ⟨xs, xs[i], q, by simp [hi]⟩, fun _ q => ⟨xs, q, rfl⟩, fun i H v H' _ q y => ?_⟩
  obtain ⟨T, x, h1, h2, h3, h4⟩ := y
  exact ⟨T, .int (i : Nat), x, h1, h2, h3, rfl, h4 xs q⟩
/-- a list or a tuple walked -/
def iSeq (K : PySem.W.Frag) (tl : TE) : TI := fun σ H R => tl σ H fun x H1 => ∃ a, x = .ref a ∧ (((∃ xs, SqL K H1 a xs) ∧ R (Itl K a) H1) ∨ ((∃ xs, SqT K H1 a xs) ∧ R (Itt K a) H1))
theorem pi_seq {X : Cx} {tg l : Expr} {tl : TE} (hl : PE X l tl) : PI X tg l (iSeq X.K tl) := by
  refine ⟨fun pins s σ H R I h => ?_⟩
  refine thn (hl.run pins s σ H _ I h) fun v s1 ⟨x, H1, I1, r1, q1⟩ => ?_
  obtain ⟨a, e, q⟩ := q1
  subst e
  cases r1
  rcases q with ⟨⟨xs, hq⟩, q⟩ | ⟨⟨xs, hq⟩, q⟩
  · obtain ⟨its, rv, p, hz⟩ := I1.list hq
    refine wpAny_pyIter_list p.isList ?_
    refine ⟨s1.heap.objs.size, [s1.heap.objs.size], _, _, H1, rfl, I1.kept (t' := s1.toks) fun b o e => Heap.get?_push_of_some _ e, turn_list a _, ⟨_, Heap.get?_push_size _ rfl, rfl, rfl⟩, fun b hb => ?_, q⟩
    have e : b = s1.heap.objs.size := by simpa using hb
    subst e
    exact I1.fpOk (Nat.le_refl _) (I1.hok.fresh (Nat.le_refl _))
  · obtain ⟨its, rv, p, hz⟩ := I1.tuple hq
    refine wpAny_pyIter_tuple (show s1.heap.IsTuple a its.toArray from p) ?_
    refine ⟨s1.heap.objs.size, [s1.heap.objs.size], _, _, H1, rfl, I1.kept (t' := s1.toks) fun b o e => Heap.get?_push_of_some _ e, turn_tuple a _, ⟨_, Heap.get?_push_size _ rfl, rfl, rfl⟩, fun b hb => ?_, q⟩
    have e : b = s1.heap.objs.size := by simpa using hb
    subst e
    exact I1.fpOk (Nat.le_refl _) (I1.hok.fresh (Nat.le_refl _))
/-! ### f(k = v, ..): keywords alone -/
section
variable {X : Cx} {p pos : Pos} {x : Str} {kws : List Keyword} {tk : TA} {CX : CXT} {k : Nat} {f : Addr} {fd : FuncData} {ps ks : List Str} {sp : Sp} {E : XK} {g : List Value → List Value → List Value} {gV : List V → List V → List V}
theorem pe_callK0 (F : FnOk X.prog X.w X.K X.mg X.base CX k f fd ps sp) (hr : Room k X.A) (hg : Gl X x) (hm : X.mg x = some (.ref f)) (hk : PySem.W.keepIn X.K (.ref f) = true) (hb : KBinds X.K fd ps ks g gV) (hx : Passes CX X E)
    (hkw : PK X kws tk) (hall : (backToKw pos (keywordEach kws X.env)).all (·.1.isSome) = true := by rfl) (hks : (backToKw pos (keywordEach kws X.env)).filterMap (·.1) = ks := by rfl)
    (hdb : (x == ("__debug__" : Str)) = false := by decide)
    (hpl : ((backTo pos (starEach [] X.env)).any (·.1) || (backToKw pos (keywordEach kws X.env)).any (·.1.isNone)) = false := by rfl) :
    PE X (.Call (.Name x p) [] kws pos) (tCallK sp gV E tNil tk) := by
  refine ⟨fun pins s σ H Q I h => ?_⟩
  refine wpAny_Call_Name_kw (ld_glob I hg hm ?_ hdb)
  refine PySem.W.callWith_KW0 (h₀ := X.base) I.ok.mod.kin hk hall (thn (hkw.run pos pins s σ H _ I h) fun ws s2 ⟨zs, H2, I2, rz, q2⟩ => ⟨I2.kIn, ?_⟩) hpl
  rw [hks]
  exact run_fnk (us := []) (vs := []) F hr hb hx I2 .nil rz q2
end
/-! ### xs[t::m] of a list, 0 ≤ t, 0 < m -/
/-- the items at lo, lo + m, .. -/
def stepV (xs : List V) (t m : Nat) : List V := (List.range ((xs.length - t + m - 1) / m)).filterMap fun k => xs[t + m * k]?
def tStepL (K : PySem.W.Frag) (te : TE) (tl ts : TO) : TE := fun σ H Q => te σ H fun x H1 => tl σ H1 fun l H2 => ts σ H2 fun u H3 => ∃ a xs, ∃ t m : Nat, x = .ref a ∧ l = some (t : Int) ∧ u = some (m : Int) ∧ 0 < m ∧ t ≤ xs.length ∧ SqL K H3 a xs ∧ ∀ p, H3 p = none → Q (.ref p) (upd H3 p (.lst (stepV xs t m)))
theorem pick_step {its : List Value} {t m : Nat} (hm : 0 < m) (ht : t ≤ its.length) : slicePick its.toArray (some (t : Int)) none (some (m : Int)) = ((List.range ((its.length - t + m - 1) / m)).filterMap fun k => its[t + m * k]?).toArray := by
  have hm' : (m : Int) > 0 := by omega
  have hm2 : ¬ ((t : Int) < 0) := by omega
  have e1 : max 0 (min (t : Int) (its.length : Int)) = (t : Int) := by omega
  unfold slicePick sliceBounds
  simp only [Option.getD_some, List.size_toArray, hm', if_true, hm2, if_false, e1]
  unfold sliceRange
  simp only [hm', if_true]
  congr 1
  have e2 : (if (t : Int) < (its.length : Int) then ((its.length : Int) - t + m - 1) / m else 0).toNat = (its.length - t + m - 1) / m := by
    by_cases h : (t : Int) < (its.length : Int)
    · rw [if_pos h]
      have e3 : ((its.length : Int) - t + m - 1) = ((its.length - t + m - 1 : Nat) : Int) := by omega
      rw [e3]
      rw [← Int.natCast_ediv]
      exact Int.toNat_natCast _
    · rw [if_neg h]
      have e3 : its.length - t + m - 1 = m - 1 := by omega
      rw [e3, Nat.div_eq_of_lt (by omega)]
      rfl
  rw [e2, List.filterMap_map]
  congr 1
  funext k
  have e4 : ((t : Int) + (m : Int) * (k : Int)).toNat = t + m * k := by
    rw [← Int.natCast_mul]
    omega
  show its.toArray[((t : Int) + (m : Int) * (k : Int)).toNat]? = _
  rw [e4]
  simp
theorem stepV_vals {xs : List V} {its : List Value} (r : Vals xs its) (t m : Nat) : ∀ n : Nat, Vals ((List.range n).filterMap fun k => xs[t + m * k]?) ((List.range n).filterMap fun k => its[t + m * k]?)
  | 0 => .nil
  | n + 1 => by
    rw [List.range_succ, List.filterMap_append, List.filterMap_append]
    refine (stepV_vals r t m n).append ?_
    show Vals (List.filterMap _ [n]) (List.filterMap _ [n])
    rw [List.filterMap_cons, List.filterMap_cons]
    cases e : xs[t + m * n]? with
    | none =>
      have e2 : its[t + m * n]? = none := by
        have hl := r.length
        rw [List.getElem?_eq_none_iff] at e ⊢
        omega
      rw [e2]
      exact .nil
    | some v =>
      obtain ⟨u, hu, ru⟩ := r.get e
      rw [hu]
      exact .cons ru .nil
theorem filterMap_range_le {f : Nat → Option V} : ∀ n : Nat, ((List.range n).filterMap f).length ≤ n
  | 0 => Nat.le_refl _
  | n + 1 => by
    rw [List.range_succ, List.filterMap_append, List.length_append]
    have h1 := filterMap_range_le (f := f) n
    have h2 : ([n].filterMap f).length ≤ 1 := by
      rw [List.filterMap_cons]
      cases f n <;> simp
    omega
theorem stepV_length {xs : List V} {t m : Nat} (hm : 0 < m) (ht : t ≤ xs.length) : (stepV xs t m).length ≤ xs.length := by
  refine Nat.le_trans (filterMap_range_le _) ?_
  refine Nat.le_trans (m := xs.length - t) ?_ (Nat.sub_le _ _)
  by_cases h : xs.length - t = 0
  · rw [h, Nat.div_eq_of_lt (by omega)]
    exact Nat.le_refl _
  · refine Nat.div_le_of_le_mul ?_
    generalize xs.length - t = d at *
    have h1 : 0 ≤ (d - 1) * (m - 1) := Nat.zero_le _
    obtain ⟨d', rfl⟩ : ∃ d', d = d' + 1 := ⟨d - 1, by omega⟩
    obtain ⟨m', rfl⟩ : ∃ m', m = m' + 1 := ⟨m - 1, by omega⟩
    have e : (m' + 1) * (d' + 1) = m' * d' + m' + d' + 1 := by
      rw [Nat.add_mul, Nat.mul_add]
      omega
    rw [e]
    omega
theorem pe_stepL {X : Cx} {e lo st : Expr} {te : TE} {tl ts : TO} {p3 pos : Pos} (he : PE X e te) (hl : PO X (some lo) tl) (hst : PO X (some st) ts) : PE X (.Subscript e (.Slice (some lo) none (some st) p3) pos) (tStepL X.K te tl ts) := by
  refine ⟨fun pins s σ H Q I h => ?_⟩
  refine Subscript_ (thn (he.run pins s σ H _ I h) fun v s1 ⟨x, H1, I1, r1, q1⟩ => ?_)
  refine wpAny_Slice (thn (hl.run pins s1 σ H1 _ I1 q1) fun vl s2 ⟨l, H2, I2, pl, q2⟩ => ?_)
  refine thn (po_none.run pins s2 σ H2 (fun o H3 => o = none ∧ H3 = H2) I2 ⟨rfl, rfl⟩) fun vu s3 ⟨u, H3, I3, pu, eu, e3⟩ => ?_
  subst eu e3
  refine thn (hst.run pins s3 σ H3 _ I3 q2) fun vs s4 ⟨o, H4, I4, ps, q4⟩ => ?_
  obtain ⟨a, xs, t, m, rfl, rfl, rfl, hm, ht, hx, q⟩ := q4
  cases r1
  have I5 : Inv X pins σ H4 { s4 with heap := s4.heap.push { cls := .type "slice", data := .fields #[vl, vu, vs] } } := I4.kept (t' := s4.toks) fun b ob q => Heap.get?_push_of_some _ q
  obtain ⟨its, r, hT, hz⟩ := I5.list hx
  have hlen := r.length
  show wpAny (model X.prog X.w) X.A (subscriptTail e (.Slice (some lo) none (some st) p3) (.ref a) (.ref s4.heap.objs.size)) (EP X pins σ Q) X.xe { s4 with heap := s4.heap.push { cls := .type "slice", data := .fields #[vl, vu, vs] } }
  refine tail_any (ops := [.ref a, .ref s4.heap.objs.size]) hT.isList.typeIs (PySem.slot_list_getitem.lookup) ?_ (by with_unfolding_all rfl)
  refine wpAny_getItem_list_slice hT.isList (Heap.IsSliceOf.new _ vl vu vs) pl pu ps (by
    intro z
    have z2 := Option.some.inj z
    omega) ?_ (by rw [List.size_toArray]; omega)
  rw [pick_step hm (by omega)]
  refine ⟨.ref _, _, I5.laid (t' := s4.toks) (o := .lst (stepV xs t m)) (fun b ob q => Heap.get?_push_of_some _ q) (Nat.le_refl _) ?_, rfl, q _ (I5.hok.fresh (Nat.le_refl _))⟩
  refine ⟨Nat.le_trans (stepV_length hm ht) hz, _, 0, ?_, Heap.get?_push_size _ rfl⟩
  rw [← hlen]
  exact stepV_vals r t m _
end Xv

set_option Elab.async false
set_option linter.all false
set_option maxRecDepth 100000
set_option maxHeartbeats 4000000
set_option pp.maxSteps 3000
namespace Xv
open PySem PySem.Spec PyProof.Rows L2
/-! ### xs[i] of a list, for xs[i] += e -/
def rGetL (K : PySem.W.Frag) : V → V → Hp → VK → Prop := fun x y H Q => ∃ p xs i v, x = .ref p ∧ y = .int i ∧ SqL K H p xs ∧ atI xs i = some v ∧ Q v H
theorem get_list {X : Cx} : PGet X (rGetL X.K) := by
  intro pins s σ H x y v u Q I rx ry h
  obtain ⟨p, xs, i, z, rfl, rfl, hq, he, q⟩ := h
  cases rx
  obtain ⟨t, rfl⟩ := ry
  obtain ⟨its, r, pl, hz⟩ := I.list hq
  obtain ⟨j, h1, h2, h3, h4, h5⟩ := atI_get he
  obtain ⟨w, ew, rw'⟩ := r.get h2
  have hl := r.length
  have hn := line63
  have fin : EP X pins σ Q w s := ⟨z, H, I, rw', q⟩
  by_cases h0 : 0 ≤ i
  · have hj : i.toNat = j := by
      rw [seqIndex_of h0 h5] at h1
      exact Option.some.inj h1
    exact wpAny_getItem_list pl.isList h0 (by omega) (by rw [hj]; simpa using ew) fin
  · have hj : (i + (its.toArray.size : Int)).toNat = j := by
      rw [seqIndex_neg (by omega) h4] at h1
      rw [List.size_toArray, ← hl]
      exact Option.some.inj h1
    exact wpAny_getItem_list_neg pl.isList (by omega) (by rw [List.size_toArray] <;> omega) (by omega) (by rw [hj]; simpa using ew) fin
/-! ### xs[lo:hi:-1] of a list, hi ≤ lo < len(xs) -/
def downV (xs : List V) (lo hi : Nat) : List V := (List.range (lo - hi)).filterMap fun k => xs[lo - k]?
def tDownL (K : PySem.W.Frag) (te : TE) (tl tu ts : TO) : TE := fun σ H Q => te σ H fun x H1 => tl σ H1 fun l H2 => tu σ H2 fun u H3 => ts σ H3 fun st H4 => ∃ a xs, ∃ lo hi : Nat, x = .ref a ∧ l = some (lo : Int) ∧ u = some (hi : Int) ∧ st = some (-1) ∧ hi ≤ lo ∧ lo < xs.length ∧ SqL K H4 a xs ∧ ∀ p, H4 p = none → Q (.ref p) (upd H4 p (.lst (downV xs lo hi)))
theorem filterMap_eq {α β : Type} {f g : α → Option β} : ∀ {l : List α}, (∀ x ∈ l, f x = g x) → l.filterMap f = l.filterMap g
  | [], _ => rfl
  | x :: r, h => by
    rw [List.filterMap_cons, List.filterMap_cons, h x (List.mem_cons_self ..), filterMap_eq fun y hy => h y (List.mem_cons_of_mem _ hy)]
theorem pick_down {its : List Value} {lo hi : Nat} (h1 : hi ≤ lo) (h2 : lo < its.length) : slicePick its.toArray (some (lo : Int)) (some (hi : Int)) (some (-1)) = ((List.range (lo - hi)).filterMap fun k => its[lo - k]?).toArray := by
  unfold slicePick sliceBounds
  have c1 : ¬ ((-1 : Int) > 0) := by decide
  have c2 : ¬ ((lo : Int) < 0) := by omega
  have c3 : ¬ ((hi : Int) < 0) := by omega
  have e1 : max (-1) (min (lo : Int) ((its.length : Int) - 1)) = (lo : Int) := by omega
  have e2 : max (-1) (min (hi : Int) ((its.length : Int) - 1)) = (hi : Int) := by omega
  simp only [Option.getD_some, List.size_toArray, c1, if_false, c2, c3, e1, e2]
  unfold sliceRange
  simp only [c1, if_false]
  have e3 : (if (lo : Int) > (hi : Int) then ((lo : Int) - hi - -1 - 1) / (- -1) else 0).toNat = lo - hi := by
    have e4 : (- -1 : Int) = 1 := by decide
    rw [e4, Int.ediv_one]
    split <;> omega
  rw [e3, List.filterMap_map]
  congr 1
  refine filterMap_eq fun k hk => ?_
  have hk := List.mem_range.mp hk
  have e4 : ((lo : Int) + -1 * (k : Int)).toNat = lo - k := by omega
  show its.toArray[((lo : Int) + -1 * (k : Int)).toNat]? = _
  rw [e4]
  simp
theorem downV_vals {xs : List V} {its : List Value} (r : Vals xs its) (lo : Nat) : ∀ n : Nat, Vals ((List.range n).filterMap fun k => xs[lo - k]?) ((List.range n).filterMap fun k => its[lo - k]?)
  | 0 => .nil
  | n + 1 => by
    rw [List.range_succ, List.filterMap_append, List.filterMap_append]
    refine (downV_vals r lo n).append ?_
    show Vals (List.filterMap _ [n]) (List.filterMap _ [n])
    rw [List.filterMap_cons, List.filterMap_cons]
    cases e : xs[lo - n]? with
    | none =>
      have e2 : its[lo - n]? = none := by
        have hl := r.length
        rw [List.getElem?_eq_none_iff] at e ⊢
        omega
      rw [e2]
      exact .nil
    | some v =>
      obtain ⟨u, hu, ru⟩ := r.get e
      rw [hu]
      exact .cons ru .nil
theorem filterMap_range_len {f : Nat → Option V} : ∀ n : Nat, ((List.range n).filterMap f).length ≤ n
  | 0 => Nat.le_refl _
  | n + 1 => by
    rw [List.range_succ, List.filterMap_append, List.length_append]
    have h1 := filterMap_range_len (f := f) n
    have h2 : ([n].filterMap f).length ≤ 1 := by
      rw [List.filterMap_cons]
      cases f n <;> simp
    omega
theorem pe_stepDown {X : Cx} {e lo hi st : Expr} {te : TE} {tl tu ts : TO} {p3 pos : Pos} (he : PE X e te) (hl : PO X (some lo) tl) (hu : PO X (some hi) tu) (hst : PO X (some st) ts) : PE X (.Subscript e (.Slice (some lo) (some hi) (some st) p3) pos) (tDownL X.K te tl tu ts) := by
  refine ⟨fun pins s σ H Q I h => ?_⟩
  refine Subscript_ (thn (he.run pins s σ H _ I h) fun v s1 ⟨x, H1, I1, r1, q1⟩ => ?_)
  refine wpAny_Slice (thn (hl.run pins s1 σ H1 _ I1 q1) fun vl s2 ⟨l, H2, I2, pl, q2⟩ => ?_)
  refine thn (hu.run pins s2 σ H2 _ I2 q2) fun vu s3 ⟨u, H3, I3, pu, q3⟩ => ?_
  refine thn (hst.run pins s3 σ H3 _ I3 q3) fun vs s4 ⟨o, H4, I4, ps, q4⟩ => ?_
  obtain ⟨a, xs, lo, hi, rfl, rfl, rfl, rfl, h1, h2, hx, q⟩ := q4
  cases r1
  have I5 : Inv X pins σ H4 { s4 with heap := s4.heap.push { cls := .type "slice", data := .fields #[vl, vu, vs] } } := I4.kept (t' := s4.toks) fun b ob q => Heap.get?_push_of_some _ q
  obtain ⟨its, r, hT, hz⟩ := I5.list hx
  have hlen := r.length
  refine tail_any (ops := [.ref a, .ref s4.heap.objs.size]) hT.isList.typeIs (PySem.slot_list_getitem.lookup) ?_ (by with_unfolding_all rfl)
  refine wpAny_getItem_list_slice hT.isList (Heap.IsSliceOf.new _ vl vu vs) pl pu ps (by decide) ?_ (by rw [List.size_toArray]; omega)
  rw [pick_down h1 (by omega)]
  refine ⟨.ref _, _, I5.laid (t' := s4.toks) (o := .lst (downV xs lo hi)) (fun b ob q => Heap.get?_push_of_some _ q) (Nat.le_refl _) ?_, rfl, q _ (I5.hok.fresh (Nat.le_refl _))⟩
  refine ⟨Nat.le_trans (filterMap_range_len _) (by omega), _, 0, ?_, Heap.get?_push_size _ rfl⟩
  exact downV_vals r lo _
/-! ### enumerate(v, start=c) of a list or a tuple -/
section
variable {M : Model} {A : Around} {E : Value → Shared → Prop} {s : Shared} {env : Env}
theorem callWith_type_kwB {pos : Pos} {id : String} {first : List Value} {args : List (Bool × Sem Value)} {keywords : List (Option Str × Sem Value)} {Q : Value → Shared → Prop}
    (hplain : args.any (·.1) = false) (hkw : keywords.any (·.1.isNone) = false)
    (h : wpAny M A (evalArgs (.type id) true args keywords) (fun a s₁ => wpAny M A (call (.type id) (first ++ a.pos) a.kw) Q E s₁) E s) :
    wpAny M A (callWith pos (.type id) first args keywords) Q E s := by
  unfold callWith
  refine wpAny_bind (wpAny_holding (wpAny_mono h (fun a s₁ h₁ => wpAny_bind (wpAny_standAt ?_)) fun _ _ x => x))
  simp only [hplain, hkw, Bool.or_false]
  refine wpAny_bind (wpAny_pure ?_)
  exact wpAny_bind (wpAny_mono h₁ (fun r s₂ hr => wpAny_bind (wpAny_holding (wpAny_point (wpAny_pure hr)))) fun _ _ x => x)
theorem callWith_kwT {pos : Pos} {id : String} {e : Expr} {rest : List Expr} {kws : List Keyword} {Q : Value → Shared → Prop}
    (h : wpAny M A (spliced (backTo pos (starEach (e :: rest) env))) (fun vs s₁ => wpAny M A (evalAll ((backToKw pos (keywordEach kws env)).map (·.2)))
      (fun kvs s₂ => wpAny M A (call (.type id) vs (((backToKw pos (keywordEach kws env)).filterMap (·.1)).zip kvs)) Q E s₂) E s₁) E s)
    (he : backTo pos (starEach (e :: rest) env) = (false, eval e env) :: backTo pos (starEach rest env) := by rfl)
    (hplain : (backTo pos (starEach (e :: rest) env)).any (·.1) = false := by rfl)
    (hall : (backToKw pos (keywordEach kws env)).all (·.1.isSome) = true := by rfl)
    (hkw : (backToKw pos (keywordEach kws env)).any (·.1.isNone) = false := by rfl) :
    wpAny M A (callWith pos (.type id) [] (backTo pos (starEach (e :: rest) env)) (backToKw pos (keywordEach kws env))) Q E s := by
  refine callWith_type_kwB hplain hkw ?_
  rw [he] at h ⊢
  exact evalArgs_kwB hall h
end
/-- the items with their counts from c, each in a new pair -/
def IteS (K : PySem.W.Frag) (c : Int) (a : Addr) (tup : Bool) : It :=
  ⟨fun i H => ∃ (xs : List V) (x : V), (if tup then SqT K H a xs else SqL K H a xs) ∧ xs[i]? = some x, fun i H v H' => ∃ T x, v = .ref T ∧ H T = none ∧ H' = upd H T (.tup [.int (c + (i : Nat)), x]) ∧ ∀ xs, (if tup then SqT K H a xs else SqL K H a xs) → xs[i]? = some x, fun i H => ∃ xs : List V, (if tup then SqT K H a xs else SqL K H a xs) ∧ xs.length = i⟩
def StS (c : Int) (tup : Bool) (a e it : Addr) (i : Nat) (h : Heap) : Prop := (∃ old, IsEnum h e it (c + (i : Int)) old) ∧ (if tup then h.IsTupleIter it a i else h.IsListIter it a i) ∧ e ≠ it ∧ e ≠ a
theorem sq_vals {X : Cx} {pins : List (Addr × Obj)} {σ : L2.St} {H : Hp} {s : Shared} {a : Addr} {xs : List V} {tup : Bool} (I : Inv X pins σ H s) (h : if tup then SqT X.K H a xs else SqL X.K H a xs) :
    ∃ its : List Value, Vals xs its ∧ (if tup then s.heap.IsTuple a its.toArray else s.heap.IsList a its.toArray) := by
  cases tup with
  | true =>
    obtain ⟨its, rv, p, hz⟩ := I.tuple h
    exact ⟨its, rv, p⟩
  | false =>
    obtain ⟨its, rv, p, hz⟩ := I.list h
    exact ⟨its, rv, p.isList⟩
theorem draws_sq {prog : Program} {w : World} {A : Around} (hh : A.handled = none) (it a : Addr) (hne : a ≠ it) (items : Array Value) (tup : Bool) :
    Draws prog w A it [it, a] items.size (fun i v => items[i]? = some v) (fun i h => (if tup then h.IsTupleIter it a i else h.IsListIter it a i) ∧ (if tup then h.IsTuple a items else h.IsList a items)) := by
  cases tup with
  | true => exact Draws.tuple hh it a hne items
  | false => exact Draws.list hh it a hne items
theorem turn_enumS {P : Program} {w : World} {K : PySem.W.Frag} {elts : List Expr} {kk : Nat} {tpos : Pos} (c : Int) (tup : Bool) (a e it : Addr) (hat : a ≠ it) :
    Turn P w K (.Tuple elts kk tpos) (IteS K c a tup) [e, it] e (StS c tup a e it) where
  mem := by simp
  obj := fun i h st b hb => by
    obtain ⟨⟨old, he⟩, hit, _⟩ := st
    have e' : b = e ∨ b = it := by simpa using hb
    rcases e' with z | z
    · rw [z]; exact ⟨_, he, fun v q => nomatch q⟩
    · rw [z]
      cases tup with
      | true =>
        obtain ⟨o, ho, hc, hd⟩ := hit
        exact ⟨o, ho, fun v q => by rw [hd] at q; cases q⟩
      | false =>
        obtain ⟨o, ho, hc, hd⟩ := hit
        exact ⟨o, ho, fun v q => by rw [hd] at q; cases q⟩
  keep := fun i h h' st k => by
    obtain ⟨⟨old, he⟩, hi, hne, hea⟩ := st
    refine ⟨⟨old, k e (by simp) _ he⟩, ?_, hne, hea⟩
    cases tup with
    | true => exact hi.at fun o q => k it (by simp) o q
    | false => exact hi.at fun o q => k it (by simp) o q
  item := by
    intro X hP hw hK hc i pins s σ H E I hf st hg
    subst hP hw hK
    obtain ⟨⟨old, he⟩, hit, hne, hea⟩ := st
    obtain ⟨xs, x, hq, hx⟩ := hg
    obtain ⟨its, rv, p⟩ := sq_vals I hq
    obtain ⟨u, hu, ru⟩ := rv.get hx
    have hel : e < s.heap.objs.size := Heap.lt_size he
    have hil : it < s.heap.objs.size := by
      cases tup with
      | true => obtain ⟨_, q, _⟩ := hit; exact Heap.lt_size q
      | false => obtain ⟨_, q, _⟩ := hit; exact Heap.lt_size q
    have hlt : i < its.toArray.size := by
      have := (List.getElem?_eq_some_iff.mp hu).1
      simpa using this
    refine wpAny_pyNext_enum_itemC (draws_sq (prog := X.prog) (w := X.w) (A := X.A.in1) (I.ok.hd hc) it a hat its.toArray tup) he ⟨hit, p⟩ hlt hne (by simp [hne, hea]) fun y h' tk hy ho hst' hT hsz hk => ?_
    obtain ⟨hit', _⟩ := hst'
    have ey : y = u := by
      have e1 : its.toArray[i]? = some u := by simpa using hu
      rw [e1] at hy
      exact (Option.some.inj hy).symm
    subst ey
    refine ⟨_, rfl, wpAny_letOwnedTupleGo_enum (s := { s with heap := h', toks := tk + 1 }) ho fun h'' he' sb => ?_⟩
    have hT2 : h''.get? s.heap.objs.size = some { cls := .type "tuple", data := .seq #[.int (c + i) tk, y] } := (sb.2 _ (Nat.ne_of_gt hel)).trans hT
    have new : ObjOk X.prog X.w (upd H s.heap.objs.size (.tup [.int (c + (i : Nat)), x])) h'' s.heap.objs.size (.tup [.int (c + (i : Nat)), x]) :=
      ⟨by show 2 ≤ sizeLine; decide, [.int (c + i) tk, y], .cons ⟨_, rfl⟩ (.cons ru .nil), ⟨_, hT2, rfl, _, rfl⟩⟩
    have I1 : Inv X pins σ (upd H s.heap.objs.size (.tup [.int (c + (i : Nat)), x])) { s with heap := h'', toks := tk + 1 } :=
      I.turnedNew (ch := [e, it]) (fun b ob hb q => (sb.2 b (fun z => hb (by simp [z]))).trans (hk b ob (fun z => hb (by simp [z])) (fun z => hb (by simp [z])) q)) hf (Nat.le_refl _) new
    refine ⟨.ref s.heap.objs.size, _, I1, rfl, ⟨_, x, rfl, I.hok.fresh (Nat.le_refl _), rfl, fun ys hy => ?_⟩, ⟨⟨y, ?_⟩, ?_, hne, hea⟩, fun b hb => ?_⟩
    · cases tup with
      | true => rw [I.tuple_inj hy hq]; exact hx
      | false => rw [I.list_inj hy hq]; exact hx
    · have e1 : c + ((i + 1 : Nat) : Int) = c + (i : Int) + 1 := by omega
      rw [e1]; exact he'
    · cases tup with
      | true => exact hit'.at fun o q => (sb.2 it (Ne.symm hne)).trans q
      | false => exact hit'.at fun o q => (sb.2 it (Ne.symm hne)).trans q
    · have hb' : b < s.heap.objs.size := by
        have e' : b = e ∨ b = it := by simpa using hb
        rcases e' with z | z
        · rw [z]; exact hel
        · rw [z]; exact hil
      rw [upd_ne (Nat.ne_of_lt hb')]
      exact (hf b hb).1
  done := by
    intro X hP hw hK hc i pins s σ H E I hf st hg
    subst hP hw hK
    obtain ⟨⟨old, he⟩, hit, hne, hea⟩ := st
    obtain ⟨xs, hq, hx⟩ := hg
    obtain ⟨its, rv, p⟩ := sq_vals I hq
    obtain ⟨f0, f1, f2, f3, f4, f5⟩ := hf it (by simp)
    have hl := rv.length
    have en : i = its.toArray.size := by
      rw [List.size_toArray]
      omega
    subst en
    exact wpAny_pyNext_enum_endD (draws_sq (prog := X.prog) (w := X.w) (A := X.A.in1) (I.ok.hd hc) it a hat its.toArray tup) he ⟨hit, p⟩ fun h' eb => ⟨rfl, I.turned (t' := s.toks) (fun b o hb q => eb b o hb q) f0 f1 f3 f4 f5⟩
  self := fun A i s Q E st h => let ⟨⟨_, he⟩, _⟩ := st; wpAny_pyIter_enum he h
def iEnumS (K : PySem.W.Frag) (ta : TA) (tk : TA) : TI := fun σ H R => ta σ H fun vs H1 => tk σ H1 fun zs H2 => ∃ (a : Addr) (xs : List V) (c : Int) (tup : Bool), vs = [.ref a] ∧ zs = [.int c] ∧ -(2 ^ 63) ≤ c ∧ c < 2 ^ 63 ∧ (if tup then SqT K H2 a xs else SqL K H2 a xs) ∧ R (IteS K c a tup) H2
theorem pi_enumK {X : Cx} {e : Expr} {ta tk : TA} {p pos tpos : Pos} {kws : List Keyword} {elts : List Expr} {kk : Nat} (hg : Gl X "enumerate") (hm : X.mg "enumerate" = none) (ha : PA X [e] ta) (hk : PK X kws tk)
    (he : backTo pos (starEach [e] X.env) = (false, eval e X.env) :: backTo pos (starEach [] X.env) := by rfl) (hpl : (backTo pos (starEach [e] X.env)).any (·.1) = false := by rfl)
    (hall : (backToKw pos (keywordEach kws X.env)).all (·.1.isSome) = true := by rfl) (hnone : (backToKw pos (keywordEach kws X.env)).any (·.1.isNone) = false := by rfl) (hks : (backToKw pos (keywordEach kws X.env)).filterMap (·.1) = [Str.ofString "start"] := by rfl) :
    PI X (.Tuple elts kk tpos) (.Call (.Name "enumerate" p) [e] kws pos) (iEnumS X.K ta tk) := by
  refine ⟨fun pins s σ H R I h => ?_⟩
  refine wpAny_Call_Name_kw (ld_blt I hg hm boot_enumerate ?_)
  refine callWith_kwT (thn (ha.run pos pins s σ H _ I h) fun us s0 ⟨vs, H0, I0, r1, q1⟩ => thn (hk.run pos pins s0 σ H0 _ I0 q1) fun ws s1 ⟨zs, H1, I1, r2, q2⟩ => ?_) he hpl hall hnone
  rw [hks]
  obtain ⟨a, xs, c, tup, ex, ez, c0, c1, hq, q⟩ := q2
  subst ex ez
  cases r1 with
  | cons r rr =>
    cases rr
    cases r
    cases r2 with
    | cons r rr =>
      cases rr
      obtain ⟨t, rfl⟩ := r
      show wpAny (model X.prog X.w) X.A (call (.type "enumerate") [.ref a] [(Str.ofString "start", .int c t)]) _ X.xe s1
      have main : ∀ (tup : Bool) (its : List Value), (if tup then s1.heap.IsTuple a its.toArray else s1.heap.IsList a its.toArray) → R (IteS X.K c a tup) H1 →
          wpAny (model X.prog X.w) X.A (call (.type "enumerate") [.ref a] [(Str.ofString "start", .int c t)]) (fun v s1 => wpAny (model X.prog X.w) X.A (pyIter v) (PIE X pins σ (.Tuple elts kk tpos) R) X.xe s1) X.xe s1 := by
        intro tup its p2 q
        have hal : a < s1.heap.objs.size := by
          cases tup with
          | true => obtain ⟨o, ho, _⟩ := p2; exact Heap.lt_size ho
          | false => obtain ⟨o, ho, _⟩ := p2; exact Heap.lt_size ho
        have fin : ∀ (h' : Heap), IsEnum h' (s1.heap.objs.size + 1) s1.heap.objs.size c .none → (if tup then h'.IsTupleIter s1.heap.objs.size a 0 else h'.IsListIter s1.heap.objs.size a 0) → (∀ b o, s1.heap.get? b = some o → h'.get? b = some o) →
            wpAny (model X.prog X.w) X.A (pyIter (.ref (s1.heap.objs.size + 1))) (PIE X pins σ (.Tuple elts kk tpos) R) X.xe { s1 with heap := h' } := by
          intro h' he hit hk
          refine wpAny_pyIter_enum he ?_
          have I2 : Inv X pins σ H1 { s1 with heap := h' } := I1.kept (t' := s1.toks) hk
          refine ⟨s1.heap.objs.size + 1, [s1.heap.objs.size + 1, s1.heap.objs.size], _, _, H1, rfl, I2, turn_enumS c tup a (s1.heap.objs.size + 1) s1.heap.objs.size (Nat.ne_of_lt hal),
            ⟨⟨.none, by have e0 : c + ((0 : Nat) : Int) = c := by omega
                        rw [e0]; exact he⟩, hit, Nat.succ_ne_self _, Nat.ne_of_gt (Nat.lt_succ_of_lt hal)⟩, fun b hb => ?_, q⟩
          have e' : b = s1.heap.objs.size + 1 ∨ b = s1.heap.objs.size := by simpa using hb
          have hle : s1.heap.objs.size ≤ b := by
            rcases e' with z | z
            · rw [z]; exact Nat.le_add_right _ _
            · rw [z]; exact Nat.le_refl _
          exact I1.fpOk hle (I1.hok.fresh hle)
        cases tup with
        | true => exact enum_begins_start (begins_tuple a its.toArray) p2 c0 c1 fun h' he hit hsz hk => fin h' he ⟨_, hit, rfl, rfl⟩ hk
        | false => exact enum_begins_start (begins_list a its.toArray) p2 c0 c1 fun h' he hit hsz hk => fin h' he ⟨_, hit, rfl, rfl⟩ hk
      obtain ⟨its, rv, p'⟩ := sq_vals I1 hq
      exact main tup its p' q
theorem walk_enumS {K : PySem.W.Frag} {c : Int} {tup : Bool} {a : Addr} {xs : List V} : Walk (IteS K c a tup) xs.length (fun H => if tup then SqT K H a xs else SqL K H a xs) (YPair (fun i => some (.int (c + (i : Nat)))) (fun i => xs[i]?)) := by
  refine ⟨fun i _ hi q => ⟨xs, xs[i], q, by simp [hi]⟩, fun _ q => ⟨xs, q, rfl⟩, fun i H v H' _ q y => ?_⟩
  obtain ⟨T, x, h1, h2, h3, h4⟩ := y
  exact ⟨T, .int (c + (i : Nat)), x, h1, h2, h3, rfl, h4 xs q⟩
end Xv

set_option Elab.async false
set_option linter.all false
set_option maxRecDepth 100000
set_option maxHeartbeats 4000000
/-! power series with whole coefficients, as functions -/
namespace Ps
/-- f 0 + .. + f (n - 1) -/
def sm (f : Nat → Int) : Nat → Int
  | 0 => 0
  | n + 1 => sm f n + f n
theorem sm_congr {f g : Nat → Int} : ∀ n : Nat, (∀ i, i < n → f i = g i) → sm f n = sm g n
  | 0, _ => rfl
  | n + 1, h => by
    show sm f n + f n = sm g n + g n
    rw [sm_congr n fun i hi => h i (by omega), h n (by omega)]
theorem sm_add (f g : Nat → Int) : ∀ n, sm (fun i => f i + g i) n = sm f n + sm g n
  | 0 => rfl
  | n + 1 => by
    show sm (fun i => f i + g i) n + (f n + g n) = sm f n + f n + (sm g n + g n)
    rw [sm_add f g n]
    omega
theorem sm_mul (c : Int) (f : Nat → Int) : ∀ n, sm (fun i => c * f i) n = c * sm f n
  | 0 => by
    show (0 : Int) = c * 0
    rw [Int.mul_zero]
  | n + 1 => by
    show sm (fun i => c * f i) n + c * f n = c * (sm f n + f n)
    rw [sm_mul c f n, Int.mul_add]
theorem sm_mul' (c : Int) (f : Nat → Int) (n : Nat) : sm (fun i => f i * c) n = sm f n * c := by
  rw [Int.mul_comm (sm f n), ← sm_mul]
  exact sm_congr n fun i _ => Int.mul_comm _ _
theorem sm_zero : ∀ n, sm (fun _ => 0) n = 0
  | 0 => rfl
  | n + 1 => by
    show sm (fun _ => 0) n + 0 = 0
    rw [sm_zero n]
    rfl
theorem sm_first (f : Nat → Int) : ∀ n, sm f (n + 1) = f 0 + sm (fun i => f (i + 1)) n
  | 0 => by
    show 0 + f 0 = f 0 + 0
    omega
  | n + 1 => by
    show sm f (n + 1) + f (n + 1) = f 0 + (sm (fun i => f (i + 1)) n + f (n + 1))
    rw [sm_first f n]
    omega
theorem sm_rev (f : Nat → Int) : ∀ n, sm (fun i => f (n - 1 - i)) n = sm f n
  | 0 => rfl
  | n + 1 => by
    rw [sm_first]
    show f (n + 1 - 1 - 0) + sm (fun i => f (n + 1 - 1 - (i + 1))) n = sm f n + f n
    have e : sm (fun i => f (n + 1 - 1 - (i + 1))) n = sm (fun i => f (n - 1 - i)) n := sm_congr n fun i hi => by
      have e2 : n + 1 - 1 - (i + 1) = n - 1 - i := by omega
      rw [e2]
    rw [e, sm_rev f n]
    have e3 : n + 1 - 1 - 0 = n := by omega
    rw [e3]
    omega
/-- the triangle summed the other way -/
theorem sm_tri (F : Nat → Nat → Int) : ∀ n, sm (fun i => sm (fun j => F i j) (i + 1)) n = sm (fun j => sm (fun k => F (k + j) j) (n - j)) n
  | 0 => rfl
  | n + 1 => by
    show sm (fun i => sm (fun j => F i j) (i + 1)) n + (sm (fun j => F n j) n + F n n) = sm (fun j => sm (fun k => F (k + j) j) (n + 1 - j)) n + sm (fun k => F (k + n) n) (n + 1 - n)
    rw [sm_tri F n]
    have e1 : sm (fun j => sm (fun k => F (k + j) j) (n + 1 - j)) n = sm (fun j => sm (fun k => F (k + j) j) (n - j) + F n j) n := sm_congr n fun j hj => by
      have e2 : n + 1 - j = (n - j) + 1 := by omega
      rw [e2]
      show sm _ (n - j) + F (n - j + j) j = _
      have e3 : n - j + j = n := by omega
      rw [e3]
    have e4 : sm (fun k => F (k + n) n) (n + 1 - n) = F n n := by
      have e5 : n + 1 - n = 1 := by omega
      rw [e5]
      show 0 + F (0 + n) n = F n n
      rw [Nat.zero_add]
      omega
    have e9 : sm (F n) n = sm (fun j => F n j) n := rfl
    rw [e1, sm_add, e4]
    omega
abbrev S : Type := Nat → Int
/-- the product -/
def cv (f g : S) : S := fun n => sm (fun i => f i * g (n - i)) (n + 1)
def one : S := fun n => if n = 0 then 1 else 0
theorem cv_comm (f g : S) : cv f g = cv g f := by
  funext n
  unfold cv
  rw [← sm_rev (fun i => f i * g (n - i)) (n + 1)]
  refine sm_congr _ fun i hi => ?_
  have e1 : n + 1 - 1 - i = n - i := by omega
  have e2 : n - (n - i) = i := by omega
  show f (n + 1 - 1 - i) * g (n - (n + 1 - 1 - i)) = _
  rw [e1, e2, Int.mul_comm]
theorem cv_assoc (f g h : S) : cv (cv f g) h = cv f (cv g h) := by
  funext n
  unfold cv
  have e1 : sm (fun i => sm (fun j => f j * g (i - j)) (i + 1) * h (n - i)) (n + 1) = sm (fun i => sm (fun j => f j * g (i - j) * h (n - i)) (i + 1)) (n + 1) := sm_congr _ fun i hi => (sm_mul' _ _ _).symm
  rw [e1, sm_tri (fun i j => f j * g (i - j) * h (n - i))]
  refine sm_congr _ fun j hj => ?_
  have e2 : n + 1 - j = (n - j) + 1 := by omega
  rw [e2, ← sm_mul]
  refine sm_congr _ fun k hk => ?_
  have e3 : k + j - j = k := by omega
  have e4 : n - (k + j) = n - j - k := by omega
  rw [e3, e4, Int.mul_assoc]
theorem cv_one (f : S) : cv f one = f := by
  rw [cv_comm]
  funext n
  unfold cv
  rw [sm_first]
  have e : sm (fun i => one (i + 1) * f (n - (i + 1))) n = 0 := by
    rw [← sm_zero n]
    refine sm_congr _ fun i _ => ?_
    show (if i + 1 = 0 then (1 : Int) else 0) * _ = 0
    rw [if_neg (by omega), Int.zero_mul]
  rw [e]
  show (1 : Int) * f (n - 0) + 0 = f n
  rw [Int.one_mul, Int.add_zero, Nat.sub_zero]
theorem one_cv (f : S) : cv one f = f := by
  rw [cv_comm, cv_one]
def sc (c : Int) (f : S) : S := fun n => c * f n
def ad (f g : S) : S := fun n => f n + g n
theorem cv_sc (c : Int) (f g : S) : cv f (sc c g) = sc c (cv f g) := by
  funext n
  unfold cv sc
  rw [← sm_mul]
  refine sm_congr _ fun i _ => ?_
  rw [← Int.mul_assoc, Int.mul_comm (f i) c, Int.mul_assoc]
theorem sc_cv (c : Int) (f g : S) : cv (sc c f) g = sc c (cv f g) := by
  rw [cv_comm, cv_sc, cv_comm]
theorem cv_ad (f g h : S) : cv f (ad g h) = ad (cv f g) (cv f h) := by
  funext n
  unfold cv ad
  rw [← sm_add]
  refine sm_congr _ fun i _ => Int.mul_add _ _ _
/-- n * f n -/
def dv (f : S) : S := fun n => (n : Int) * f n
theorem dv_cv (f g : S) : dv (cv f g) = ad (cv (dv f) g) (cv f (dv g)) := by
  funext n
  unfold dv cv ad
  rw [← sm_mul, ← sm_add]
  refine sm_congr _ fun i hi => ?_
  have e : (n : Int) = (i : Int) + ((n - i : Nat) : Int) := by omega
  have e1 : ((i : Int) + ((n - i : Nat) : Int)) * (f i * g (n - i)) = (i : Int) * f i * g (n - i) + f i * (((n - i : Nat) : Int) * g (n - i)) := by
    rw [Int.add_mul, Int.mul_assoc, ← Int.mul_assoc (f i), Int.mul_comm (f i) ((n - i : Nat) : Int), Int.mul_assoc]
  rw [← e1, ← e]
theorem dv_one : dv one = fun _ => 0 := by
  funext n
  show (n : Int) * (if n = 0 then 1 else 0) = 0
  by_cases h : n = 0
  · rw [h]
    rfl
  · rw [if_neg h, Int.mul_zero]
/-- powers -/
def pw (f : S) : Nat → S
  | 0 => one
  | k + 1 => cv (pw f k) f
theorem cv_zero (f : S) : cv f (fun _ => 0) = fun _ => 0 := by
  funext n
  unfold cv
  refine Eq.trans (sm_congr _ fun i _ => Int.mul_zero _) (sm_zero _)
theorem sc_zero (c : Int) : sc c (fun _ => 0) = fun _ => 0 := by
  funext n
  exact Int.mul_zero _
/-- f times the derivative of its power -/
theorem dv_pw (f : S) : ∀ k : Nat, cv f (dv (pw f k)) = sc (k : Int) (cv (dv f) (pw f k))
  | 0 => by
    show cv f (dv one) = _
    rw [dv_one, cv_zero]
    funext n
    exact (Int.zero_mul _).symm
  | k + 1 => by
    show cv f (dv (cv (pw f k) f)) = sc ((k + 1 : Nat) : Int) (cv (dv f) (cv (pw f k) f))
    rw [dv_cv, cv_ad]
    have e1 : cv f (cv (dv (pw f k)) f) = sc (k : Int) (cv (dv f) (cv (pw f k) f)) := by
      rw [← cv_assoc, dv_pw f k, sc_cv, cv_assoc]
    have e2 : cv f (cv (pw f k) (dv f)) = cv (dv f) (cv (pw f k) f) := by
      rw [cv_comm f, cv_comm (pw f k), cv_assoc]
    rw [e1, e2]
    funext n
    show (k : Int) * _ + _ = ((k + 1 : Nat) : Int) * _
    have e3 : ((k + 1 : Nat) : Int) = (k : Int) + 1 := rfl
    rw [e3, Int.add_mul, Int.one_mul]
/-- the same of the powers of an inverse -/
theorem dv_inv (f g : S) (h : cv f g = one) : ∀ k : Nat, cv f (dv (pw g k)) = sc (-(k : Int)) (cv (dv f) (pw g k))
  | 0 => by
    show cv f (dv one) = _
    rw [dv_one, cv_zero]
    funext n
    show (0 : Int) = -0 * _
    rw [Int.neg_zero, Int.zero_mul]
  | k + 1 => by
    have hd : cv f (dv g) = sc (-1) (cv (dv f) g) := by
      have e := dv_cv f g
      rw [h, dv_one] at e
      funext n
      have e1 := congrFun e n
      have e2 : (0 : Int) = cv (dv f) g n + cv f (dv g) n := e1
      show cv f (dv g) n = -1 * cv (dv f) g n
      omega
    show cv f (dv (cv (pw g k) g)) = sc (-((k + 1 : Nat) : Int)) (cv (dv f) (cv (pw g k) g))
    rw [dv_cv, cv_ad]
    have e1 : cv f (cv (dv (pw g k)) g) = sc (-(k : Int)) (cv (dv f) (cv (pw g k) g)) := by
      rw [← cv_assoc, dv_inv f g h k, sc_cv, cv_assoc]
    have e2 : cv f (cv (pw g k) (dv g)) = sc (-1) (cv (dv f) (cv (pw g k) g)) := by
      rw [cv_comm (pw g k), ← cv_assoc, hd, sc_cv, cv_assoc, cv_comm g]
    rw [e1, e2]
    funext n
    show -(k : Int) * _ + -1 * _ = -((k + 1 : Nat) : Int) * _
    have e3 : -((k + 1 : Nat) : Int) = -(k : Int) + -1 := by
      have : ((k + 1 : Nat) : Int) = (k : Int) + 1 := rfl
      omega
    rw [e3, Int.add_mul]
/-- the recurrence of a power with the exponent e -/
theorem recur {f b : S} {e : Int} (h : cv f (dv b) = sc e (cv (dv f) b)) (n : Nat) : (n : Int) * f 0 * b n = sm (fun i => ((e + 1) * ((i + 1 : Nat) : Int) - (n : Int)) * f (i + 1) * b (n - (i + 1))) n := by
  have h1 : sm (fun i => f i * (((n - i : Nat) : Int) * b (n - i))) (n + 1) = e * sm (fun i => ((i : Nat) : Int) * f i * b (n - i)) (n + 1) := congrFun h n
  rw [sm_first, sm_first] at h1
  have z : ((0 : Nat) : Int) * f 0 * b (n - 0) = 0 := by
    show (0 : Int) * f 0 * _ = 0
    rw [Int.zero_mul, Int.zero_mul]
  rw [z, Int.zero_add, ← sm_mul] at h1
  have e1 : sm (fun i => ((e + 1) * ((i + 1 : Nat) : Int) - (n : Int)) * f (i + 1) * b (n - (i + 1))) n = sm (fun i => e * (((i + 1 : Nat) : Int) * f (i + 1) * b (n - (i + 1)))) n - sm (fun i => f (i + 1) * (((n - (i + 1) : Nat) : Int) * b (n - (i + 1)))) n := by
    have e2 : sm (fun i => ((e + 1) * ((i + 1 : Nat) : Int) - (n : Int)) * f (i + 1) * b (n - (i + 1))) n + sm (fun i => f (i + 1) * (((n - (i + 1) : Nat) : Int) * b (n - (i + 1)))) n = sm (fun i => e * (((i + 1 : Nat) : Int) * f (i + 1) * b (n - (i + 1)))) n := by
      rw [← sm_add]
      refine sm_congr _ fun i hi => ?_
      have e3 : ((n - (i + 1) : Nat) : Int) = (n : Int) - ((i + 1 : Nat) : Int) := by omega
      rw [e3]
      generalize ((i + 1 : Nat) : Int) = I
      generalize (n : Int) = N
      generalize f (i + 1) = F
      generalize b (n - (i + 1)) = B
      have e4 : F * ((N - I) * B) = (N - I) * F * B := by
        rw [← Int.mul_assoc, Int.mul_comm F]
      have e5 : e * (I * F * B) = e * I * F * B := by
        rw [← Int.mul_assoc, ← Int.mul_assoc]
      rw [e4, e5, ← Int.add_mul, ← Int.add_mul]
      congr 2
      rw [Int.add_mul, Int.one_mul]
      omega
    omega
  rw [e1, ← h1]
  have e6 : f 0 * (((n - 0 : Nat) : Int) * b (n - 0)) = (n : Int) * f 0 * b n := by
    rw [Nat.sub_zero, ← Int.mul_assoc, Int.mul_comm (f 0)]
  rw [e6]
  omega
/-! ### an inverse -/
def inA (f : S) (u : Int) : Nat → S
  | 0 => fun m => if m = 0 then u else 0
  | n + 1 => fun m => if m = n + 1 then -u * sm (fun i => f (i + 1) * inA f u n (n - i)) (n + 1) else inA f u n m
def inv (f : S) (u : Int) : S := fun m => inA f u m m
theorem inA_le (f : S) (u : Int) : ∀ n m, m ≤ n → inA f u n m = inv f u m
  | 0, m, h => by
    have e : m = 0 := by omega
    subst e
    rfl
  | n + 1, m, h => by
    by_cases e : m = n + 1
    · subst e
      rfl
    · show (if m = n + 1 then _ else inA f u n m) = _
      rw [if_neg e]
      exact inA_le f u n m (by omega)
theorem inv_zero (f : S) (u : Int) : inv f u 0 = u := rfl
theorem inv_succ (f : S) (u : Int) (n : Nat) : inv f u (n + 1) = -u * sm (fun i => f (i + 1) * inv f u (n - i)) (n + 1) := by
  show (if n + 1 = n + 1 then -u * sm (fun i => f (i + 1) * inA f u n (n - i)) (n + 1) else _) = _
  rw [if_pos rfl]
  congr 1
  refine sm_congr _ fun i _ => ?_
  rw [inA_le f u n (n - i) (by omega)]
theorem cv_inv (f : S) {u : Int} (h0 : f 0 = u) (hu : u * u = 1) : cv f (inv f u) = one := by
  funext n
  unfold cv
  cases n with
  | zero =>
    show 0 + f 0 * inv f u 0 = 1
    rw [h0, inv_zero, hu]
    rfl
  | succ n =>
    rw [sm_first, h0]
    show u * inv f u (n + 1) + sm (fun i => f (i + 1) * inv f u (n + 1 - (i + 1))) (n + 1) = 0
    have e : sm (fun i => f (i + 1) * inv f u (n + 1 - (i + 1))) (n + 1) = sm (fun i => f (i + 1) * inv f u (n - i)) (n + 1) := sm_congr _ fun i _ => by
      have e2 : n + 1 - (i + 1) = n - i := by omega
      rw [e2]
    rw [e, inv_succ, ← Int.mul_assoc, Int.mul_neg, hu]
    omega
theorem pw_zero (f : S) : ∀ k, pw f k 0 = f 0 ^ k
  | 0 => (Int.pow_zero _).symm
  | k + 1 => by
    show cv (pw f k) f 0 = _
    show 0 + pw f k 0 * f 0 = _
    rw [pw_zero f k, Int.zero_add, Int.pow_succ]
/-! ### only the coefficients up to some last one matter -/
theorem cv_congr {f f' g g' : S} {N : Nat} (hf : ∀ i, i < N → f i = f' i) (hg : ∀ i, i < N → g i = g' i) : ∀ n, n < N → cv f g n = cv f' g' n := fun n hn => sm_congr _ fun i hi => by
  rw [hf i (by omega), hg (n - i) (by omega)]
theorem pw_congr {f f' : S} {N : Nat} (hf : ∀ i, i < N → f i = f' i) : ∀ k n, n < N → pw f k n = pw f' k n
  | 0, _, _ => rfl
  | k + 1, n, hn => cv_congr (pw_congr hf k) hf n hn
theorem inv_congr {f f' : S} {u : Int} {N : Nat} (hf : ∀ i, i < N → f i = f' i) : ∀ n, n < N → inv f u n = inv f' u n := by
  intro n
  induction n using Nat.strongRecOn with
  | ind n ih =>
    intro hn
    cases n with
    | zero => rfl
    | succ n =>
      rw [inv_succ, inv_succ]
      congr 1
      refine sm_congr _ fun i hi => ?_
      rw [hf (i + 1) (by omega), ih (n - i) (by omega) (by omega)]
/-! ### shifts -/
/-- q ^ z times it -/
def sh (z : Nat) (f : S) : S := fun n => if n < z then 0 else f (n - z)
theorem sm_split (f : S) (z : Nat) : ∀ n, sm f (z + n) = sm f z + sm (fun i => f (z + i)) n
  | 0 => by
    show sm f z = sm f z + 0
    omega
  | n + 1 => by
    show sm f (z + n) + f (z + n) = _
    rw [sm_split f z n]
    show _ = sm f z + (sm (fun i => f (z + i)) n + f (z + n))
    omega
theorem sh_cv (z : Nat) (f g : S) : cv (sh z f) g = sh z (cv f g) := by
  funext n
  unfold cv
  by_cases h : n < z
  · show _ = if n < z then 0 else _
    rw [if_pos h]
    refine Eq.trans (sm_congr _ fun i hi => ?_) (sm_zero _)
    show (if i < z then 0 else f (i - z)) * _ = 0
    rw [if_pos (by omega), Int.zero_mul]
  · show _ = if n < z then 0 else sm (fun i => f i * g (n - z - i)) (n - z + 1)
    rw [if_neg h]
    have e : n + 1 = z + (n - z + 1) := by omega
    rw [e, sm_split]
    have e0 : sm (fun i => sh z f i * g (n - i)) z = 0 := by
      refine Eq.trans (sm_congr _ fun i hi => ?_) (sm_zero _)
      show (if i < z then 0 else f (i - z)) * _ = 0
      rw [if_pos hi, Int.zero_mul]
    rw [e0, Int.zero_add]
    refine sm_congr _ fun i hi => ?_
    show (if z + i < z then 0 else f (z + i - z)) * g (n - (z + i)) = _
    rw [if_neg (by omega)]
    have e1 : z + i - z = i := by omega
    have e2 : n - (z + i) = n - z - i := by omega
    rw [e1, e2]
theorem sh_sh (a b : Nat) (f : S) : sh a (sh b f) = sh (a + b) f := by
  funext n
  unfold sh
  by_cases h : n < a
  · rw [if_pos h, if_pos (by omega)]
  · rw [if_neg h]
    by_cases h2 : n - a < b
    · rw [if_pos h2, if_pos (by omega)]
    · rw [if_neg h2, if_neg (by omega)]
      congr 1
      omega
theorem sh_zero (f : S) : sh 0 f = f := by
  funext n
  show (if n < 0 then 0 else f (n - 0)) = f n
  rw [if_neg (by omega), Nat.sub_zero]
theorem pw_sh (z : Nat) (f : S) : ∀ k, pw (sh z f) k = sh (z * k) (pw f k)
  | 0 => by
    rw [Nat.mul_zero, sh_zero]
    rfl
  | k + 1 => by
    show cv (pw (sh z f) k) (sh z f) = sh (z * (k + 1)) (cv (pw f k) f)
    rw [pw_sh z f k, sh_cv, cv_comm, sh_cv, cv_comm f, sh_sh]
    rfl
/-! ### bounds -/
theorem sm_bound {f : S} {M : Nat} : ∀ n, (∀ i, i < n → (f i).natAbs ≤ M) → (sm f n).natAbs ≤ n * M
  | 0, _ => by
    show 0 ≤ _
    omega
  | n + 1, h => by
    have h1 := sm_bound n fun i hi => h i (by omega)
    have h2 := h n (by omega)
    show (sm f n + f n).natAbs ≤ (n + 1) * M
    rw [Nat.succ_mul]
    omega
theorem cv_bound {f g : S} {N A B : Nat} (hf : ∀ i, i < N → (f i).natAbs ≤ A) (hg : ∀ i, i < N → (g i).natAbs ≤ B) : ∀ n, n < N → (cv f g n).natAbs ≤ N * (A * B) := fun n hn => by
  refine Nat.le_trans (sm_bound (M := A * B) (n + 1) fun i hi => ?_) (Nat.mul_le_mul_right _ (by omega))
  rw [Int.natAbs_mul]
  exact Nat.mul_le_mul (hf i (by omega)) (hg (n - i) (by omega))
theorem pw_bound {f : S} {N A : Nat} (hf : ∀ i, i < N → (f i).natAbs ≤ A) (hN : 0 < N) : ∀ k n, n < N → (pw f k n).natAbs ≤ (N * A) ^ k
  | 0, n, _ => by
    show (if n = 0 then (1 : Int) else 0).natAbs ≤ 1
    by_cases h : n = 0
    · rw [if_pos h]
      decide
    · rw [if_neg h]
      decide
  | k + 1, n, hn => by
    refine Nat.le_trans (cv_bound (pw_bound hf hN k) hf n hn) ?_
    rw [Nat.pow_succ, ← Nat.mul_assoc, Nat.mul_comm N, Nat.mul_assoc]
    exact Nat.le_refl _
theorem inv_bound {f : S} {u : Int} {N A : Nat} (hu : u.natAbs = 1) (hf : ∀ i, i < N → (f i).natAbs ≤ A) : ∀ n, n < N → (inv f u n).natAbs ≤ (N * (A + 1)) ^ n := by
  intro n
  induction n using Nat.strongRecOn with
  | ind n ih =>
    intro hn
    cases n with
    | zero =>
      rw [inv_zero, hu]
      exact Nat.le_refl _
    | succ n =>
      rw [inv_succ, Int.natAbs_mul, Int.natAbs_neg, hu, Nat.one_mul]
      have hp : 0 < N * (A + 1) := Nat.mul_pos (by omega) (by omega)
      refine Nat.le_trans (sm_bound (M := A * (N * (A + 1)) ^ n) (n + 1) fun i hi => ?_) ?_
      · rw [Int.natAbs_mul]
        refine Nat.mul_le_mul (hf (i + 1) (by omega)) (Nat.le_trans (ih (n - i) (by omega) (by omega)) ?_)
        exact Nat.pow_le_pow_right hp (by omega)
      · rw [Nat.pow_succ, Nat.mul_comm _ (N * (A + 1)), Nat.mul_assoc N]
        have h1 : A * (N * (A + 1)) ^ n ≤ (A + 1) * (N * (A + 1)) ^ n := Nat.mul_le_mul_right _ (by omega)
        exact Nat.mul_le_mul (by omega) h1
end Ps

set_option Elab.async false
set_option linter.all false
set_option maxRecDepth 100000
set_option maxHeartbeats 4000000
set_option pp.maxSteps 3000
set_option exponentiation.threshold 500000
namespace Xv
open PySem PySem.Spec PyProof.Rows L2
/-- // by any divisor but 0 below 2 ^ 9000 -/
def CDivB (_ j : Int) : Prop := j ≠ 0 ∧ j.natAbs.log2 < 9000
theorem op_fdivB {X : Cx} : OpR X (binaryOp .FloorDiv) (rI CDivB fun i j => .int (i.fdiv j)) := opI fun i j _ _ _ _ _ hc q => floordiv_int hc.1 q (.inl (PyProof.noPylong_of_log2 hc.2))
end Xv
namespace Gn
open PySem PySem.Spec PyProof.Rows L2 Dr Xv LamX Ps
def qL : Str := "law.<locals>.<lambda>"
/-- an error class of the program's own -/
structure ErrT (K : PySem.W.Frag) (C S : Addr) : Prop where
  x : PySem.W.excIn K C [.type "ValueError", .type "Exception", .type "BaseException", .type "object"] "ValueError.__new__" = true
  k : PySem.W.keepIn K (.ref C) = true
  b : PySem.W.subIn K (.ref C) (.type "BaseException") = some true
  t : PySem.W.typeIn K (.ref C) = some (.type "type")
  m : PySem.W.exmOne K (.ref C) (.ref S) = some true
  e : ExcC K C
  i : PySem.W.kitOne K (.ref C) (.ref C) = some true
def rowOf (n : Nat) (b : S) : List V := ((List.range n).map b).map V.int
inductive PV (H : Hp) : V → Prop
  | non : PV H .non
  | bl (b : Bool) : PV H (.bl b)
  | int (i : Int) : PV H (.int i)
  | str (x : Str) : PV H (.str x)
  | lst {a : Addr} {xs : List V} : H a = some (.lst xs) → PV H (.ref a)
  | tup {a : Addr} {xs : List V} : H a = some (.tup xs) → PV H (.ref a)
  | dK {a : Addr} {kvs : List (Key × V)} : H a = some (.dK kvs) → PV H (.ref a)
theorem PV.same {H H' : Hp} {x : V} (h : PV H x) (s : Same H H') : PV H' x := by
  cases h with
  | non => exact .non
  | bl b => exact .bl b
  | int i => exact .int i
  | str x => exact .str x
  | lst e => exact .lst (s _ _ e)
  | tup e => exact .tup (s _ _ e)
  | dK e => exact .dK (s _ _ e)
def isNum : V → Bool
  | .int _ => true
  | _ => false
def kInt : V → Bool
  | .int _ => true
  | .bl _ => true
  | _ => false
def kBool : V → Bool
  | .bl _ => true
  | _ => false
theorem PV.ty {K : PySem.W.Frag} {H : Hp} {x : V} (h : PV H x) : ∃ t, TyX K H x t ∧ PySem.W.kitOne K t (.type "int") = some (kInt x) ∧ PySem.W.kitOne K t (.type "bool") = some (kBool x) := by
  cases h with
  | non => exact ⟨_, .base .non, kit_ty (r := false) (by decide +kernel), kit_ty (r := false) (by decide +kernel)⟩
  | bl b => exact ⟨_, .base (.bl b), kit_ty (r := true) (by decide +kernel), kit_ty (r := true) (by decide +kernel)⟩
  | int i => exact ⟨_, .base (.int i), kit_ty (r := true) (by decide +kernel), kit_ty (r := false) (by decide +kernel)⟩
  | str x => exact ⟨_, .base (.str x), kit_ty (r := false) (by decide +kernel), kit_ty (r := false) (by decide +kernel)⟩
  | lst e => exact ⟨_, .base (.lst e), kit_ty (r := false) (by decide +kernel), kit_ty (r := false) (by decide +kernel)⟩
  | tup e => exact ⟨_, .base (.tup e), kit_ty (r := false) (by decide +kernel), kit_ty (r := false) (by decide +kernel)⟩
  | dK e => exact ⟨_, .base (.dK e), kit_ty (r := false) (by decide +kernel), kit_ty (r := false) (by decide +kernel)⟩
theorem kInt_num (x : V) : (kInt x && !kBool x) = isNum x := by
  cases x <;> rfl
def within (x : V) (lo hi : Int) : Bool := match x with
  | .int i => decide (lo ≤ i) && decide (i ≤ hi)
  | _ => false
inductive Items (H : Hp) : V → Option (List V) → Prop
  | non : Items H .non none
  | bl (b : Bool) : Items H (.bl b) none
  | int (i : Int) : Items H (.int i) none
  | str (x : Str) : Items H (.str x) none
  | lst {a : Addr} {xs : List V} : H a = some (.lst xs) → Items H (.ref a) (some xs)
  | tup {a : Addr} {xs : List V} : H a = some (.tup xs) → Items H (.ref a) (some xs)
  | dK {a : Addr} {kvs : List (Key × V)} : H a = some (.dK kvs) → Items H (.ref a) none
theorem Items.same {H H' : Hp} {x : V} {o : Option (List V)} (h : Items H x o) (s : Same H H') : Items H' x o := by
  cases h with
  | non => exact .non
  | bl b => exact .bl b
  | int i => exact .int i
  | str x => exact .str x
  | lst e => exact .lst (s _ _ e)
  | tup e => exact .tup (s _ _ e)
  | dK e => exact .dK (s _ _ e)
theorem Items.pv {H : Hp} {x : V} {o : Option (List V)} (h : Items H x o) : PV H x := by
  cases h with
  | non => exact .non
  | bl b => exact .bl b
  | int i => exact .int i
  | str x => exact .str x
  | lst e => exact .lst e
  | tup e => exact .tup e
  | dK e => exact .dK e
def AllPV (H : Hp) (o : Option (List V)) : Prop := ∀ xs, o = some xs → ∀ v ∈ xs, PV H v
theorem AllPV.same {H H' : Hp} {o : Option (List V)} (h : AllPV H o) (s : Same H H') : AllPV H' o := fun xs e v hv => (h xs e v hv).same s
theorem take_snoc {α β : Type} {f : α → β} {xs : List α} {i : Nat} {x : α} (h : xs[i]? = some x) : (xs.take i).map f ++ [f x] = (xs.take (i + 1)).map f := by
  obtain ⟨hi, e⟩ := List.getElem?_eq_some_iff.mp h
  rw [List.take_succ, h]
  simp
theorem take_len {α β : Type} {f : α → β} {xs : List α} {i : Nat} : ((xs.take i).map f).length ≤ xs.length := by
  rw [List.length_map, List.length_take]
  omega
def itemsOk (x : Option (List V)) : Bool := match x with
  | some xs => xs.all isNum
  | none => false
def short (o : Option (List V)) : Prop := ∀ xs, o = some xs → xs.length < sizeLine
theorem isi_seq {K : PySem.W.Frag} {H : Hp} {x : V} {o : Option (List V)} (h : Items H x o) : ∃ t, TyX K H x t ∧ PySem.W.kitAny K t [.type "list", .type "tuple"] = some o.isSome := by
  cases h with
  | non => exact ⟨_, .base .non, kitAny_cons (b := false) (kit_ty (by decide +kernel)) (fun _ => kitAny_cons (b := false) (kit_ty (by decide +kernel)) (fun _ => rfl) (fun z => nomatch z)) (fun z => nomatch z)⟩
  | bl b => exact ⟨_, .base (.bl b), kitAny_cons (b := false) (kit_ty (by decide +kernel)) (fun _ => kitAny_cons (b := false) (kit_ty (by decide +kernel)) (fun _ => rfl) (fun z => nomatch z)) (fun z => nomatch z)⟩
  | int i => exact ⟨_, .base (.int i), kitAny_cons (b := false) (kit_ty (by decide +kernel)) (fun _ => kitAny_cons (b := false) (kit_ty (by decide +kernel)) (fun _ => rfl) (fun z => nomatch z)) (fun z => nomatch z)⟩
  | str x => exact ⟨_, .base (.str x), kitAny_cons (b := false) (kit_ty (by decide +kernel)) (fun _ => kitAny_cons (b := false) (kit_ty (by decide +kernel)) (fun _ => rfl) (fun z => nomatch z)) (fun z => nomatch z)⟩
  | lst e => exact ⟨_, .base (.lst e), kitAny_cons (b := true) (kit_ty (by decide +kernel)) (fun z => nomatch z) (fun _ => rfl)⟩
  | tup e => exact ⟨_, .base (.tup e), kitAny_cons (b := false) (kit_ty (by decide +kernel)) (fun _ => kitAny_cons (b := true) (kit_ty (by decide +kernel)) (fun z => nomatch z) (fun _ => rfl)) (fun z => nomatch z)⟩
  | dK e => exact ⟨_, .base (.dK e), kitAny_cons (b := false) (kit_ty (by decide +kernel)) (fun _ => kitAny_cons (b := false) (kit_ty (by decide +kernel)) (fun _ => rfl) (fun z => nomatch z)) (fun z => nomatch z)⟩
def isRow (o : Option (List V)) : Bool := match o with
  | some xs => xs.all isNum && (decide (1 ≤ (xs.length : Int)) && decide ((xs.length : Int) ≤ 3001))
  | none => false
def fnL (ns : List Int) : S := fun i => ns.getD i 0
def tms (f : S) (N : Nat) : List Nat := (List.range N).filter fun i => decide (0 < i) && decide (f i ≠ 0)
theorem tms_succ (f : S) (N : Nat) : tms f (N + 1) = tms f N ++ (if 0 < N ∧ f N ≠ 0 then [N] else []) := by
  unfold tms
  rw [List.range_succ, List.filter_append]
  congr 1
  by_cases h : 0 < N ∧ f N ≠ 0
  · rw [if_pos h, List.filter_cons_of_pos (by simp [h.1, h.2])]
    rfl
  · rw [if_neg h, List.filter_cons_of_neg (by
      simp only [Bool.and_eq_true, decide_eq_true_eq]
      exact h)]
    rfl
theorem tms_lt {f : S} {N i : Nat} (h : i ∈ tms f N) : i < N ∧ 0 < i := by
  unfold tms at h
  rw [List.mem_filter, List.mem_range] at h
  simp only [Bool.and_eq_true, decide_eq_true_eq] at h
  exact ⟨h.1, h.2.1⟩
theorem tms_split (f : S) (n : Nat) : ∀ k, ∃ r, tms f (n + 1 + k) = tms f (n + 1) ++ r ∧ ∀ i ∈ r, n < i
  | 0 => ⟨[], (List.append_nil _).symm, fun i h => by cases h⟩
  | k + 1 => by
    obtain ⟨r, e, h⟩ := tms_split f n k
    refine ⟨r ++ (if 0 < n + 1 + k ∧ f (n + 1 + k) ≠ 0 then [n + 1 + k] else []), ?_, fun i hi => ?_⟩
    · show tms f (n + 1 + k + 1) = _
      rw [tms_succ, e, List.append_assoc]
    · rcases List.mem_append.mp hi with z | z
      · exact h i z
      · split at z
        · rw [List.mem_singleton.mp z]
          omega
        · cases z
theorem tms_sum (f g : S) (hg : ∀ i, f i = 0 → g i = 0) : ∀ n, ((tms f (n + 1)).map g).sum = sm (fun i => g (i + 1)) n
  | 0 => by
    rw [tms_succ]
    show (List.map g ([] ++ _)).sum = 0
    rw [if_neg (by omega)]
    rfl
  | n + 1 => by
    rw [tms_succ, List.map_append, List.sum_append, tms_sum f g hg n]
    show _ = sm (fun i => g (i + 1)) n + g (n + 1)
    congr 1
    by_cases h : f (n + 1) ≠ 0
    · rw [if_pos ⟨by omega, h⟩]
      show g (n + 1) + 0 = _
      omega
    · rw [if_neg (fun z => h z.2), hg (n + 1) (by simpa using h)]
      rfl
theorem take_sum {g : S} {l : List Nat} {j x : Nat} (h : l[j]? = some x) : ((l.take (j + 1)).map g).sum = ((l.take j).map g).sum + g x := by
  rw [List.take_succ, h]
  show ((l.take j ++ [x]).map g).sum = _
  rw [List.map_append, List.sum_append]
  show _ + (g x + 0) = _
  omega
theorem cut_at {A r : List Nat} {N m i : Nat} (hA : ∀ x ∈ A, x ≤ N) (hr : ∀ x ∈ r, N < x) (h : (A ++ r)[m]? = some i) (hi : N < i) (hle : ∀ x ∈ (A ++ r).take m, x ≤ N) : (A ++ r).take m = A := by
  have hm := (List.getElem?_eq_some_iff.mp h).1
  rw [List.length_append] at hm
  have l1 : A.length ≤ m := by
    refine Nat.le_of_not_lt fun hlt => ?_
    rw [List.getElem?_append_left hlt] at h
    have := hA i (List.mem_of_getElem? h)
    omega
  have l2 : m ≤ A.length := by
    refine Nat.le_of_not_lt fun hlt => ?_
    have h0 : 0 < r.length := by omega
    have e : ((A ++ r).take m)[A.length]? = some r[0] := by
      rw [List.getElem?_take, if_pos hlt, List.getElem?_append_right (Nat.le_refl _), Nat.sub_self]
      simp [h0]
    have h1 := hle _ (List.mem_of_getElem? e)
    have h2 := hr r[0] (List.getElem_mem h0)
    omega
  have e : m = A.length := by omega
  rw [e, List.take_left]
theorem cut_end {A r : List Nat} {N : Nat} (hr : ∀ x ∈ r, N < x) (hle : ∀ x ∈ (A ++ r).take (A ++ r).length, x ≤ N) : A ++ r = A := by
  rw [List.take_length] at hle
  cases r with
  | nil => exact List.append_nil _
  | cons x s =>
    have h1 := hle x (by simp)
    have h2 := hr x (by simp)
    omega
theorem iteF' {b : Bool} {A B : Prop} (h : b = false) (q : B) : if b = true then A else B := by
  rw [h]
  exact iteF q
theorem iteT' {b : Bool} {A B : Prop} (h : b = true) (q : A) : if b = true then A else B := by
  rw [h]
  exact iteT q
theorem inV_pm (z : Int) : inV (.int z) [.int 1, .int (-1)] = decide (z = 1 ∨ z = -1) := by
  have e : inV (.int z) [.int 1, .int (-1)] = ((1 == z) || ((-1 == z) || false)) := by
    first
      | rfl
      | (simp [inV, eqV])
  rw [e]
  by_cases h1 : z = 1
  · subst h1
    rfl
  · by_cases h2 : z = -1
    · subst h2
      rfl
    · have e1 : (1 == z) = false := by simpa using fun h => h1 h.symm
      have e2 : (-1 == z) = false := by simpa using fun h => h2 h.symm
      rw [e1, e2, decide_eq_false (fun h => h.elim h1 h2)]
      rfl
theorem items_ref {H : Hp} {x : V} {xs : List V} (h : Items H x (some xs)) : ∃ a, x = .ref a ∧ (H a = some (.lst xs) ∨ H a = some (.tup xs)) := by
  cases h with
  | lst e => exact ⟨_, rfl, .inl e⟩
  | tup e => exact ⟨_, rfl, .inr e⟩
theorem hat {ns : List Int} {i : Nat} (hi : i < ns.length) : (ns.map V.int)[i]? = some (.int (fnL ns i)) := by
  rw [List.getElem?_map]
  unfold fnL
  rw [List.getD_eq_getElem?_getD]
  simp [hi]
theorem nums_of : ∀ {xs : List V}, xs.all isNum = true → ∃ ns : List Int, xs = ns.map V.int
  | [], _ => ⟨[], rfl⟩
  | x :: r, h => by
    rw [List.all_cons, Bool.and_eq_true] at h
    obtain ⟨ns, rfl⟩ := nums_of h.2
    cases x with
    | int z => exact ⟨z :: ns, rfl⟩
    | _ => cases h.1
theorem isRow_ints {o : Option (List V)} (h : isRow o = true) : ∃ ns : List Int, o = some (ns.map V.int) ∧ 1 ≤ ns.length ∧ ns.length ≤ 3001 := by
  cases o with
  | none => cases h
  | some xs =>
    have e1 : (xs.all isNum && (decide (1 ≤ (xs.length : Int)) && decide ((xs.length : Int) ≤ 3001))) = true := h
    simp only [Bool.and_eq_true, decide_eq_true_eq] at e1
    obtain ⟨ns, rfl⟩ := nums_of e1.1
    rw [List.length_map] at e1
    exact ⟨ns, rfl, by omega, by omega⟩
theorem within_int {m : V} {lo hi : Int} (h : within m lo hi = true) : ∃ i, m = .int i ∧ lo ≤ i ∧ i ≤ hi := by
  cases m with
  | int i =>
    have e : (decide (lo ≤ i) && decide (i ≤ hi)) = true := h
    simp only [Bool.and_eq_true, decide_eq_true_eq] at e
    exact ⟨i, rfl, e.1, e.2⟩
  | _ => cases h
theorem fnL_out {ns : List Int} {i : Nat} (h : ns.length ≤ i) : fnL ns i = 0 := by
  unfold fnL
  rw [List.getD_eq_getElem?_getD, List.getElem?_eq_none h]
  rfl
theorem tn {σ : L2.St} {H : Hp} {Q : List V → Hp → Prop} (h : Q [] H) : tNil σ H Q := h
theorem tn0 {v : V} {σ : L2.St} {H : Hp} {Q : List V → Hp → Prop} (h : Q [v] H) : tCons (tC v) tNil σ H Q := h
def zer (n : Nat) : List V := List.replicate n (.int 0)
theorem rep1 {x : V} : ∀ n : Nat, (List.replicate n [x]).flatten = List.replicate n x
  | 0 => rfl
  | n + 1 => by
    rw [List.replicate_succ, List.flatten_cons, rep1 n, List.replicate_succ]
    rfl
theorem row_ext {n : Nat} {b b' : S} (h : ∀ i, i < n → b i = b' i) : rowOf n b = rowOf n b' := by
  unfold rowOf
  congr 1
  exact List.map_congr_left fun i hi => h i (List.mem_range.mp hi)
theorem row_zero {n : Nat} {b : S} (h : ∀ i, i < n → b i = 0) : rowOf n b = zer n := by
  unfold rowOf zer
  refine List.eq_replicate_iff.mpr ⟨by simp, fun v hv => ?_⟩
  obtain ⟨z, hz, rfl⟩ := List.mem_map.mp hv
  obtain ⟨i, hi, rfl⟩ := List.mem_map.mp hz
  rw [h i (List.mem_range.mp hi)]
theorem row_one {n : Nat} (h : 1 ≤ n) : rowOf n one = .int 1 :: zer (n - 1) := by
  obtain ⟨m, rfl⟩ : ∃ m, n = m + 1 := ⟨n - 1, by omega⟩
  unfold rowOf
  rw [List.range_succ_eq_map, List.map_cons, List.map_cons]
  congr 1
  show List.map V.int (List.map one (List.map Nat.succ (List.range m))) = zer (m + 1 - 1)
  refine List.eq_replicate_iff.mpr ⟨by simp, fun v hv => ?_⟩
  obtain ⟨z, hz, rfl⟩ := List.mem_map.mp hv
  obtain ⟨i, hi, rfl⟩ := List.mem_map.mp hz
  obtain ⟨j, _, rfl⟩ := List.mem_map.mp hi
  rfl
theorem row_split {z n : Nat} {b c : S} (h0 : ∀ i, i < z → b i = 0) (h1 : ∀ i, i < n → b (z + i) = c i) : rowOf (z + n) b = zer z ++ rowOf n c := by
  unfold rowOf
  rw [List.range_add, List.map_append, List.map_append]
  congr 1
  · exact row_zero h0
  · refine congrArg (List.map V.int) ?_
    rw [List.map_map]
    exact List.map_congr_left fun i hi => h1 i (List.mem_range.mp hi)
theorem fnL_drop (ns : List Int) (z i : Nat) : fnL (ns.drop z) i = fnL ns (z + i) := by
  unfold fnL
  rw [List.getD_eq_getElem?_getD, List.getD_eq_getElem?_getD, List.getElem?_drop]
theorem fnL_take {ns : List Int} {m i : Nat} (h : i < m) : fnL (ns.take m) i = fnL ns i := by
  unfold fnL
  rw [List.getD_eq_getElem?_getD, List.getD_eq_getElem?_getD, List.getElem?_take, if_pos h]
theorem fnL_sh {ns : List Int} {z : Nat} (h : ∀ i, i < z → fnL ns i = 0) : fnL ns = sh z (fnL (ns.drop z)) := by
  funext i
  unfold sh
  by_cases c : i < z
  · rw [if_pos c, h i c]
  · rw [if_neg c, fnL_drop]
    congr 1
    omega
theorem cut_mid {ns : List Int} {i j : Nat} (h1 : i ≤ ns.length) (h2 : j ≤ ns.length) : cutV (ns.map V.int) (some (i : Int)) (some (j : Int)) = ((ns.drop i).take (j - i)).map V.int := by
  have hi : HT.sIx (ns.map V.int).length 0 (some (i : Int)) = i := by
    rw [List.length_map, HT.sIx_nat]
    omega
  have hj : HT.sIx (ns.map V.int).length (ns.map V.int).length (some (j : Int)) = j := by
    rw [List.length_map, HT.sIx_nat]
    omega
  unfold cutV
  rw [hi, hj, List.map_take, List.map_drop]
theorem blkOk_loc {N : List Str} {sc scope : Scope} {own : List (Str × Nat)} (h : blkC N scope scope own = true) (hf : (scope.names.all fun y => !decide (y.2 = NameKind.free)) = true) : BlkOk N sc scope own := by
  have b := blkOk_by h
  refine ⟨b.kind, b.uniq, b.ix, fun y hy e => ?_, b.own⟩
  have z := List.all_eq_true.mp hf y hy
  rw [decide_eq_true e] at z
  cases z
theorem row_get {n i : Nat} {b : S} (h : i < n) : (rowOf n b)[i]? = some (.int (b i)) := by
  unfold rowOf
  rw [List.getElem?_map, List.getElem?_map, List.getElem?_range h]
  rfl
theorem row_len {n : Nat} {b : S} : (rowOf n b).length = n := by
  unfold rowOf
  rw [List.length_map, List.length_map, List.length_range]
theorem row_succ {n : Nat} {b : S} : rowOf (n + 1) b = rowOf n b ++ [.int (b n)] := by
  unfold rowOf
  rw [List.range_succ, List.map_append, List.map_append]
  rfl
theorem row_self (ns : List Int) : rowOf ns.length (fnL ns) = ns.map V.int := by
  unfold rowOf
  congr 1
  refine List.ext_getElem (by simp) fun i h1 h2 => ?_
  simp at h1
  simp [fnL, h1]
theorem sum_sm (h : S) : ∀ n, ((List.range n).map h).sum = sm h n
  | 0 => rfl
  | n + 1 => by
    rw [List.range_succ, List.map_append, List.sum_append, sum_sm h n]
    show sm h n + (h n + 0) = sm h n + h n
    omega
theorem back_get {ms : List Int} {m i j : Nat} (hm : m ≤ ms.length) (hi : i < m) (hj : j ≤ i) : ((((ms.take m).reverse).drop (m - 1 - i)).map V.int)[j]? = some (.int (fnL ms (i - j))) := by
  have hl : (ms.take m).length = m := by
    rw [List.length_take]
    omega
  rw [List.getElem?_map, List.getElem?_drop, List.getElem?_reverse (by rw [hl]; omega), hl, List.getElem?_take, if_pos (by omega)]
  have e : m - 1 - (m - 1 - i + j) = i - j := by omega
  rw [e]
  unfold fnL
  rw [List.getD_eq_getElem?_getD]
  have h2 : i - j < ms.length := by omega
  simp [h2]
theorem back_len {ms : List Int} {m i : Nat} (hm : m ≤ ms.length) (hi : i < m) : ((((ms.take m).reverse).drop (m - 1 - i)).map V.int).length = i + 1 := by
  rw [List.length_map, List.length_drop, List.length_reverse, List.length_take]
  omega
theorem cut_head {ns : List Int} {m : Nat} (h : m ≤ ns.length) : cutV (ns.map V.int) none (some (m : Int)) = (ns.take m).map V.int := by
  unfold cutV
  rw [HT.sIx_none, HT.sIx_nat, List.length_map, Nat.sub_zero, List.drop_zero, Nat.min_eq_left h, List.map_take]
theorem cut_tail {ns : List Int} {i : Nat} : cutV (ns.map V.int) (some (i : Int)) none = (ns.drop i).map V.int := by
  unfold cutV
  rw [HT.sIx_none, HT.sIx_nat, List.length_map, List.map_drop]
  by_cases h : i ≤ ns.length
  · rw [Nat.min_eq_left h]
    refine List.take_of_length_le ?_
    rw [List.length_drop, List.length_map]
    omega
  · rw [Nat.min_eq_right (by omega), List.drop_eq_nil_of_le (by rw [List.length_map]; exact Nat.le_refl _), List.drop_eq_nil_of_le (by rw [List.length_map]; omega)]
    exact List.take_nil
def accS (f g : S) (i : Nat) : S := fun n => sm (fun k => if k ≤ n then f k * g (n - k) else 0) i
theorem acc_step {f g : S} {i n : Nat} : accS f g (i + 1) n = accS f g i n + (if i ≤ n then f i * g (n - i) else 0) := rfl
theorem acc_end {f g : S} {N n : Nat} (h : n < N) : accS f g N n = cv f g n := by
  unfold accS cv
  have e : N = (n + 1) + (N - (n + 1)) := by omega
  rw [e, sm_split]
  have e2 : sm (fun i => if n + 1 + i ≤ n then f (n + 1 + i) * g (n - (n + 1 + i)) else 0) (N - (n + 1)) = 0 := by
    refine Eq.trans (sm_congr _ fun i _ => ?_) (sm_zero _)
    rw [if_neg (by omega)]
  rw [e2, Int.add_zero]
  exact sm_congr _ fun i hi => by rw [if_pos (by omega)]
theorem row_set {N m : Nat} {b c : S} {z : Int} (hm : m < N) (h1 : c m = z) (h2 : ∀ i, i < N → i ≠ m → c i = b i) : (rowOf N b).set m (.int z) = rowOf N c := by
  refine List.ext_getElem? fun i => ?_
  rw [List.getElem?_set]
  by_cases e : m = i
  · subst e
    rw [if_pos rfl, if_pos (by rw [row_len]; exact hm), row_get hm, h1]
  · rw [if_neg e]
    by_cases hi : i < N
    · rw [row_get hi, row_get hi, h2 i hi (fun h => e h.symm)]
    · rw [List.getElem?_eq_none (by rw [row_len]; omega), List.getElem?_eq_none (by rw [row_len]; omega)]
theorem fnL_row {n : Nat} {b : S} {i : Nat} : fnL ((List.range n).map b) i = if i < n then b i else 0 := by
  unfold fnL
  rw [List.getD_eq_getElem?_getD, List.getElem?_map]
  by_cases h : i < n
  · rw [List.getElem?_range h, if_pos h]
    rfl
  · rw [List.getElem?_eq_none (by rw [List.length_range]; omega), if_neg h]
    rfl
theorem freeX {H H1 : Hp} {d l D : Addr} (s : SameX d l H H1) (n : H1 D = none) (nd : D ≠ d) (nl : D ≠ l) : H D = none := by
  cases e : H D with
  | none => rfl
  | some o =>
    rw [s _ _ e nd nl] at n
    cases n
def gR {α : Type} (us ws : List α) : List α := match us with
  | [] => ws.reverse
  | _ => []
theorem kbR {K : PySem.W.Frag} {x qual : Str} {params : Arguments} {body : List Stmt} {scope : Scope} {kws : List (Str × V)} {f : Addr} {fd : FuncData} {ps : List Str} (F : FunD K x qual params body scope [] kws f fd) (hps : ps ≠ [])
    (h : ∀ (kV doc pm : Value) (an : Option Addr) (cdv ct : Value) (ws : List Value), ws.length = ps.length → bindArgs (PySem.W.fnOf x qual params body scope .none kV doc pm an cdv ct) ⟨[], ps.reverse.zip ws⟩ = pure (ps.zip ws.reverse)) : KBinds K fd ps ps.reverse gR gR := by
  obtain ⟨oc, od, dV, kV, doc, pm, an, cdv, ct, osl, rfl, lk, hcd, hD, hK⟩ := F.ex
  refine ⟨fun s us ws hK' hl => ?_, fun {vs us zs ws} r1 r2 => ?_⟩
  · cases us with
    | cons u r =>
      exact absurd (List.length_eq_zero_iff.mp hl.symm) hps
    | nil =>
      rcases hD with ⟨_, rfl⟩ | ⟨e, _⟩
      · refine BindsTo.of_eq (h kV doc pm an cdv ct ws ?_)
        rw [← hl]
        exact (List.length_reverse).symm
      · exact absurd rfl e
  · cases r1 with
    | nil => exact r2.reverse
    | cons _ _ => exact .nil
def noArgs : Arguments := { posonlyargs := [], args := [], vararg := none, kwonlyargs := [], kw_defaults := [], kwarg := none, defaults := [] }
structure Own (H : Hp) (d l p : Addr) (xs : List V) : Prop where
  at_ : H p = some (.lst xs)
  nd : p ≠ d
  nl : p ≠ l
structure Wd (Pt : Addr) (H : Hp) (d l c : Addr) : Prop where
  dr : Draw H d l c
  tb : Tabs [(Pt, qL)] H
variable {H H' : Hp} {d l c p Pt : Addr} {xs : List V} {o : HO}
theorem Own.same (h : Own H d l p xs) (s : Same H H') : Own H' d l p xs := ⟨s _ _ h.at_, h.nd, h.nl⟩
theorem Own.sx (h : Own H d l p xs) (s : SameX d l H H') : Own H' d l p xs := ⟨s _ _ h.at_ h.nd h.nl, h.nd, h.nl⟩
theorem Own.ext (h : Own H d l p xs) (s : ExtN H H') : Own H' d l p xs := ⟨s _ _ h.at_ (fun ps z => by cases z), h.nd, h.nl⟩
theorem Own.new (D : Draw H d l c) (n : H p = none) : Own (upd H p (.lst xs)) d l p xs := ⟨upd_same, (D.ne n).1, (D.ne n).2.1⟩
theorem Wd.same (W : Wd Pt H d l c) (s : Same H H') : Wd Pt H' d l c := ⟨W.dr.same s, W.tb.ext s⟩
theorem Wd.sx (W : Wd Pt H d l c) (s : SameX d l H H') (D : Draw H' d l c) : Wd Pt H' d l c := by
  refine ⟨D, fun p hp => ?_⟩
  obtain ⟨ls, cs, r, t, D0⟩ := W.dr
  obtain ⟨ps, h1, h2, h3⟩ := W.tb p hp
  refine ⟨ps, s _ _ h1 (ne_of h1 D0.dd (fun z => by cases z)) (ne_of h1 D0.dl (fun z => by cases z)), h2, fun pos cv hc => ?_⟩
  obtain ⟨k, e1, e2⟩ := h3 pos cv hc
  refine ⟨k, e1, s _ _ e2 (ne_of e2 D0.dd (fun z => ?_)) (ne_of e2 D0.dl (fun z => ?_))⟩
  · unfold CodeO at z
    cases z
  · unfold CodeO at z
    cases z
theorem Draw.ext (D : Draw H d l c) (s : ExtN H H') : Draw H' d l c := by
  obtain ⟨ls, cs, r, t, D0⟩ := D
  exact ⟨ls, cs, r, t, s _ _ D0.dd (fun ps z => by cases z), s _ _ D0.dl (fun ps z => by cases z), s _ _ D0.dc (fun ps z => by cases z), D0.lc⟩
theorem Wd.upd {Pt d l c D' : Addr} {xs ys : List V} (W : Wd Pt H d l c) (h : H D' = some (.lst xs)) (n1 : D' ≠ d) (n2 : D' ≠ l) (n3 : D' ≠ c) : Wd Pt (upd H D' (.lst ys)) d l c := by
  refine ⟨W.dr.put n1 n2 n3, fun p hp => ?_⟩
  obtain ⟨ps, h1, h2, h3⟩ := W.tb p hp
  refine ⟨ps, by rw [upd_ne (ne_of h1 h (fun z => by cases z))]; exact h1, h2, fun pos cv hc => ?_⟩
  obtain ⟨k, e1, e2⟩ := h3 pos cv hc
  have nk : k ≠ D' := ne_of e2 h (fun z => by
    unfold CodeO at z
    cases z)
  exact ⟨k, e1, by rw [upd_ne nk]; exact e2⟩
theorem Own.upd {d l p D' : Addr} {xs : List V} {o : HO} (O : Own H d l p xs) (h : p ≠ D') : Own (upd H D' o) d l p xs := ⟨by rw [upd_ne h]; exact O.at_, O.nd, O.nl⟩
theorem eq_no (ls : List Int) : (!PyData.eqv (.list (intsD ls)) (.list (intsD ls))) = false := by
  have e := SeqAt.eqv_refl (.list (intsD ls)) (show PyData.canLay0 (.list (intsD ls)) = true from ints_lay ls)
  rw [e]
  rfl
structure OwnO (H : Hp) (d l p : Addr) (o : HO) : Prop where
  at_ : H p = some o
  nd : p ≠ d
  nl : p ≠ l
  nt : ∀ ps, o ≠ .tbl ps
theorem OwnO.same (h : OwnO H d l p o) (s : Same H H') : OwnO H' d l p o := ⟨s _ _ h.at_, h.nd, h.nl, h.nt⟩
theorem OwnO.sx (h : OwnO H d l p o) (s : SameX d l H H') : OwnO H' d l p o := ⟨s _ _ h.at_ h.nd h.nl, h.nd, h.nl, h.nt⟩
theorem OwnO.ext (h : OwnO H d l p o) (s : ExtN H H') : OwnO H' d l p o := ⟨s _ _ h.at_ h.nt, h.nd, h.nl, h.nt⟩
theorem OwnO.new (D : Draw H d l c) (n : H p = none) (nt : ∀ ps, o ≠ .tbl ps) : OwnO (upd H p o) d l p o := ⟨upd_same, (D.ne n).1, (D.ne n).2.1, nt⟩
theorem OwnO.upd {D' : Addr} {o' : HO} (O : OwnO H d l p o) (h : p ≠ D') : OwnO (upd H D' o') d l p o := ⟨by rw [upd_ne h]; exact O.at_, O.nd, O.nl, O.nt⟩
theorem all_num (ns : List Int) : (ns.map V.int).all isNum = true := by
  rw [List.all_map]
  exact List.all_eq_true.mpr fun _ _ => rfl
theorem row_ints {ns : List Int} (h1 : 1 ≤ ns.length) (h2 : ns.length ≤ 3001) : isRow (some (ns.map V.int)) = true := by
  show ((ns.map V.int).all isNum && (decide (1 ≤ ((ns.map V.int).length : Int)) && decide (((ns.map V.int).length : Int) ≤ 3001))) = true
  rw [all_num, List.length_map, decide_eq_true (by omega : 1 ≤ (ns.length : Int)), decide_eq_true (by omega : (ns.length : Int) ≤ 3001)]
  rfl
theorem pv_ints {H : Hp} (ns : List Int) : AllPV H (some (ns.map V.int)) := by
  intro xs e v hv
  cases e
  obtain ⟨z, _, rfl⟩ := List.mem_map.mp hv
  exact .int z
theorem short_ints {ns : List Int} (h2 : ns.length ≤ 3001) : short (some (ns.map V.int)) := by
  intro xs e
  cases e
  rw [List.length_map, sizeLine_eq]
  omega
def Bd (ns : List Int) : Prop := ∀ i, (fnL ns i).natAbs < 2 ^ 90
theorem Bd.to {ns : List Int} (h : Bd ns) {k : Nat} (hk : 90 ≤ k) : ∀ i, (fnL ns i).natAbs < 2 ^ k := fun i => Nat.lt_of_lt_of_le (h i) (Nat.pow_le_pow_right (by decide) hk)
theorem Bd.mem {ns : List Int} (h : Bd ns) {z : Int} (hz : z ∈ ns) : z.natAbs < 2 ^ 90 := by
  obtain ⟨i, hi⟩ := List.mem_iff_getElem?.mp hz
  have e := h i
  unfold fnL at e
  rw [List.getD_eq_getElem?_getD, hi] at e
  exact e
theorem bd_of {ns : List Int} (h : ∀ z ∈ ns, z.natAbs < 2 ^ 90) : Bd ns := fun i => by
  by_cases hi : i < ns.length
  · unfold fnL
    rw [List.getD_eq_getElem?_getD, List.getElem?_eq_getElem hi]
    exact h _ (List.getElem_mem hi)
  · rw [fnL_out (by omega)]
    exact Nat.pow_pos (by decide)
theorem ints_inj {a b : List Int} (h : some (a.map V.int) = some (b.map V.int)) : a = b := by
  have h2 := congrArg (fun o => (o.getD []).filterMap (fun v => match v with | V.int z => some z | _ => none)) h
  simp only [Option.getD_some, List.filterMap_map] at h2
  have e : ∀ l : List Int, l.filterMap ((fun v => match v with | V.int z => some z | _ => none) ∘ V.int) = l := fun l => by
    induction l with
    | nil => rfl
    | cons z r ih => rw [List.filterMap_cons]; exact congrArg (z :: ·) ih
  rw [e, e] at h2
  exact h2
theorem within_yes {i lo hi : Int} (h1 : lo ≤ i) (h2 : i ≤ hi) : within (.int i) lo hi = true := by
  show (decide (lo ≤ i) && decide (i ≤ hi)) = true
  rw [decide_eq_true h1, decide_eq_true h2]
  rfl
end Gn

set_option Elab.async false
set_option linter.all false
set_option maxRecDepth 100000
set_option maxHeartbeats 4000000
/-! products of powers of 1 - q^n, and sums over divisors -/
namespace Ps
/-- 1 - q^n -/
def U (n : Nat) : S := fun i => if i = 0 then 1 else if i = n then -1 else 0
/-- its inverse -/
def G (n : Nat) : S := fun i => if n ∣ i then 1 else 0
/-- q^n / (1 - q^n) -/
def Ev (n : Nat) : S := fun i => if i ≠ 0 ∧ n ∣ i then 1 else 0
/-- q^n -/
def Xp (n : Nat) : S := fun i => if i = n then 1 else 0
theorem sm_one_at (f : S) {m : Nat} : ∀ N, m < N → (∀ i, i < N → i ≠ m → f i = 0) → sm f N = f m
  | 0, h, _ => absurd h (Nat.not_lt_zero _)
  | N + 1, h, h2 => by
    show sm f N + f N = f m
    by_cases e : m = N
    · subst e
      rw [sm_congr (g := fun _ => 0) m (fun i hi => h2 i (by omega) (by omega)), sm_zero]
      omega
    · rw [sm_one_at f N (by omega) (fun i hi hn => h2 i (by omega) hn), h2 N (by omega) (fun z => e z.symm)]
      omega
theorem cv_U {n : Nat} (hn : 0 < n) (f : S) : cv (U n) f = fun k => f k - (if n ≤ k then f (k - n) else 0) := by
  funext k
  unfold cv
  rw [sm_first]
  have e0 : U n 0 * f (k - 0) = f k := by
    show (1 : Int) * f (k - 0) = f k
    rw [Int.one_mul, Nat.sub_zero]
  rw [e0]
  by_cases h : n ≤ k
  · rw [if_pos h, sm_one_at (m := n - 1) (fun i => U n (i + 1) * f (k - (i + 1))) k (by omega) (fun i hi hne => ?_)]
    · show f k + U n (n - 1 + 1) * f (k - (n - 1 + 1)) = _
      have e1 : n - 1 + 1 = n := by omega
      rw [e1]
      have e2 : U n n = -1 := by
        unfold U
        rw [if_neg (by omega), if_pos rfl]
      rw [e2]
      omega
    · show U n (i + 1) * _ = 0
      have e2 : U n (i + 1) = 0 := by
        unfold U
        rw [if_neg (by omega), if_neg (by omega)]
      rw [e2, Int.zero_mul]
  · rw [if_neg h, sm_congr (g := fun _ => 0) k (fun i hi => ?_), sm_zero]
    · omega
    · show U n (i + 1) * _ = 0
      have e2 : U n (i + 1) = 0 := by
        unfold U
        rw [if_neg (by omega), if_neg (by omega)]
      rw [e2, Int.zero_mul]
theorem dvd_lt {n k : Nat} (h : k < n) : n ∣ k ↔ k = 0 := ⟨fun z => by
  rcases Nat.eq_zero_or_pos k with q | q
  · exact q
  · exact absurd (Nat.le_of_dvd q z) (by omega), fun z => by rw [z]; exact Nat.dvd_zero _⟩
theorem dvd_back {n k : Nat} (h : n ≤ k) : n ∣ k ↔ n ∣ k - n := ⟨fun z => Nat.dvd_sub z (Nat.dvd_refl n), fun z => by
  have z2 := Nat.dvd_add z (Nat.dvd_refl n)
  rwa [Nat.sub_add_cancel h] at z2⟩
theorem UG {n : Nat} (hn : 0 < n) : cv (U n) (G n) = one := by
  rw [cv_U hn]
  funext k
  show (if n ∣ k then (1 : Int) else 0) - (if n ≤ k then (if n ∣ k - n then 1 else 0) else 0) = if k = 0 then 1 else 0
  by_cases h : n ≤ k
  · rw [if_pos h, if_neg (by omega : ¬ k = 0)]
    by_cases d : n ∣ k
    · rw [if_pos d, if_pos ((dvd_back h).mp d)]
      rfl
    · rw [if_neg d, if_neg (fun z => d ((dvd_back h).mpr z))]
      rfl
  · rw [if_neg h]
    by_cases d : k = 0
    · rw [if_pos ((dvd_lt (by omega)).mpr d), if_pos d]
      rfl
    · rw [if_neg (fun z => d ((dvd_lt (by omega)).mp z)), if_neg d]
      rfl
theorem UE {n : Nat} (hn : 0 < n) : cv (U n) (Ev n) = Xp n := by
  rw [cv_U hn]
  funext k
  show (if k ≠ 0 ∧ n ∣ k then (1 : Int) else 0) - (if n ≤ k then (if k - n ≠ 0 ∧ n ∣ k - n then 1 else 0) else 0) = if k = n then 1 else 0
  by_cases h : n ≤ k
  · rw [if_pos h]
    by_cases d : n ∣ k
    · rw [if_pos ⟨by omega, d⟩]
      by_cases e : k = n
      · rw [if_pos e, if_neg (by omega)]
        rfl
      · rw [if_neg e, if_pos ⟨by omega, (dvd_back h).mp d⟩]
        rfl
    · rw [if_neg (fun z => d z.2), if_neg (fun z => d ((dvd_back h).mpr z.2)), if_neg (fun z => d (by rw [z]; exact Nat.dvd_refl _))]
      rfl
  · rw [if_neg h, if_neg (fun z => h (Nat.le_of_dvd (Nat.pos_of_ne_zero z.1) z.2)), if_neg (by omega)]
    rfl
theorem dvU {n : Nat} : dv (U n) = sc (-(n : Int)) (Xp n) := by
  funext i
  show (i : Int) * (if i = 0 then 1 else if i = n then -1 else 0) = -(n : Int) * (if i = n then 1 else 0)
  by_cases h : i = n
  · subst h
    rw [if_pos rfl, if_pos rfl]
    by_cases z : i = 0
    · rw [if_pos z]
      omega
    · rw [if_neg z]
      omega
  · rw [if_neg h, if_neg h]
    by_cases z : i = 0
    · rw [if_pos z]
      omega
    · rw [if_neg z]
      omega
theorem cancelU {n : Nat} (hn : 0 < n) {f g : S} (h : cv (U n) f = cv (U n) g) : f = g := by
  have e : ∀ z : S, cv (G n) (cv (U n) z) = z := fun z => by rw [← cv_assoc, cv_comm (G n), UG hn, one_cv]
  rw [← e f, h, e]
theorem ad_zero (f : S) : ad f (fun _ => 0) = f := by
  funext k
  show f k + 0 = f k
  omega
theorem dvG {n : Nat} (hn : 0 < n) : dv (G n) = cv (sc (n : Int) (Ev n)) (G n) := by
  refine cancelU hn ?_
  have h := dv_cv (U n) (G n)
  rw [UG hn, dv_one, dvU, ← UE hn, sc_cv] at h
  have e1 : cv (cv (U n) (Ev n)) (G n) = cv (U n) (cv (Ev n) (G n)) := cv_assoc _ _ _
  rw [e1] at h
  rw [sc_cv, cv_sc]
  funext k
  have hk := congrFun h k
  show cv (U n) (dv (G n)) k = (n : Int) * cv (U n) (cv (Ev n) (G n)) k
  have hk2 : (0 : Int) = -(n : Int) * cv (U n) (cv (Ev n) (G n)) k + cv (U n) (dv (G n)) k := hk
  rw [Int.neg_mul] at hk2
  omega
/-- the logarithmic slope of a is s -/
structure Lg (s a : S) : Prop where
  z : s 0 = 0
  d : dv a = cv s a
theorem Lg.one : Lg (fun _ => 0) one := ⟨rfl, by rw [dv_one, cv_comm, cv_zero]⟩
theorem ad_cv (f g h : S) : cv (ad f g) h = ad (cv f h) (cv g h) := by rw [cv_comm, cv_ad, cv_comm h f, cv_comm h g]
theorem Lg.pos {s a : S} (L : Lg s a) {n : Nat} (hn : 0 < n) : Lg (ad s (sc (n : Int) (Ev n))) (cv (G n) a) := by
  refine ⟨?_, ?_⟩
  · show s 0 + (n : Int) * (if (0 : Nat) ≠ 0 ∧ n ∣ 0 then 1 else 0) = 0
    rw [L.z, if_neg (fun z => z.1 rfl)]
    omega
  · rw [dv_cv, dvG hn, L.d, ad_cv, cv_assoc, ← cv_assoc (G n) s a, cv_comm (G n) s, cv_assoc]
    funext k
    show _ + _ = _ + _
    omega
theorem Lg.neg {s a : S} (L : Lg s a) {n : Nat} (hn : 0 < n) : Lg (ad s (sc (-(n : Int)) (Ev n))) (cv (U n) a) := by
  refine ⟨?_, ?_⟩
  · show s 0 + -(n : Int) * (if (0 : Nat) ≠ 0 ∧ n ∣ 0 then 1 else 0) = 0
    rw [L.z, if_neg (fun z => z.1 rfl)]
    omega
  · rw [dv_cv, dvU, L.d, ad_cv, ← UE hn, sc_cv, sc_cv, cv_assoc, cv_comm (U n) (cv s a), cv_assoc, cv_comm a (U n)]
    have e : cv (U n) (cv (Ev n) a) = cv (Ev n) (cv (U n) a) := by rw [← cv_assoc, cv_comm (U n), cv_assoc]
    rw [e]
    funext k
    show _ + _ = _ + _
    omega
/-- one factor to the power -p, laps done -/
def lapF (n : Nat) (p : Int) : Nat → S → S
  | 0, a => a
  | j + 1, a => if 0 < p then cv (G n) (lapF n p j a) else cv (U n) (lapF n p j a)
def prA (p : S) : Nat → S
  | 0 => one
  | j + 1 => lapF (j + 1) (p j) (p j).natAbs (prA p j)
/-- the weighted sum over divisors, the first j alone -/
def sS (p : S) : Nat → S
  | 0 => fun _ => 0
  | j + 1 => ad (sS p j) (sc (((j + 1 : Nat) : Int) * p j) (Ev (j + 1)))
theorem lg_lap {s a : S} (L : Lg s a) {n : Nat} (hn : 0 < n) (p : Int) : ∀ j, j ≤ p.natAbs → Lg (ad s (sc ((n : Int) * (if 0 < p then (j : Int) else -(j : Int))) (Ev n))) (lapF n p j a)
  | 0, _ => by
    have e : ad s (sc ((n : Int) * (if 0 < p then ((0 : Nat) : Int) else -((0 : Nat) : Int))) (Ev n)) = s := by
      funext k
      show s k + (n : Int) * (if 0 < p then (0 : Int) else -(0 : Int)) * _ = s k
      split <;> simp
    rw [e]
    exact L
  | j + 1, hj => by
    have L1 := lg_lap L hn p j (by omega)
    unfold lapF
    by_cases h : 0 < p
    · rw [if_pos h] at L1
      rw [if_pos h, if_pos h]
      have e : ad s (sc ((n : Int) * ((j + 1 : Nat) : Int)) (Ev n)) = ad (ad s (sc ((n : Int) * (j : Int)) (Ev n))) (sc (n : Int) (Ev n)) := by
        funext k
        show s k + (n : Int) * ((j + 1 : Nat) : Int) * Ev n k = s k + (n : Int) * (j : Int) * Ev n k + (n : Int) * Ev n k
        have e1 : ((j + 1 : Nat) : Int) = (j : Int) + 1 := by omega
        rw [e1, Int.mul_add, Int.mul_one, Int.add_mul]
        omega
      rw [e]
      exact L1.pos hn
    · rw [if_neg h] at L1
      rw [if_neg h, if_neg h]
      have e : ad s (sc ((n : Int) * -((j + 1 : Nat) : Int)) (Ev n)) = ad (ad s (sc ((n : Int) * -(j : Int)) (Ev n))) (sc (-(n : Int)) (Ev n)) := by
        funext k
        show s k + (n : Int) * -((j + 1 : Nat) : Int) * Ev n k = s k + (n : Int) * -(j : Int) * Ev n k + -(n : Int) * Ev n k
        have e1 : -((j + 1 : Nat) : Int) = -(j : Int) + -1 := by omega
        rw [e1, Int.mul_add, Int.add_mul, Int.mul_neg_one]
        omega
      rw [e]
      exact L1.neg hn
theorem lg_prA (p : S) : ∀ j, Lg (sS p j) (prA p j)
  | 0 => Lg.one
  | j + 1 => by
    have L := lg_lap (lg_prA p j) (n := j + 1) (by omega) (p j) (p j).natAbs (Nat.le_refl _)
    have e : (if 0 < p j then ((p j).natAbs : Int) else -((p j).natAbs : Int)) = p j := by
      split <;> omega
    rw [e] at L
    exact L
theorem lapF_at (n : Nat) (hn : 0 < n) (p : Int) (a : S) : ∀ j k, k < n → lapF n p j a k = a k
  | 0, _, _ => rfl
  | j + 1, k, hk => by
    have ih := lapF_at n hn p a j k hk
    unfold lapF
    split
    · have e : cv (U n) (cv (G n) (lapF n p j a)) k = lapF n p j a k := by rw [← cv_assoc, UG hn, one_cv]
      rw [cv_U hn] at e
      have e2 : cv (G n) (lapF n p j a) k - (if n ≤ k then cv (G n) (lapF n p j a) (k - n) else 0) = lapF n p j a k := e
      rw [if_neg (by omega)] at e2
      omega
    · rw [cv_U hn]
      show lapF n p j a k - (if n ≤ k then _ else 0) = _
      rw [if_neg (by omega)]
      omega
/-- the coefficient at n itself moves by the power -/
theorem lapF_self (n : Nat) (hn : 0 < n) (p : Int) (a : S) (h0 : a 0 = 1) : ∀ j, lapF n p j a n = a n + (if 0 < p then (j : Int) else -(j : Int))
  | 0 => by
    show a n = a n + _
    split <;> simp
  | j + 1 => by
    have ih := lapF_self n hn p a h0 j
    have z0 := lapF_at n hn p a j 0 hn
    have z1 := lapF_at n hn p a (j + 1) 0 hn
    have ec : ((j + 1 : Nat) : Int) = (j : Int) + 1 := by omega
    unfold lapF at z1 ⊢
    by_cases h : 0 < p
    · rw [if_pos h] at ih z1 ⊢
      rw [if_pos h]
      have e : cv (U n) (cv (G n) (lapF n p j a)) n = lapF n p j a n := by rw [← cv_assoc, UG hn, one_cv]
      rw [cv_U hn] at e
      have e2 : cv (G n) (lapF n p j a) n - (if n ≤ n then cv (G n) (lapF n p j a) (n - n) else 0) = lapF n p j a n := e
      rw [if_pos (Nat.le_refl _), Nat.sub_self, z1, h0] at e2
      omega
    · rw [if_neg h] at ih z1 ⊢
      rw [if_neg h, cv_U hn]
      show lapF n p j a n - (if n ≤ n then lapF n p j a (n - n) else 0) = _
      rw [if_pos (Nat.le_refl _), Nat.sub_self, z0, h0, ih]
      omega
theorem prA_zero (p : S) : ∀ j, prA p j 0 = 1
  | 0 => rfl
  | j + 1 => by
    show lapF (j + 1) (p j) (p j).natAbs (prA p j) 0 = 1
    rw [lapF_at (j + 1) (by omega) _ _ _ 0 (by omega), prA_zero p j]
/-- behind the first k factors nothing changes up to k -/
theorem prA_far (p : S) : ∀ j k, k ≤ j → prA p j k = prA p k k
  | 0, k, h => by
    have : k = 0 := by omega
    subst this
    rfl
  | j + 1, k, h => by
    by_cases e : k = j + 1
    · rw [e]
    · show lapF (j + 1) (p j) (p j).natAbs (prA p j) k = _
      rw [lapF_at (j + 1) (by omega) _ _ _ k (by omega), prA_far p j k (by omega)]
theorem prA_congr {p q : S} : ∀ j, (∀ i, i < j → p i = q i) → prA p j = prA q j
  | 0, _ => rfl
  | j + 1, h => by
    show lapF (j + 1) (p j) (p j).natAbs (prA p j) = lapF (j + 1) (q j) (q j).natAbs (prA q j)
    rw [h j (by omega), prA_congr j fun i hi => h i (by omega)]
theorem sS_congr {p q : S} : ∀ j, (∀ i, i < j → p i = q i) → sS p j = sS q j
  | 0, _ => rfl
  | j + 1, h => by
    show ad (sS p j) _ = ad (sS q j) _
    rw [h j (by omega), sS_congr j fun i hi => h i (by omega)]
theorem prA_tail {p : S} {m : Nat} (h : ∀ i, m ≤ i → p i = 0) : ∀ k, prA p (m + k) = prA p m
  | 0 => rfl
  | k + 1 => by
    show lapF (m + k + 1) (p (m + k)) (p (m + k)).natAbs (prA p (m + k)) = _
    rw [h (m + k) (by omega)]
    exact prA_tail h k
theorem sS_tail {p : S} {m : Nat} (h : ∀ i, m ≤ i → p i = 0) : ∀ k, sS p (m + k) = sS p m
  | 0 => rfl
  | k + 1 => by
    show ad (sS p (m + k)) (sc (((m + k + 1 : Nat) : Int) * p (m + k)) (Ev (m + k + 1))) = _
    rw [h (m + k) (by omega), sS_tail h k]
    funext i
    show _ + (_ * 0) * _ = _
    rw [Int.mul_zero, Int.zero_mul, Int.add_zero]
/-- each series that begins with 1 is such a product -/
def exps (a : S) : Nat → S
  | 0 => fun _ => 0
  | j + 1 => fun i => if i = j then a (j + 1) - prA (exps a j) j (j + 1) else exps a j i
theorem exps_lt (a : S) : ∀ j k i, i < j → exps a (j + k) i = exps a j i
  | j, 0, i, _ => rfl
  | j, k + 1, i, h => by
    show (if i = j + k then _ else exps a (j + k) i) = _
    rw [if_neg (by omega), exps_lt a j k i h]
theorem exps_ok (a : S) (h0 : a 0 = 1) : ∀ j k, k ≤ j → prA (exps a j) j k = a k
  | 0, k, h => by
    have : k = 0 := by omega
    subst this
    exact h0.symm
  | j + 1, k, h => by
    have e : prA (exps a (j + 1)) j = prA (exps a j) j := prA_congr j fun i hi => exps_lt a j 1 i hi
    have ep : exps a (j + 1) j = a (j + 1) - prA (exps a j) j (j + 1) := by
      show (if j = j then _ else _) = _
      rw [if_pos rfl]
    show lapF (j + 1) (exps a (j + 1) j) (exps a (j + 1) j).natAbs (prA (exps a (j + 1)) j) k = a k
    rw [e]
    by_cases hk : k = j + 1
    · subst hk
      rw [lapF_self (j + 1) (by omega) _ _ (prA_zero _ _), ep]
      split <;> omega
    · rw [lapF_at (j + 1) (by omega) _ _ _ k (by omega)]
      exact exps_ok a h0 j k (by omega)
/-- n a(n) is the sum of s(k) a(n - k) -/
theorem Lg.at_ {s a : S} (L : Lg s a) (n : Nat) : (n : Int) * a n = sm (fun i => s (i + 1) * a (n - (i + 1))) n := by
  have h := congrFun L.d n
  have h2 : (n : Int) * a n = sm (fun i => s i * a (n - i)) (n + 1) := h
  rw [sm_first, L.z, Int.zero_mul, Int.zero_add] at h2
  exact h2
end Ps

set_option Elab.async false
set_option linter.all false
set_option maxRecDepth 100000
set_option maxHeartbeats 4000000
set_option pp.maxSteps 3000
set_option exponentiation.threshold 500000
/-! ranges by a step, lists as rows -/
namespace Gn
open PySem PySem.Spec PyProof.Rows L2 Dr Xv LamX Ps
def upN (a b d : Nat) : Nat := if a < b then (b - a - 1) / d + 1 else 0
theorem lt_upN {a b d t : Nat} (hd : 0 < d) : t < upN a b d ↔ a + t * d < b := by
  unfold upN
  by_cases h : a < b
  · rw [if_pos h, Nat.lt_succ_iff, Nat.le_div_iff_mul_le hd]
    omega
  · rw [if_neg h]
    constructor
    · intro z; omega
    · intro z; omega
theorem upN_le {a b d : Nat} (hd : 0 < d) : upN a b d ≤ b - a := by
  unfold upN
  split
  · have := Nat.div_le_self (b - a - 1) d
    omega
  · omega
theorem rg_up {a b d : Nat} (hd : 0 < d) (h1 : a < 2 ^ 29) (h2 : b < 2 ^ 29) (h3 : d < 2 ^ 29) : RgC (a : Int) (b : Int) (d : Int) (upN a b d) := by
  have e29 : (2 : Nat) ^ 29 = 536870912 := by decide
  have hn : Builtin.Range.rangeSize (a : Int) (b : Int) (d : Int) = (upN a b d : Nat) := by
    unfold Builtin.Range.rangeSize upN
    rw [if_pos (by omega : (d : Int) > 0)]
    by_cases h : a < b
    · rw [if_pos h, if_pos (by omega : (a : Int) < (b : Int))]
      have e : (b : Int) - (a : Int) - 1 = ((b - a - 1 : Nat) : Int) := by omega
      rw [e]
      simp
    · rw [if_neg h, if_neg (by omega)]
      rfl
  refine ⟨by omega, by omega, ?_, hn⟩
  unfold Builtin.Range.small
  have hu : upN a b d ≤ b - a := upN_le hd
  have hle : a + upN a b d * d < b + d + 1 ∨ upN a b d = 0 := by
    cases hz : upN a b d with
    | zero => exact .inr rfl
    | succ t =>
      have z := (lt_upN hd).mp (by omega : t < upN a b d)
      rw [Nat.add_mul, Nat.one_mul]
      exact .inl (by omega)
  rw [hn]
  simp only [Builtin.Range.rangeFitsLong, Bool.and_eq_true, Bool.or_eq_true, decide_eq_true_eq, beq_iff_eq, show ((d : Int) > 0) by omega, if_true]
  refine ⟨⟨⟨⟨?_, ?_⟩, ?_⟩, ?_⟩, ?_⟩ <;> try omega
theorem log_small2 {n : Nat} (h : n ≤ 4000) : ((n : Int)).natAbs.log2 < 9000 := by
  have e : ((n : Int)).natAbs = n := by omega
  rw [e]
  by_cases z : n = 0
  · rw [z]
    decide
  · have k : n.log2 < 12 := (Nat.log2_lt z).mpr (by omega)
    omega
/-- all but p stays -/
def SameO (p : Addr) (H H' : Hp) : Prop := ∀ b o, H b = some o → b ≠ p → H' b = some o
section
variable {p q : Addr} {H H0 H1 H' : Hp} {o : HO}
theorem SameO.refl : SameO p H H := fun _ _ e _ => e
theorem SameO.trans (a : SameO p H H1) (b : SameO p H1 H') : SameO p H H' := fun c o e n => b c o (a c o e n) n
theorem SameO.of (a : Same H H') : SameO p H H' := fun c o e _ => a c o e
theorem SameO.put : SameO p H (upd H p o) := fun c o e n => by rw [upd_ne n]; exact e
theorem SameO.new (h : H q = none) : SameO p H (upd H q o) := .of (same_new h)
theorem SameO.back (a : SameO p H H') (s : Same H0 H) (h : H0 p = none) : Same H0 H' := fun c o e => a c o (s c o e) (ne_of_none e h)
theorem SameO.row {K : PySem.W.Frag} {a : Addr} {xs : List V} (s : SameO p H H') (h : H a = some (.lst xs)) (n : a ≠ p) : SqL K H' a xs := SqL.of (s _ _ h n)
end
theorem sqx {K : PySem.W.Frag} {H : Hp} {b : Addr} {xs : List V} {tup : Bool} (h : H b = some (if tup then .tup xs else .lst xs)) : if tup then SqT K H b xs else SqL K H b xs := by
  cases tup with
  | true => exact SqT.of h
  | false => exact SqL.of h
theorem row_val {N i : Nat} {b : S} (h : i < N) : atI (rowOf N b) (i : Int) = some (.int (b i)) := atI_nat (row_get h)
theorem row_at {N i : Nat} {b : S} (h : i < N) : ixN (rowOf N b).length (i : Int) = some i := by
  unfold ixN
  rw [if_pos (by omega), row_len, if_pos (by omega)]
  simp
theorem take_at {ns : List Int} {m i : Nat} (hi : i < (ns.take m).length) : ((ns.take m).map V.int)[i]? = some (.int (fnL ns i)) := by
  rw [List.length_take] at hi
  rw [List.getElem?_map, List.getElem?_take, if_pos (by omega)]
  unfold fnL
  rw [List.getD_eq_getElem?_getD]
  have h2 : i < ns.length := by omega
  simp [h2]
/-- a list or a tuple of these numbers -/
def SeqI (H : Hp) (a : Addr) (ns : List Int) : Prop := H a = some (.lst (ns.map V.int)) ∨ H a = some (.tup (ns.map V.int))
theorem SeqI.same {H H' : Hp} {a : Addr} {ns : List Int} (h : SeqI H a ns) (s : Same H H') : SeqI H' a ns := h.imp (s _ _) (s _ _)
theorem SeqI.ne {H : Hp} {a p : Addr} {ns : List Int} (h : SeqI H a ns) (n : H p = none) : a ≠ p := by
  rcases h with e | e
  · exact ne_of_none e n
  · exact ne_of_none e n
theorem SeqI.len {K : PySem.W.Frag} {H : Hp} {a : Addr} {ns : List Int} (h : SeqI H a ns) : LenV K (.ref a) H (ns.map V.int).length := by
  rcases h with e | e
  · exact .inl ⟨_, SqL.of e, rfl⟩
  · exact .inr ⟨_, SqT.of e, rfl⟩
/-- xs[:n] of a list or a tuple -/
def rHead : V → Option Int → Option Int → Hp → VK → Prop := fun x l u H Q => ∃ (a : Addr) (ns : List Int) (n : Nat), x = .ref a ∧ l = none ∧ u = some (n : Int) ∧ SeqI H a ns ∧
  ∀ (tup : Bool) (b : Addr) (H2 : Hp), (b = a ∨ H b = none) → Same H H2 → H2 b = some (if tup then .tup ((ns.take n).map V.int) else .lst ((ns.take n).map V.int)) → Q (.ref b) H2
theorem sl_head {X : Cx} : SlR X rHead := by
  have main : ∀ {x : V} {lo hi : Option Int} {H : Hp} {Q : VK}, rHead x lo hi H Q → rSlL X.K x lo hi H Q ∨ rSlA X.K x lo hi H Q := by
    rintro x lo hi H Q ⟨a, ns, n, rfl, rfl, rfl, ha, k⟩
    have ecut : cutV (ns.map V.int) none (some (n : Int)) = (ns.take n).map V.int := by
      unfold cutV
      rw [HT.sIx_none, HT.sIx_nat, List.length_map, Nat.sub_zero, List.drop_zero, ← List.map_take]
      congr 1
      by_cases h : n ≤ ns.length
      · rw [Nat.min_eq_left h]
      · rw [Nat.min_eq_right (by omega), List.take_of_length_le (Nat.le_refl _), List.take_of_length_le (by omega)]
    rcases ha with e | e
    · refine .inl ⟨a, _, rfl, SqL.of e, fun p hp => ?_⟩
      rw [ecut]
      exact k false p _ (.inr hp) (same_new hp) upd_same
    · refine .inr ⟨a, _, rfl, SqT.of e, fun hw => ?_, fun _ p hp => ?_⟩
      · have e2 : (ns.take n).map V.int = ns.map V.int := by
          have z := hw.2
          rw [HT.sIx_nat, List.length_map] at z
          rw [List.take_of_length_le (by omega)]
        exact k true a H (.inl rfl) (fun _ _ q => q) (by rw [e2]; exact e)
      · rw [ecut]
        exact k true p _ (.inr hp) (same_new hp) upd_same
  intro pins s σ H x v vl vu lo hi sl Q I rx hs pl pu q
  exact SlR.or (X := X) sl_list sl_tupA pins s σ H x v vl vu lo hi sl Q I rx hs pl pu (main q)
end Gn

set_option Elab.async false
set_option linter.all false
set_option maxRecDepth 100000
set_option maxHeartbeats 4000000
/-! bounds of products and of their sums -/
namespace Ps
theorem sS_bound {p : S} {c : Nat} (hp : ∀ i, (p i).natAbs ≤ c) : ∀ j k, (sS p j k).natAbs ≤ c * (j * (j + 1))
  | 0, k => by
    show (0 : Int).natAbs ≤ _
    exact Nat.zero_le _
  | j + 1, k => by
    have ih := sS_bound hp j k
    show (sS p j k + ((j + 1 : Nat) : Int) * p j * Ev (j + 1) k).natAbs ≤ _
    have h1 : (((j + 1 : Nat) : Int) * p j * Ev (j + 1) k).natAbs ≤ c * (j + 1) := by
      rw [Int.natAbs_mul, Int.natAbs_mul, Int.natAbs_natCast]
      have h2 : (Ev (j + 1) k).natAbs ≤ 1 := by
        unfold Ev
        split <;> decide
      have h3 := hp j
      have h4 : (j + 1) * (p j).natAbs ≤ (j + 1) * c := Nat.mul_le_mul (Nat.le_refl _) h3
      have h5 := Nat.mul_le_mul h4 h2
      rw [Nat.mul_one, Nat.mul_comm (j + 1) c] at h5
      exact h5
    have h6 := Int.natAbs_add_le (sS p j k) (((j + 1 : Nat) : Int) * p j * Ev (j + 1) k)
    have h7 : c * ((j + 1) * (j + 1 + 1)) = c * (j * (j + 1)) + c * (j + 1) + c * (j + 1) := by
      rw [← Nat.mul_add, ← Nat.mul_add]
      congr 1
      rw [Nat.mul_add (j + 1) (j + 1) 1, Nat.add_mul j 1 (j + 1)]
      omega
    omega
theorem lg_bound {s a : S} (L : Lg s a) (a0 : a 0 = 1) {B N : Nat} (hB : 1 ≤ B) (hs : ∀ k, k ≤ N → (s k).natAbs ≤ B) : ∀ n, n ≤ N → (a n).natAbs ≤ B ^ n := by
  intro n
  induction n using Nat.strongRecOn with
  | _ n ih =>
    intro hn
    cases n with
    | zero =>
      rw [a0]
      exact Nat.le_refl _
    | succ n =>
      have h := L.at_ (n + 1)
      have hb : (sm (fun i => s (i + 1) * a (n + 1 - (i + 1))) (n + 1)).natAbs ≤ (n + 1) * B ^ (n + 1) := sm_bound _ fun i hi => by
        rw [Int.natAbs_mul]
        have h1 := hs (i + 1) (by omega)
        have h2 := ih (n + 1 - (i + 1)) (by omega) (by omega)
        have h3 : B ^ (n + 1 - (i + 1)) ≤ B ^ n := Nat.pow_le_pow_right hB (by omega)
        have h4 := Nat.mul_le_mul h1 (Nat.le_trans h2 h3)
        rw [Nat.pow_succ, Nat.mul_comm (B ^ n) B]
        exact h4
      rw [← h, Int.natAbs_mul, Int.natAbs_natCast] at hb
      exact Nat.le_of_mul_le_mul_left hb (by omega)
theorem sums_bound {s a : S} (L : Lg s a) (a0 : a 0 = 1) {M N : Nat} (hM : 1 ≤ M) (hN : N ≤ 12) (ha : ∀ k, k ≤ N → (a k).natAbs ≤ M) : ∀ n, n ≤ N → (s n).natAbs ≤ (32 * M) ^ n := by
  intro n
  induction n using Nat.strongRecOn with
  | _ n ih =>
    intro hn
    cases n with
    | zero =>
      rw [L.z]
      exact Nat.zero_le _
    | succ n =>
      have h := L.at_ (n + 1)
      have h0 : sm (fun i => s (i + 1) * a (n + 1 - (i + 1))) (n + 1) = sm (fun i => s (i + 1) * a (n + 1 - (i + 1))) n + s (n + 1) * a (n + 1 - (n + 1)) := rfl
      rw [h0, Nat.sub_self, a0, Int.mul_one] at h
      have hb : (sm (fun i => s (i + 1) * a (n + 1 - (i + 1))) n).natAbs ≤ n * ((32 * M) ^ n * M) := sm_bound _ fun i hi => by
        rw [Int.natAbs_mul]
        have h1 := ih (i + 1) (by omega) (by omega)
        have h2 := ha (n + 1 - (i + 1)) (by omega)
        have h3 : (32 * M) ^ (i + 1) ≤ (32 * M) ^ n := Nat.pow_le_pow_right (by omega) (by omega)
        exact Nat.mul_le_mul (Nat.le_trans h1 h3) h2
      have hc : (((n + 1 : Nat) : Int) * a (n + 1)).natAbs ≤ 12 * M := by
        rw [Int.natAbs_mul, Int.natAbs_natCast]
        exact Nat.mul_le_mul (by omega) (ha _ hn)
      have h1 : 1 ≤ (32 * M) ^ n := Nat.pow_pos (by omega)
      have h2 : n * ((32 * M) ^ n * M) ≤ 12 * ((32 * M) ^ n * M) := Nat.mul_le_mul (by omega) (Nat.le_refl _)
      have h3 : 12 * M ≤ 12 * ((32 * M) ^ n * M) := by
        have := Nat.mul_le_mul h1 (Nat.le_refl M)
        omega
      have h4 : (32 * M) ^ (n + 1) = 32 * ((32 * M) ^ n * M) := by
        rw [Nat.pow_succ, Nat.mul_comm 32 M, ← Nat.mul_assoc, Nat.mul_comm]
      have h5 : s (n + 1) = ((n + 1 : Nat) : Int) * a (n + 1) - sm (fun i => s (i + 1) * a (n + 1 - (i + 1))) n := by omega
      have h6 := Int.natAbs_sub_le (((n + 1 : Nat) : Int) * a (n + 1)) (sm (fun i => s (i + 1) * a (n + 1 - (i + 1))) n)
      rw [← h5] at h6
      omega
/-- a and b with the same sums are the same -/
theorem lg_uniq {s a : S} (L : Lg s a) {b : S} {N : Nat} (h0 : a 0 = b 0) (hb : ∀ n, n < N → ((n + 1 : Nat) : Int) * b (n + 1) = sm (fun i => s (i + 1) * b (n + 1 - (i + 1))) (n + 1)) : ∀ n, n ≤ N → a n = b n := by
  intro n
  induction n using Nat.strongRecOn with
  | _ n ih =>
    intro hn
    cases n with
    | zero => exact h0
    | succ n =>
      have h := L.at_ (n + 1)
      have h2 := hb n (by omega)
      have e : sm (fun i => s (i + 1) * a (n + 1 - (i + 1))) (n + 1) = sm (fun i => s (i + 1) * b (n + 1 - (i + 1))) (n + 1) := sm_congr _ fun i hi => by
        rw [ih (n + 1 - (i + 1)) (by omega) (by omega)]
      rw [e, ← h2] at h
      exact Int.eq_of_mul_eq_mul_left (by omega) h
end Ps

set_option Elab.async false
set_option linter.all false
set_option maxRecDepth 100000
set_option maxHeartbeats 0
namespace Xv
open PySem PySem.Spec PyProof.Rows L2
/-! the classes' facts, asked of the written part -/
def veT : List Value := [.type "ValueError", .type "Exception", .type "BaseException", .type "object"]
def oexB (K : PySem.W.Frag) (C : Addr) : Bool := match K.lookup C with
  | some ⟨.type "type", _, .cls cd, sl⟩ => (match cd.mro, sl.toList with
    | .ref C' :: bm, [_, _, _, _, some (.builtin n), _] => decide (C' = C) && (decide (n = "ValueError.__new__") && (!cd.hasDel && (PySem.HandSPX.refsVE bm && cd.hasDict)))
    | _, _ => false)
  | _ => false
theorem oexB_ok {K : PySem.W.Frag} {C : Addr} (h : oexB K C = true) : ∃ nm q N bs bm sn sub ab col dd k0 k1 k2 k3 k5, K.lookup C = some (excClassObj nm q C N bs bm true sn sub ab col dd k0 k1 k2 k3 k5 "ValueError.__new__") ∧ PySem.HandSPX.refsVE bm = true := by
  unfold oexB at h
  split at h
  · rename_i dx cd sl ho
    split at h
    · rename_i C' bm k0 k1 k2 k3 n k5 hm hs
      simp only [Bool.and_eq_true, decide_eq_true_eq, Bool.not_eq_true'] at h
      obtain ⟨rfl, rfl, hd, hr, hh⟩ := h
      obtain ⟨nm, bs, mro, ns, qn, hdc, sn, sub, ab, col, del⟩ := cd
      dsimp only at hm hd hh
      subst hm hd hh
      obtain ⟨l⟩ := sl
      have hs' : l = [k0, k1, k2, k3, some (.builtin "ValueError.__new__"), k5] := hs
      subst hs'
      exact ⟨nm, qn, ns, bs, bm, sn, sub, ab, col, dx, k0, k1, k2, k3, k5, ho, hr⟩
    · cases h
  · cases h
def eqV2 (a b : Option Value) : Bool := decide (a = b)
/-- a class of errors whose way up is l -/
def clsB (K : PySem.W.Frag) (C : Addr) (l : List Value) : Bool := (match PySem.W.clsIn K C with
  | some cd => decide (cd.mro = l) && cd.hasDict
  | none => false) && (eqV2 (PySem.W.typeIn K (.ref C)) (some (.type "type")) && (He.eqO (PySem.W.findIn K (.ref C) "__getattribute__") (some (some (.builtin "BaseException.__getattribute__"))) && (He.eqO (PySem.W.findIn K (.ref C) "__getattr__") (some none) &&
    (He.eqO (PySem.W.findIn K (.ref C) "__class__") (some (some (.builtin "object.__class__"))) && PySem.W.keepIn K (.ref C)))))
structure ClsOk (K : PySem.W.Frag) (C : Addr) (l : List Value) : Prop where
  cl : ∃ cd, PySem.W.clsIn K C = some cd ∧ cd.mro = l ∧ cd.hasDict = true
  ty : PySem.W.typeIn K (.ref C) = some (.type "type")
  ga : PySem.W.findIn K (.ref C) "__getattribute__" = some (some (.builtin "BaseException.__getattribute__"))
  gg : PySem.W.findIn K (.ref C) "__getattr__" = some none
  gc : PySem.W.findIn K (.ref C) "__class__" = some (some (.builtin "object.__class__"))
  kp : PySem.W.keepIn K (.ref C) = true
theorem clsB_ok {K : PySem.W.Frag} {C : Addr} {l : List Value} (h : clsB K C l = true) : ClsOk K C l := by
  unfold clsB at h
  simp only [Bool.and_eq_true] at h
  obtain ⟨h1, h2, h3, h4, h5, h6⟩ := h
  refine ⟨?_, of_decide_eq_true h2, He.eqO_ok h3, He.eqO_ok h4, He.eqO_ok h5, h6⟩
  cases e : PySem.W.clsIn K C with
  | none =>
    rw [e] at h1
    cases h1
  | some cd =>
    rw [e] at h1
    have h1' : (decide (cd.mro = l) && cd.hasDict) = true := h1
    rw [Bool.and_eq_true] at h1'
    exact ⟨cd, rfl, of_decide_eq_true h1'.1, h1'.2⟩
theorem ClsOk.sub {K : PySem.W.Frag} {C : Addr} {l : List Value} (h : ClsOk K C l) (hl : l ≠ []) (b : Value) : PySem.W.subIn K (.ref C) b = some (l.contains b) := by
  obtain ⟨cd, e, rfl, _⟩ := h.cl
  show (PySem.W.clsIn K C).bind (fun cd => if cd.mro.isEmpty then none else some (cd.mro.contains b)) = _
  rw [e]
  show (if cd.mro.isEmpty = true then none else some (cd.mro.contains b)) = _
  rw [if_neg (by cases q : cd.mro with
    | nil => exact absurd q hl
    | cons _ _ => exact Bool.false_ne_true)]
theorem ClsOk.excC {K : PySem.W.Frag} {C : Addr} {l : List Value} (h : ClsOk K C l) (hl : l ≠ []) (h1 : l.contains (.type "BaseException") = true) (h2 : l.contains (.type "object") = true) (hn : PySem.W.specialIn K (.builtin "object.__class__") "__get__" = some (some (.builtin "getset_descriptor.__get__")))
    (ht : PySem.W.takesIn K (.builtin "object.__class__") = some true) : ExcC K C where
  hg := h.ga
  hk := h.gg
  hs := by rw [h.sub hl, h1]
  hd := by
    obtain ⟨cd, e, _, hd⟩ := h.cl
    show (PySem.W.clsIn K C).any (·.hasDict) = true
    rw [e]
    exact hd
  ha := h.gc
  hn := hn
  ht := ht
  hm := by
    have z := h.sub hl (.type "object")
    rw [h2] at z
    exact z
theorem ClsOk.kit {K : PySem.W.Frag} {C D : Addr} {l m : List Value} (h : ClsOk K C l) (hl : l ≠ []) (hD : ClsOk K D m) {b : Bool} (e : (decide (C = D) || l.contains (.ref D)) = b) : PySem.W.kitOne K (.ref C) (.ref D) = some b := by
  unfold PySem.W.kitOne
  by_cases q : C = D
  · subst q
    rw [if_pos (by simp)]
    rw [decide_eq_true rfl] at e
    exact congrArg some e
  · rw [if_neg (by simpa using q)]
    show (if ((PySem.W.clsIn K D).isSome && PySem.W.typeIn K (.ref D) == some (.type "type")) = true then PySem.W.subIn K (.ref C) (.ref D) else none) = some b
    obtain ⟨cd, ed, _⟩ := hD.cl
    rw [ed, hD.ty, if_pos (by rfl), h.sub hl]
    rw [decide_eq_false q, Bool.false_or] at e
    exact congrArg some e
theorem ClsOk.kitT {K : PySem.W.Frag} {C : Addr} {l : List Value} (h : ClsOk K C l) (hl : l ≠ []) {T : String} (hT : PySem.W.kitMeta T = true) (e : l.contains (.type T) = true) : PySem.W.kitOne K (.ref C) (.type T) = some true := by
  unfold PySem.W.kitOne
  rw [if_neg (by simp)]
  show (if PySem.W.kitMeta T = true then PySem.W.subIn K (.ref C) (.type T) else none) = some true
  rw [if_pos hT, h.sub hl, e]
def eqB (a b : Option Bool) : Bool := decide (a = b)
def cfB (r : Option PySem.W.CFound) : Bool := match r with
  | some (.val v) => decide (v = .builtin "ValueError.__init__")
  | _ => false
theorem cfB_ok {r : Option PySem.W.CFound} (h : cfB r = true) : r = some (.val (.builtin "ValueError.__init__")) := by
  unfold cfB at h
  split at h
  · rw [of_decide_eq_true h]
  · cases h
/-! a hook: the facts by names, more of them by a Bool, the law's own table of code objects -/
abbrev AlE : Type := He.AlD × Bool
def asE (g : Addr → Option Obj) (n : Nat) : List Addr := cStatics :: He.asD g n
def lawD : He.Defn := ("law", none)
def obsE (fa : List He.Fa) (fn : List He.DefD) (ext : PySem.W.Frag → Bool) (n : Nat) (g : Addr → Option Obj) : AlE := (He.obsD fa fn (He.frT g (asE g n)), ext (He.frT g (asE g n)) && He.tabsB g [lawD] (He.frT g (asE g n)))
structure SaysE (fa : List He.Fa) (fn : List He.DefD) (ext : PySem.W.Frag → Bool) (h : Heap) (K : PySem.W.Frag) : Prop where
  d : He.SaysD fa fn K
  more : ext K = true
  hd : PySem.W.codeHdIn K (He.cT K lawD).1 (He.cT K lawD).2 = true
  out : K.lookup (He.cT K lawD).2 = none
  empty : h.get? (He.cT K lawD).2 = some { cls := .none, data := .fields #[] }
theorem saysE_of {fa : List He.Fa} {fn : List He.DefD} {ext : PySem.W.Frag → Bool} {n : Nat} {h : Heap} (e : obsE fa fn ext n h.get? = (He.valD fn, true)) : SaysE fa fn ext h (He.frT h.get? (asE h.get? n)) := by
  have e1 : He.obsD fa fn (He.frT h.get? (asE h.get? n)) = He.valD fn := congrArg (fun z : AlE => z.1) e
  have e2 : (ext (He.frT h.get? (asE h.get? n)) && He.tabsB h.get? [lawD] (He.frT h.get? (asE h.get? n))) = true := congrArg (fun z : AlE => z.2) e
  obtain ⟨h1, h2⟩ := Bool.and_eq_true_iff.mp e2
  obtain ⟨h3, h4⟩ := Bool.and_eq_true_iff.mp (List.all_eq_true.mp h2 lawD (List.mem_singleton.mpr rfl))
  cases q : h.get? (He.cT (He.frT h.get? (asE h.get? n)) lawD).2 with
  | none =>
    rw [q] at h4
    cases h4
  | some o =>
    rw [q] at h4
    exact ⟨e1, h1, h3, He.frT_none q h4, by rw [q, He.emptyTab_eq h4]⟩
def hookE (fa : List He.Fa) (fn : List He.DefD) (ext : PySem.W.Frag → Bool) (n : Nat) : PySem.W.Hook where
  α := AlE
  obs := fun s => obsE fa fn ext n s.heap.get?
  val := fun _ => (He.valD fn, true)
  says := fun _ h => ∃ K : PySem.W.Frag, K.In h ∧ SaysE fa fn ext h K
  of := fun _ _ e => ⟨_, He.frT_in, saysE_of e⟩
  keeps := fun _ _ _ ⟨K, hK, c⟩ k => ⟨K, PySem.W.Frag.In.keeps hK k, ⟨c.d, c.more, c.hd, c.out, k _ _ c.empty⟩⟩
end Xv

set_option Elab.async false
set_option linter.all false
set_option maxRecDepth 100000
set_option maxHeartbeats 4000000
set_option pp.maxSteps 3000
set_option exponentiation.threshold 500000
/-! what a law holds: the draw, the tables, its objects -/
namespace Gn
open PySem PySem.Spec PyProof.Rows L2 Dr Xv LamX Ps
structure Sta (Pt : Addr) (H : Hp) (d l c : Addr) (os : List (Addr × HO)) : Prop where
  W : Wd Pt H d l c
  O : ∀ x ∈ os, H x.1 = some x.2 ∧ x.1 ≠ d ∧ x.1 ≠ l ∧ x.1 ≠ c ∧ ∀ ps, x.2 ≠ .tbl ps
  P : os.Pairwise fun x y => x.1 ≠ y.1
namespace Sta
section
variable {Pt d l c p : Addr} {H H' : Hp} {o : HO} {os os' : List (Addr × HO)}
theorem same (S : Sta Pt H d l c os) (s : Same H H') : Sta Pt H' d l c os := ⟨S.W.same s, fun x hx => ⟨s _ _ (S.O x hx).1, (S.O x hx).2⟩, S.P⟩
theorem sx (S : Sta Pt H d l c os) (s : SameX d l H H') (D : Draw H' d l c) : Sta Pt H' d l c os := ⟨S.W.sx s D, fun x hx => ⟨s _ _ (S.O x hx).1 (S.O x hx).2.1 (S.O x hx).2.2.1, (S.O x hx).2⟩, S.P⟩
theorem ext (S : Sta Pt H d l c os) (s : ExtN H H') (T : Tabs [(Pt, qL)] H') : Sta Pt H' d l c os := ⟨⟨Draw.ext S.W.dr s, T⟩, fun x hx => ⟨s _ _ (S.O x hx).1 (S.O x hx).2.2.2.2, (S.O x hx).2⟩, S.P⟩
theorem res (S : Sta Pt H d l c os) (hp : H p = none) (s : Same H H') (e : H' p = some o) (nt : ∀ ps, o ≠ .tbl ps) : Sta Pt H' d l c ((p, o) :: os) := by
  have S' := S.same s
  have n := S.W.dr.ne hp
  refine ⟨S'.W, fun x hx => ?_, List.pairwise_cons.mpr ⟨fun x hx => (ne_of_none (S.O x hx).1 hp).symm, S.P⟩⟩
  rcases List.mem_cons.mp hx with rfl | hx
  · exact ⟨e, n.1, n.2.1, n.2.2, nt⟩
  · exact S'.O x hx
theorem new (S : Sta Pt H d l c os) (hp : H p = none) (nt : ∀ ps, o ≠ .tbl ps) : Sta Pt (upd H p o) d l c ((p, o) :: os) := S.res hp (same_new hp) upd_same nt
theorem newL {xs : List V} (S : Sta Pt H d l c os) (hp : H p = none) : Sta Pt (upd H p (.lst xs)) d l c ((p, .lst xs) :: os) := S.new hp (fun _ e => nomatch e)
theorem newT {xs : List V} (S : Sta Pt H d l c os) (hp : H p = none) : Sta Pt (upd H p (.tup xs)) d l c ((p, .tup xs) :: os) := S.new hp (fun _ e => nomatch e)
theorem resL {xs : List V} (S : Sta Pt H d l c os) (hp : H p = none) (s : Same H H') (e : H' p = some (.lst xs)) : Sta Pt H' d l c ((p, .lst xs) :: os) := S.res hp s e (fun _ e => nomatch e)
/-- a result of a drawing call -/
theorem resX {xs : List V} (S : Sta Pt H d l c os) (hp : H p = none) (s : SameX d l H H') (D : Draw H' d l c) (e : H' p = some (.lst xs)) : Sta Pt H' d l c ((p, .lst xs) :: os) := by
  have S' := S.sx s D
  have n := S.W.dr.ne hp
  refine ⟨S'.W, fun x hx => ?_, List.pairwise_cons.mpr ⟨fun x hx => (ne_of_none (S.O x hx).1 hp).symm, S.P⟩⟩
  rcases List.mem_cons.mp hx with rfl | hx
  · exact ⟨e, n.1, n.2.1, n.2.2, fun _ e => nomatch e⟩
  · exact S'.O x hx
theorem g (S : Sta Pt H d l c os) (i : Nat) {x : Addr × HO} (h : os[i]? = some x) : H x.1 = some x.2 := (S.O x (List.mem_of_getElem? h)).1
theorem gx (S : Sta Pt H d l c os) (i : Nat) {x : Addr × HO} (h : os[i]? = some x) (s : SameX d l H H') : H' x.1 = some x.2 := s _ _ (S.O x (List.mem_of_getElem? h)).1 (S.O x (List.mem_of_getElem? h)).2.1 (S.O x (List.mem_of_getElem? h)).2.2.1
theorem sub (S : Sta Pt H d l c os) (h : os'.Sublist os) : Sta Pt H d l c os' := ⟨S.W, fun x hx => S.O x (h.subset hx), S.P.sublist h⟩
theorem dr (S : Sta Pt H d l c os) : Draw H d l c := S.W.dr
theorem tb (S : Sta Pt H d l c os) : Tabs [(Pt, qL)] H := S.W.tb
/-- the list ahead is written -/
theorem put {xs ys : List V} (S : Sta Pt H d l c ((p, .lst xs) :: os)) : Sta Pt (upd H p (.lst ys)) d l c ((p, .lst ys) :: os) := by
  obtain ⟨h1, h2, h3, h4, h5⟩ := S.O _ (List.mem_cons_self ..)
  obtain ⟨q1, q2⟩ := List.pairwise_cons.mp S.P
  refine ⟨S.W.upd h1 h2 h3 h4, fun x hx => ?_, List.pairwise_cons.mpr ⟨q1, q2⟩⟩
  rcases List.mem_cons.mp hx with rfl | hx
  · exact ⟨upd_same, h2, h3, h4, fun _ e => nomatch e⟩
  · have z := S.O x (List.mem_cons_of_mem _ hx)
    exact ⟨by rw [upd_ne (q1 x hx).symm]; exact z.1, z.2⟩
theorem tl {x : Addr × HO} (S : Sta Pt H d l c (x :: os)) : Sta Pt H d l c os := S.sub (List.sublist_cons_self ..)
end
end Sta
/-- data of ints, equal -/
theorem eq_ints {a b : List Int} (h : a = b) : (!PyData.eqv (.list (intsD a)) (.list (intsD b))) = false := by
  subst h
  exact eq_no a
def intsOf (n : Nat) (b : S) : List Int := (List.range n).map b
theorem row_ofI {n : Nat} {b : S} : rowOf n b = (intsOf n b).map V.int := rfl
theorem fnL_ints {n : Nat} {b : S} {i : Nat} (h : i < n) : fnL (intsOf n b) i = b i := by
  unfold intsOf
  rw [fnL_row, if_pos h]
theorem len_ints {n : Nat} {b : S} : (intsOf n b).length = n := by
  unfold intsOf
  rw [List.length_map, List.length_range]
theorem fnL_snoc_le {ns : List Int} {z : Int} {c : Nat} (h : ∀ i, (fnL ns i).natAbs ≤ c) (hz : z.natAbs ≤ c) (i : Nat) : (fnL (ns ++ [z]) i).natAbs ≤ c := by
  have hi := h i
  unfold fnL at hi ⊢
  rw [List.getD_eq_getElem?_getD] at hi ⊢
  by_cases h1 : i < ns.length
  · rw [List.getElem?_append_left h1]
    exact hi
  · rw [List.getElem?_append_right (by omega)]
    by_cases h2 : i - ns.length = 0
    · rw [h2]
      exact hz
    · rw [List.getElem?_eq_none (by simp; omega)]
      exact Nat.zero_le _
theorem cut_full (ns : List Int) (m : Nat) : cutV (ns.map V.int ++ zer m) none (some (m : Int)) = rowOf m (fnL ns) := by
  have e : cutV (ns.map V.int ++ zer m) none (some (m : Int)) = (ns.map V.int ++ zer m).take m := by
    unfold cutV
    rw [HT.sIx_none, HT.sIx_nat, Nat.sub_zero, List.drop_zero, Nat.min_eq_left (by
      rw [List.length_append]
      unfold zer
      rw [List.length_replicate]
      omega)]
  rw [e]
  refine List.ext_getElem? fun i => ?_
  rw [List.getElem?_take]
  by_cases h : i < m
  · rw [if_pos h, row_get h]
    by_cases h2 : i < ns.length
    · rw [List.getElem?_append_left (by rw [List.length_map]; exact h2), List.getElem?_map]
      unfold fnL
      rw [List.getD_eq_getElem?_getD]
      simp [h2]
    · rw [List.getElem?_append_right (by rw [List.length_map]; omega), fnL_out (by omega), List.length_map]
      unfold zer
      rw [List.getElem?_replicate, if_pos (by omega)]
  · rw [if_neg h, List.getElem?_eq_none (by rw [row_len]; omega)]
end Gn

set_option Elab.async false
set_option linter.all false
set_option maxRecDepth 100000
set_option maxHeartbeats 4000000
set_option pp.maxSteps 3000
/-! errors of classes with an __init__ of their own -/
namespace Gn
open PySem PySem.Spec PyProof.Rows L2 Dr Xv LamX Ps
structure InitT (K : PySem.W.Frag) (C S fI : Addr) (f : Str) : Prop where
  ox : OexC K C
  iC : PySem.W.findIn K (.ref C) "__init__" = some (some (.ref fI))
  tI : PySem.W.typeIn K (.ref fI) = some (.type "function")
  no : PySem.W.findIn K (.ref C) f = some none
  m : PySem.W.exmOne K (.ref C) (.ref S) = some true
  e : ExcC K C
  i : PySem.W.kitOne K (.ref C) (.ref C) = some true
  x : XfC K C
  kS : PySem.W.keepIn K (.ref S) = true
  rS : PySem.W.readsIn K S (.type "type") = true
  sS : PySem.W.specialIn K (.ref S) "__getattribute__" = some (some (.builtin "type.__getattribute__"))
  vS : PySem.W.findCls K (.ref S) (.type "type") "__init__" = some (.val (.builtin "ValueError.__init__"))
def spInit (C : Addr) (f : Str) : Sp := fun vs H Q _ => ∃ (a : Addr) (v : V), vs = [.ref a, v] ∧ H a = some (exo a C none) ∧ ∀ d, H d = none → d ≠ a → Q .non (upd (upd H d (exd d [(f, v)])) a (exo a C (some d)))
theorem mk_init {C : Addr} {f : Str} {v : V} {H : Hp} {Q : Value → Option Addr → Hp → Prop} (q : ∀ d H', H d = none → Same H H' → H' d = some (.xd [(f, v)]) → Q (.ref C) (some d) H') :
    [v].length ≤ 1000 ∧ ∀ a, H a = none → spInit C f (.ref a :: ([v] ++ [])) (upd H a (exo a C none)) (fun w H2 => w = .non ∧ ∃ (d : Addr) (fs : List (Str × V)), H2 a = some (exo a C (some d)) ∧ H2 d = some (exd d fs) ∧ H d = none ∧ Q (.ref C) (some d) (upd (del H2 a) d (.xd fs))) (fun _ _ _ => False) := by
  refine ⟨(by show 1 ≤ 1000; decide), fun a ha => ⟨a, v, rfl, upd_same, fun d hd nd => ?_⟩⟩
  have hd' : H d = none := by rw [upd_ne nd] at hd; exact hd
  refine ⟨rfl, d, _, upd_same, by rw [upd_ne nd, upd_same], hd', q d _ hd' (fun b o e => ?_) upd_same⟩
  have n1 := ne_of_none e ha
  have n2 := ne_of_none e hd'
  rw [upd_ne n2]
  unfold del
  rw [if_neg n1, upd_ne n1, upd_ne n2, upd_ne n1]
  exact e
/-- such an error, caught -/
theorem erc_init {H H' : Hp} {a C d : Addr} {fs : List (Str × V)} (hd : H d = some (.xd fs)) (ha : H a = none) : ErC (upd H a (ErX (.ref C) (some d) a)) a C (some fs) :=
  .inr ⟨d, fs, rfl, upd_same, by rw [upd_ne (ne_of_none hd ha)]; exact hd⟩
end Gn

set_option Elab.async false
set_option linter.all false
set_option maxRecDepth 100000
set_option maxHeartbeats 4000000
set_option pp.maxSteps 3000
/-! zip of two tuples as a walk; tuples and other values; lists of tuples of ints as data -/
namespace Gn
open PySem PySem.Spec PyProof.Rows L2 Dr Xv LamX Ps
theorem walk_zipT {K : PySem.W.Frag} {a b : Addr} {xs ys : List V} {n : Nat} (hn : n = min xs.length ys.length) : Walk (RZ.ItzT K a b) n (fun H => SqT K H a xs ∧ SqT K H b ys) (YPair (fun i => xs[i]?) (fun i => ys[i]?)) := by
  refine ⟨fun i H hi q => ?_, fun H q => ?_, fun i H v H' hi q y => ?_⟩
  · have h1 : i < xs.length := by omega
    have h2 : i < ys.length := by omega
    exact ⟨xs, ys, xs[i], ys[i], q.1, q.2, by simp [h1], by simp [h2]⟩
  · exact ⟨xs, ys, q.1, q.2, by omega⟩
  · obtain ⟨T, x, z, h1, h2, h3, h4, h5⟩ := y
    exact ⟨T, x, z, h1, h2, h3, h4 xs q.1, h5 ys q.2⟩
/-- len's reading, named for comprehensions -/
def rLenK (K : PySem.W.Frag) : List V → Hp → VK → Prop := fun xs H Q => ∃ x n, xs = [x] ∧ LenV K x H n ∧ Q (V.int ↑n) H
/-- a tuple with these items, or no tuple -/
inductive Tp (H : Hp) : V → Option (List V) → Prop
  | non : Tp H .non none
  | bl (b : Bool) : Tp H (.bl b) none
  | int (i : Int) : Tp H (.int i) none
  | str (x : Str) : Tp H (.str x) none
  | lst {a : Addr} {xs : List V} : H a = some (.lst xs) → Tp H (.ref a) none
  | tup {a : Addr} {xs : List V} : H a = some (.tup xs) → Tp H (.ref a) (some xs)
  | dK {a : Addr} {kvs : List (Key × V)} : H a = some (.dK kvs) → Tp H (.ref a) none
theorem Tp.same {H H' : Hp} {x : V} {o : Option (List V)} (h : Tp H x o) (s : Same H H') : Tp H' x o := by
  cases h with
  | non => exact .non
  | bl b => exact .bl b
  | int i => exact .int i
  | str x => exact .str x
  | lst e => exact .lst (s _ _ e)
  | tup e => exact .tup (s _ _ e)
  | dK e => exact .dK (s _ _ e)
theorem Tp.pv {H : Hp} {x : V} {o : Option (List V)} (h : Tp H x o) : PV H x := by
  cases h with
  | non => exact .non
  | bl b => exact .bl b
  | int i => exact .int i
  | str x => exact .str x
  | lst e => exact .lst e
  | tup e => exact .tup e
  | dK e => exact .dK e
theorem Tp.ty {K : PySem.W.Frag} {H : Hp} {x : V} {o : Option (List V)} (h : Tp H x o) : ∃ t, TyX K H x t ∧ PySem.W.kitOne K t (.type "tuple") = some o.isSome := by
  cases h with
  | non => exact ⟨_, .base .non, kit_ty (r := false) (by decide +kernel)⟩
  | bl b => exact ⟨_, .base (.bl b), kit_ty (r := false) (by decide +kernel)⟩
  | int i => exact ⟨_, .base (.int i), kit_ty (r := false) (by decide +kernel)⟩
  | str x => exact ⟨_, .base (.str x), kit_ty (r := false) (by decide +kernel)⟩
  | lst e => exact ⟨_, .base (.lst e), kit_ty (r := false) (by decide +kernel)⟩
  | tup e => exact ⟨_, .base (.tup e), kit_ty (r := true) (by decide +kernel)⟩
  | dK e => exact ⟨_, .base (.dK e), kit_ty (r := false) (by decide +kernel)⟩
theorem Tp.ref {H : Hp} {x : V} {xs : List V} (h : Tp H x (some xs)) : ∃ a, x = .ref a ∧ H a = some (.tup xs) := by
  cases h with
  | tup e => exact ⟨_, rfl, e⟩
/-- the ints among values -/
def numsV (xs : List V) : List Int := xs.filterMap fun v => match v with | V.int z => some z | _ => none
theorem numsV_map : ∀ ns : List Int, numsV (ns.map V.int) = ns
  | [] => rfl
  | z :: r => congrArg (z :: ·) (numsV_map r)
/-! data -/
def tupD (ns : List Int) : PyData := .tuple (intsD ns)
theorem tup_lay (ns : List Int) : (tupD ns).canLay0 = true := ints_lay ns
theorem tup_depth (ns : List Int) : (tupD ns).depth ≤ 1 := by
  show PyData.depthAll (intsD ns) + 1 ≤ 1
  rw [ints_depth]
  exact Nat.le_refl _
theorem tup_shaped (ns : List Int) : SeqAt.shaped (tupD ns) = true := by
  show (PyData.canLayAll0 (intsD ns) && decide (PyData.depthAll (intsD ns) + 1 ≤ 64)) = true
  rw [ints_lay, ints_depth]
  rfl
theorem tups_lay : ∀ l : List (List Int), PyData.canLayAll0 (l.map tupD) = true
  | [] => rfl
  | z :: r => by
    show (PyData.canLay0 (tupD z) && PyData.canLayAll0 (r.map tupD)) = true
    rw [tups_lay r, tup_lay]
    rfl
theorem tups_depth : ∀ l : List (List Int), PyData.depthAll (l.map tupD) ≤ 1
  | [] => Nat.zero_le _
  | z :: r => by
    show max (PyData.depth (tupD z)) (PyData.depthAll (r.map tupD)) ≤ 1
    exact Nat.max_le.mpr ⟨tup_depth z, tups_depth r⟩
theorem tups_shaped (l : List (List Int)) : SeqAt.shaped (.list (l.map tupD)) = true := by
  show (PyData.canLayAll0 (l.map tupD) && decide (PyData.depthAll (l.map tupD) + 1 ≤ 64)) = true
  rw [tups_lay, decide_eq_true (by have := tups_depth l; omega)]
  rfl
theorem tup_dp {K : PySem.W.Frag} {H : Hp} {a : Addr} {ns : List Int} (h : H a = some (.tup (ns.map V.int))) : Dp K H (.ref a) (tupD ns) := .tup (SqT.of h) (ints_dp ns)
/-- these places hold these tuples of ints -/
def TupI (H : Hp) (ts : List Addr) (pss : List (List Int)) : Prop := ts.length = pss.length ∧ ∀ (i : Nat) (t : Addr) (ns : List Int), ts[i]? = some t → pss[i]? = some ns → H t = some (.tup (ns.map V.int))
theorem TupI.same {H H' : Hp} {ts : List Addr} {pss : List (List Int)} (h : TupI H ts pss) (s : Same H H') : TupI H' ts pss := ⟨h.1, fun i t ns e1 e2 => s _ _ (h.2 i t ns e1 e2)⟩
theorem TupI.nil {H : Hp} : TupI H [] [] := ⟨rfl, fun i t ns e => by cases e⟩
theorem TupI.append {H : Hp} {ts us : List Addr} {ps qs : List (List Int)} (h : TupI H ts ps) (g : TupI H us qs) : TupI H (ts ++ us) (ps ++ qs) := by
  refine ⟨by rw [List.length_append, List.length_append, h.1, g.1], fun i t ns e1 e2 => ?_⟩
  by_cases c : i < ts.length
  · rw [List.getElem?_append_left c] at e1
    rw [List.getElem?_append_left (by rw [← h.1]; exact c)] at e2
    exact h.2 i t ns e1 e2
  · rw [List.getElem?_append_right (by omega)] at e1
    rw [List.getElem?_append_right (by rw [← h.1]; omega), ← h.1] at e2
    exact g.2 _ t ns e1 e2
theorem TupI.one {H : Hp} {t : Addr} {ns : List Int} (h : H t = some (.tup (ns.map V.int))) : TupI H [t] [ns] := by
  refine ⟨rfl, fun i t' ns' e1 e2 => ?_⟩
  cases i with
  | zero =>
    cases e1
    cases e2
    exact h
  | succ i => cases e1
theorem TupI.mem {H : Hp} {ts : List Addr} {ps : List (List Int)} (h : TupI H ts ps) {t : Addr} (ht : t ∈ ts) : ∃ ns ∈ ps, H t = some (.tup (ns.map V.int)) := by
  obtain ⟨i, hi⟩ := List.mem_iff_getElem?.mp ht
  have hl := (List.getElem?_eq_some_iff.mp hi).1
  have hl2 : i < ps.length := by rw [← h.1]; exact hl
  exact ⟨ps[i], List.getElem_mem hl2, h.2 i t _ hi (by simp [hl2])⟩
theorem TupI.get {H : Hp} {ts : List Addr} {ps : List (List Int)} (h : TupI H ts ps) {i : Nat} {t : Addr} (ht : ts[i]? = some t) : ∃ ns, ps[i]? = some ns ∧ H t = some (.tup (ns.map V.int)) := by
  have hl := (List.getElem?_eq_some_iff.mp ht).1
  have hl2 : i < ps.length := by rw [← h.1]; exact hl
  exact ⟨ps[i], by simp [hl2], h.2 i t _ ht (by simp [hl2])⟩
theorem TupI.dp {K : PySem.W.Frag} {H : Hp} : ∀ {ts : List Addr} {ps : List (List Int)}, TupI H ts ps → DpAll K H (ts.map V.ref) (ps.map tupD)
  | [], [], _ => .nil
  | [], _ :: _, h => absurd h.1 (by simp)
  | _ :: _, [], h => absurd h.1 (by simp)
  | t :: ts, p :: ps, h => .cons (tup_dp (h.2 0 t p rfl rfl)) (TupI.dp ⟨by have := h.1; simpa using this, fun i t' ns e1 e2 => h.2 (i + 1) t' ns e1 e2⟩)
theorem eq_tup (ns : List Int) : (!PyData.eqv (tupD ns) (tupD ns)) = false := by
  rw [SeqAt.eqv_refl _ (tup_lay ns)]
  rfl
theorem eq_tups (l : List (List Int)) : (!PyData.eqv (.list (l.map tupD)) (.list (l.map tupD))) = false := by
  rw [SeqAt.eqv_refl (.list (l.map tupD)) (show PyData.canLay0 (.list (l.map tupD)) = true from tups_lay l)]
  rfl
end Gn

set_option Elab.async false
set_option linter.all false
set_option maxRecDepth 100000
set_option maxHeartbeats 4000000
set_option pp.maxSteps 3000
/-! range(a, b, c) as an object, tuple() of it -/
namespace Gn
open PySem PySem.Spec PyProof.Rows L2 Dr Xv LamX Ps
/-- at r a range -/
def RgX (r : Addr) (i j c : Int) : HO := .ext fun h => ∃ t u v, IsRange h r i j c t u v
theorem rgx_ok {prog : Program} {w : World} {H : Hp} {h : Heap} {r : Addr} {i j c : Int} {t u v : Tok} (e : IsRange h r i j c t u v) : ObjOk prog w H h r (RgX r i j c) :=
  ⟨⟨t, u, v, e⟩, ⟨_, e⟩, fun h1 h2 q k => by
    obtain ⟨t, u, v, q⟩ := q
    exact ⟨t, u, v, k _ q⟩⟩
theorem cr_range3 {X : Cx} : CallR X (.type "range") (fun xs H Q => ∃ i j c, xs = [.int i, .int j, .int c] ∧ c ≠ 0 ∧ c.natAbs < 1073741824 ∧ ∀ p, H p = none → Q (.ref p) (upd H p (RgX p i j c))) := by
  intro pins s σ H xs us Q I r h
  obtain ⟨i, j, c, rfl, c0, c1, q⟩ := h
  cases r with
  | cons r1 r =>
    cases r with
    | cons r2 r =>
      cases r with
      | cons r3 r =>
        cases r
        obtain ⟨t, rfl⟩ := r1
        obtain ⟨u, rfl⟩ := r2
        obtain ⟨v, rfl⟩ := r3
        obtain ⟨hp, g, dr, tk, os⟩ := s
        refine PySem.call_range_3 c0 ?_ (.inl ?_)
        · exact ⟨.ref hp.objs.size, _, I.laid (t' := tk) (o := RgX hp.objs.size i j c) (fun b o z => Heap.get?_push_of_some _ z) (Nat.le_refl _) (rgx_ok (Heap.get?_push_size _ rfl)), rfl, q _ (I.hok.fresh (Nat.le_refl _))⟩
        · refine PyProof.noPylong_of_log2 ?_
          have k : c.natAbs.log2 < 30 := (Nat.log2_lt (by omega)).mpr (by
            have e : (2 : Nat) ^ 30 = 1073741824 := by decide
            omega)
          omega
/-- the items of a range -/
def rgL (i c : Int) (n : Nat) : List Int := (List.range n).map fun k : Nat => i + (k : Int) * c
theorem vals_of : ∀ (l : List Value) (f : Nat → V), (∀ j v, l[j]? = some v → RelV (f j) v) → Vals ((List.range l.length).map f) l
  | [], _, _ => .nil
  | v :: l, f, h => by
    rw [List.length_cons, List.range_succ_eq_map, List.map_cons, List.map_map]
    exact .cons (h 0 v rfl) (vals_of l (fun k => f (k + 1)) fun j w e => h (j + 1) w e)
theorem call_tuple_rg3 {X : Cx} (hc : X.calm = true) : CallR X (.type "tuple") (fun xs H Q => ∃ r i j c n, xs = [.ref r] ∧ H r = some (RgX r i j c) ∧ RgC i j c n ∧ n ≤ 2 ^ 24 ∧ ∀ p, H p = none → Q (.ref p) (upd H p (.tup ((rgL i c n).map V.int)))) := by
  intro pins s σ H xs us Q I r h
  obtain ⟨a, i, j, c, n, rfl, ha, hr, hn, q⟩ := h
  cases r with
  | cons r1 r =>
    cases r
    cases r1
    have ho : ObjOk X.prog X.w H s.heap a (RgX a i j c) := I.hok a _ ha
    obtain ⟨⟨t, u, v, e⟩, _⟩ := ho
    refine L2.call_tuple_range (I.ok.hd hc) e hr.2.2.1 hr.2.2.2 hn fun h' tk acc kp it => ?_
    have I1 : Inv X pins σ H { s with heap := h', toks := tk } := I.kept kp
    have hv : Vals ((rgL i c n).map V.int) acc.toList := by
      have z := vals_of acc.toList (fun k => V.int (i + (k : Int) * c)) fun j v e => by
        obtain ⟨t, rfl⟩ := it.2 j v (by simpa using e)
        exact ⟨t, rfl⟩
      have hl : acc.toList.length = n := by
        rw [Array.length_toList]
        exact it.1
      rw [hl] at z
      unfold rgL
      rw [List.map_map]
      exact z
    refine ⟨.ref h'.objs.size, _, I1.laid (t' := tk) (o := .tup ((rgL i c n).map V.int)) (fun b o z => Heap.get?_push_of_some _ z) (Nat.le_refl _) ⟨?_, acc.toList, hv, ⟨_, Heap.get?_push_size _ rfl, rfl, 0, ?_⟩⟩, rfl, q _ (I1.hok.fresh (Nat.le_refl _))⟩
    · unfold rgL
      rw [List.length_map, List.length_map, List.length_range, sizeLine_eq]
      omega
    · rfl
end Gn
namespace Gn
open PySem PySem.Spec PyProof.Rows L2
theorem hu65 {k : Nat} {A : Around} (hr : Room k A) : A.units + 65 < cLine := by
  have := hr.un
  omega
end Gn
namespace Gn
open PySem PySem.Spec PyProof.Rows L2 Dr Xv LamX Ps
/-- a test that tells b and changes nothing -/
def PureT (c : TT) (σ : L2.St) (H : Hp) (b : Bool) : Prop := ∀ Q : Bool → Hp → Prop, Q b H → c σ H Q
theorem pure_or {c d : TT} {σ : L2.St} {H : Hp} {a b : Bool} (h : PureT c σ H a) (k : PureT d σ H b) : PureT (tOr c d) σ H (a || b) := fun Q q => by
  refine h _ ?_
  cases a with
  | true => exact iteT q
  | false => exact iteF (k _ q)
theorem pure_and {c d : TT} {σ : L2.St} {H : Hp} {a b : Bool} (h : PureT c σ H a) (k : PureT d σ H b) : PureT (tAnd c d) σ H (a && b) := fun Q q => by
  refine h _ ?_
  cases a with
  | true => exact iteT (k _ q)
  | false => exact iteF q
end Gn
namespace Gn
open PySem PySem.Spec PyProof.Rows L2
theorem np {σ : L2.St} {H : Hp} {Q : Option Int → Hp → Prop} (h : Q none H) : tNoPart σ H Q := h
end Gn

set_option Elab.async false
set_option linter.all false
set_option maxRecDepth 100000
set_option maxHeartbeats 4000000
set_option pp.maxSteps 3000
/-! sum of a tuple -/
namespace Gn
open PySem PySem.Spec PyProof.Rows L2 Dr Xv LamX Ps
theorem preSum_take (ns : List Int) : ∀ k, k ≤ ns.length → PySem.preSum (fun i => ns.getD i 0) k = (ns.take k).sum
  | 0, _ => by
    rw [List.take_zero]
    rfl
  | k + 1, h => by
    have ih := preSum_take ns k (by omega)
    show PySem.preSum (fun i => ns.getD i 0) k + ns.getD k 0 = _
    rw [ih, List.take_succ, List.getElem?_eq_getElem (by omega : k < ns.length), List.sum_append, List.getD_eq_getElem?_getD, List.getElem?_eq_getElem (by omega : k < ns.length)]
    show _ + ns[k] = _ + (ns[k] + 0)
    omega
theorem sum_bd : ∀ (ns : List Int) (b : Nat), (∀ x ∈ ns, x.natAbs ≤ b) → ns.sum.natAbs ≤ ns.length * b
  | [], b, _ => Nat.zero_le _
  | x :: r, b, h => by
    have h1 := sum_bd r b fun y hy => h y (List.mem_cons_of_mem _ hy)
    have h2 := h x (List.mem_cons_self ..)
    rw [List.sum_cons, List.length_cons, Nat.add_mul, Nat.one_mul]
    have := Int.natAbs_add_le x r.sum
    omega
def rSumT (K : PySem.W.Frag) : List V → Hp → VK → Prop := fun vs H Q => ∃ (a : Addr) (ns : List Int), vs = [V.ref a] ∧ SqT K H a (ns.map V.int) ∧ ns.length ≤ 1000 ∧ (∀ x ∈ ns, x.natAbs ≤ 1000000000) ∧ Q (V.int ns.sum) H
theorem cr_sumT {X : Cx} (hc : X.calm = true) : CallR X (.builtin "sum") (rSumT X.K) := by
  intro pins s σ H xs us Q I r h
  obtain ⟨a, ns, rfl, hq, hl, hb, q⟩ := h
  cases r with
  | cons r1 r =>
    cases r
    cases r1
    obtain ⟨its, rv, p, hz⟩ := I.tuple hq
    have hlen : its.length = ns.length := by
      have := rv.length
      rw [List.length_map] at this
      exact this.symm
    have hal : a < s.heap.objs.size := by
      obtain ⟨o, ho, _⟩ := id p
      exact Heap.lt_size ho
    refine PySem.call_sum_walk (wpAny_pyIter_tuple (show s.heap.IsTuple a its.toArray from p) ?_)
    refine ⟨s.heap.objs.size, [s.heap.objs.size, a], [s.heap.objs.size], its.toArray.size, _, _, fun i => ns.getD i 0, rfl, Walks.tuple (prog := X.prog) (w := X.w) (A := X.A.in1) (I.ok.hd hc) s.heap.objs.size a (Nat.ne_of_lt hal) its.toArray, ⟨⟨_, Heap.get?_push_size _ rfl, rfl, rfl⟩, ?_⟩, fun b hb => ?_, fun i v hv => ?_, fun j hj => ?_, fun h' tk t' kp => ?_⟩
    · obtain ⟨o, ho, h2⟩ := id p
      exact ⟨o, Heap.get?_push_of_some _ ho, h2⟩
    · have e : b = s.heap.objs.size ∨ b = a := by simpa using hb
      show b < (s.heap.push _).objs.size
      rw [Heap.size_push]
      rcases e with z | z
      · rw [z]
        exact Nat.lt_succ_self _
      · rw [z]
        exact Nat.lt_succ_of_lt hal
    · have hv' : its[i]? = some v := by simpa using hv
      have hi := (List.getElem?_eq_some_iff.mp hv').1
      have e : (ns.map V.int)[i]? = some (.int (ns.getD i 0)) := by
        rw [List.getElem?_map, List.getElem?_eq_getElem (by omega : i < ns.length), List.getD_eq_getElem?_getD, List.getElem?_eq_getElem (by omega : i < ns.length)]
        rfl
      obtain ⟨u, hu, ru⟩ := rv.get e
      rw [hv'] at hu
      cases hu
      exact ru
    · have hj' : j < ns.length := by
        rw [List.size_toArray] at hj
        omega
      have h1 : (ns.getD j 0).natAbs ≤ 1000000000 := hb _ (List.mem_of_getElem? (by rw [List.getD_eq_getElem?_getD, List.getElem?_eq_getElem hj']; rfl))
      have h2 := sum_bd (ns.take (j + 1)) 1000000000 fun x hx => hb x (List.mem_of_mem_take hx)
      rw [List.length_take] at h2
      have h3 : min (j + 1) ns.length * 1000000000 ≤ 1000 * 1000000000 := Nat.mul_le_mul_right _ (by omega)
      dsimp only
      rw [preSum_take ns (j + 1) (by omega)]
      unfold InLong
      refine ⟨⟨by omega, by omega⟩, by omega, by omega⟩
    · have I1 : Inv X pins σ H { s with heap := h', toks := tk } := I.kept fun b o e => kp b o (fun z => by
        have z2 : b = s.heap.objs.size := by simpa using z
        have w := Heap.lt_size e
        rw [z2] at w
        exact Nat.lt_irrefl _ w) (Heap.get?_push_of_some _ e)
      have e : PySem.preSum (fun i => ns.getD i 0) its.toArray.size = ns.sum := by
        rw [List.size_toArray, hlen, preSum_take ns _ (Nat.le_refl _), List.take_length]
      rw [e]
      exact ⟨.int ns.sum, H, I1, ⟨_, rfl⟩, q⟩
end Gn

set_option Elab.async false
set_option linter.all false
set_option maxRecDepth 100000
set_option maxHeartbeats 4000000
set_option pp.maxSteps 3000
/-! min(list of ints, default=d); repr of a list of truth values -/
namespace Xv
open PySem PySem.Spec PyProof.Rows L2
theorem min_rawD {prog : Program} {w : World} {A : Around} {E : Value → Shared → Prop} {s : Shared} {l : Addr} {its : List Value} {ns : List Int} {d : Value} {Q : Value → Shared → Prop} (hh : A.handled = none) (hl : s.heap.IsList l its.toArray) (hi : IntsAre its ns)
    (h0 : ns = [] → ∀ h' tk, (∀ b o, s.heap.get? b = some o → h'.get? b = some o) → Q d { s with heap := h', toks := tk })
    (h : ∀ h' tk M t', (∀ b o, s.heap.get? b = some o → h'.get? b = some o) → M ∈ ns → (∀ a, a ∈ ns → M ≤ a) → Q (.int M t') { s with heap := h', toks := tk }) : wpAny (model prog w) A (call (.builtin "min") [.ref l] [(Str.ofString "default", d)]) Q E s := by
  obtain ⟨xs, e⟩ := hi.allInts.items
  have hn : numsOf (intItems xs).toList = ns := by rw [← e]; exact hi.numsOf
  rw [nums_intItems] at hn
  subst hn
  rw [e] at hl
  have hsz : (intItems xs).size = xs.size := by simp [intItems]
  refine call_min_walkD (PySem.W.iter_listW (A := A.in1) hh hl fun s₂ e W st hfp hw hk => ?_)
  refine ⟨_, _, _, _, _, _, _, s.heap, (fun i j => decide (numAt xs i < numAt xs j)), rfl, W, st, hfp, hw, hk, fun hz s' m => ?_, fun hp => ⟨?_, fun v s' hP m => ?_⟩⟩
  · obtain ⟨h', tk, rfl, hk'⟩ := PySem.W.moved_old e rfl m
    refine h0 ?_ h' tk hk'
    rw [hsz] at hz
    have z : xs = #[] := Array.size_eq_zero_iff.mp hz
    subst z
    rfl
  · intro i j vi vj s3 Q3 E3 _ p1 p2 q
    exact CmpOf.ints_lt (numAt xs) (fun _ _ => intItems_at) i j vi vj s3 Q3 E3 p1 p2 q
  · obtain ⟨h', tk, rfl, hk'⟩ := PySem.W.moved_old e rfl m
    obtain ⟨t, rfl⟩ := intItems_at hP
    rw [hsz] at hp hP
    obtain ⟨h1, h2⟩ := argBest_lt (numAt xs) (xs.size - 1)
    rw [hsz]
    refine h h' tk _ t hk' ?_ fun a ha => ?_
    · rw [numAt_eq]; exact PySem.getD_mem (by rw [List.length_map, Array.length_toList]; omega)
    · obtain ⟨j, hj, rfl⟩ := mem_getD ha
      rw [List.length_map, Array.length_toList] at hj
      rw [← numAt_eq]; exact h2 j (by omega)
/-- min(xs, default=d) -/
def rMinD (K : PySem.W.Frag) : List V → List V → Hp → VK → Prop := fun vs zs H Q => ∃ (a : Addr) (ns : List Int) (d : V), vs = [V.ref a] ∧ zs = [d] ∧ SqL K H a (ns.map V.int) ∧ (ns = [] → Q d H) ∧ ∀ m, m ∈ ns → (∀ y, y ∈ ns → m ≤ y) → Q (.int m) H
theorem cr_minD {X : Cx} (hc : X.calm = true) : CallRK X (.builtin "min") [Str.ofString "default"] (rMinD X.K) := by
  intro pins s σ H vs zs us ws Q I r rz h
  obtain ⟨a, ns, d, rfl, rfl, hs, q0, q⟩ := h
  obtain ⟨its, rv, hl, _⟩ := I.list hs
  obtain rfl := Vals.ref1 r
  obtain ⟨w1, rfl, e1⟩ := vals1 rz
  exact min_rawD (I.ok.hd hc) hl.isList rv.ints (fun z h' tk hk => ⟨d, H, I.kept hk, e1, q0 z⟩) fun h' tk m t' hk h1 h2 => ⟨.int _, H, I.kept hk, ⟨_, rfl⟩, q m h1 h2⟩
end Xv
namespace L2
open PySem PySem.Spec PyProof.Rows
theorem dc_it {J : It} {n : Nat} {G : Hp → Prop} {Y : Nat → Hp → V → Hp → Prop} (w : Walk J n G Y) {g : TG} {tt : TT} {tk tv : TE} {vs : List Nat} {σ : St} {H1 : Hp} {D : Addr} {Qd : Hp → Prop} (Pv : Nat → Hp → Prop) (h0 : Pv 0 (upd H1 D (.dK []))) (hG : ∀ i H, i ≤ n → Pv i H → G H)
    (hs : ∀ i x H H', i < n → Pv i H → Y i H x H' → g x (wipe σ vs) H' fun σ2 H2 => wipe σ2 vs = wipe σ vs ∧ tt σ2 H2 fun b H3 =>
      if b = true then tk σ2 H3 fun y H4 => tv σ2 H4 fun z H5 => ∃ kvs k, y = kV k ∧ H5 D = some (.dK kvs) ∧ kvs.length < sizeLine ∧ Pv (i + 1) (upd H5 D (.dK (putK kvs k z))) else Pv (i + 1) H3) (hd : ∀ H, Pv n H → Qd H) :
    ∃ W : Nat → Nat → Hp → Prop, (∃ m, W 0 m (upd H1 D (.dK []))) ∧ ∀ i m H, W i m H →
      (J.stop i H ∧ Qd H) ∨ (J.go i H ∧ ∃ Nx : Hp → Prop, (∀ H', Nx H' → ∃ m', m' < m ∧ W (i + 1) m' H') ∧ ∀ x H', J.yld i H x H' → g x (wipe σ vs) H' fun σ2 H2 => wipe σ2 vs = wipe σ vs ∧ tt σ2 H2 fun b H3 =>
        if b = true then tk σ2 H3 fun y H4 => tv σ2 H4 fun z H5 => ∃ kvs k, y = kV k ∧ H5 D = some (.dK kvs) ∧ kvs.length < sizeLine ∧ Nx (upd H5 D (.dK (putK kvs k z))) else Nx H3) := by
  refine ⟨fun i m H => m = n - i ∧ i ≤ n ∧ Pv i H, ⟨n, by simp, Nat.zero_le _, h0⟩, ?_⟩
  rintro i m H ⟨rfl, hi, p⟩
  have q := hG i H hi p
  by_cases hlt : i < n
  · exact .inr ⟨w.goes i H hlt q, Pv (i + 1), fun H' p' => ⟨n - (i + 1), by omega, rfl, hlt, p'⟩, fun x H' y => hs i x H H' hlt p (w.yields i H x H' hlt q y)⟩
  · have e : i = n := by omega
    subst e
    exact .inl ⟨w.stops H q, hd H p⟩
end L2

set_option Elab.async false
set_option linter.all false
set_option maxRecDepth 100000
set_option maxHeartbeats 4000000
set_option exponentiation.threshold 500000
set_option pp.maxSteps 3000
/-! families of rules -/
namespace Fm
open PySem PySem.Spec PyProof.Rows L2 Dr Xv LamX Ps Gn
/-! ### what may be a rule -/
def inR (ns : List Int) (m : Int) : Bool := ns.all fun x => decide (0 ≤ x) && decide (x < m)
def asc (ns : List Int) : Bool := (List.zip ns (ns.drop 1)).all fun p => decide (p.1 < p.2)
def resOk (o : Option (List V)) (m : Int) : Bool := match o with
  | some xs => xs.all isNum && (!xs.isEmpty && (inR (numsV xs) m && asc (numsV xs)))
  | none => false
def ruleOk (m : V) (o : Option (List V)) (l : V) : Bool := match m with
  | .int i => within (.int i) 1 24 && (within l 1 9 && resOk o i)
  | _ => false
/-- a value of any kind, and whether it is a rule -/
inductive RlV (H : Hp) (x : V) : Bool → Prop
  | no {o : Option (List V)} : Tp H x o → short o → (∀ xs, o = some xs → xs.length ≠ 3) → RlV H x false
  | tri {m r l : V} {o : Option (List V)} : Tp H x (some [m, r, l]) → PV H m → PV H l → Tp H r o → short o → AllPV H o → RlV H x (ruleOk m o l)
theorem RlV.same {H H' : Hp} {x : V} {b : Bool} (h : RlV H x b) (s : Same H H') : RlV H' x b := by
  cases h with
  | no a b c => exact .no (a.same s) b c
  | tri a b c d e f => exact .tri (a.same s) (b.same s) (c.same s) (d.same s) e (f.same s)
/-- a value of any kind, and its items as rules -/
def FmV (H : Hp) (x : V) (o : Option (List Bool)) : Prop := ∃ q : Option (List V), Items H x q ∧ short q ∧ ((q = none ∧ o = none) ∨ ∃ (xs : List V) (bs : List Bool), q = some xs ∧ o = some bs ∧ xs.length = bs.length ∧ ∀ (i : Nat) (v : V) (b : Bool), xs[i]? = some v → bs[i]? = some b → RlV H v b)
theorem FmV.same {H H' : Hp} {x : V} {o : Option (List Bool)} (h : FmV H x o) (s : Same H H') : FmV H' x o := by
  obtain ⟨q, h1, h2, h3⟩ := h
  refine ⟨q, h1.same s, h2, h3.imp id ?_⟩
  rintro ⟨xs, bs, e1, e2, e3, h⟩
  exact ⟨xs, bs, e1, e2, e3, fun i v b a c => (h i v b a c).same s⟩
def fmOk (o : Option (List Bool)) : Bool := match o with
  | some bs => decide (bs.length ≤ 6) && bs.all id
  | none => false
/-! ### families -/
abbrev Rule : Type := Int × List Int × Int
structure GoodR (r : Rule) : Prop where
  m1 : 1 ≤ r.1
  m2 : r.1 ≤ 24
  l1 : 1 ≤ r.2.2
  l2 : r.2.2 ≤ 9
  ne : r.2.1 ≠ []
  ra : inR r.2.1 r.1 = true
  as : asc r.2.1 = true
structure Good (fam : List Rule) : Prop where
  ln : fam.length ≤ 6
  r : ∀ f ∈ fam, GoodR f
def hits (fam : List Rule) (p : Int) : List Int := (fam.filter fun r => r.2.1.contains (p.fmod r.1)).map (·.2.2)
theorem in_ints (ns : List Int) (z : Int) : inV (.int z) (ns.map V.int) = ns.contains z := by
  induction ns with
  | nil => rfl
  | cons x r ih =>
    rw [List.contains_cons, ← ih]
    show (_ || _) = _
    congr 1
    show (x == z) = (z == x)
    exact Bool.beq_comm
/-- 0 : no bound -/
def bnd (fam : List Rule) (p : Int) : Int := match hits fam p with
  | [] => 0
  | x :: r => r.foldl min x
theorem foldl_min : ∀ (r : List Int) (x : Int), r.foldl min x ∈ x :: r ∧ ∀ y ∈ x :: r, r.foldl min x ≤ y
  | [], x => ⟨List.mem_cons_self, fun y hy => by
      rw [List.mem_singleton.mp hy]
      exact Int.le_refl _⟩
  | z :: r, x => by
    obtain ⟨h1, h2⟩ := foldl_min r (min x z)
    have hm : min x z ≤ x := Int.min_le_left _ _
    have hm2 : min x z ≤ z := Int.min_le_right _ _
    refine ⟨?_, fun y hy => ?_⟩
    · show r.foldl min (min x z) ∈ _
      rcases List.mem_cons.mp h1 with h | h
      · rw [h]
        by_cases c : x ≤ z
        · rw [Int.min_eq_left c]
          exact List.mem_cons_self
        · rw [Int.min_eq_right (by omega)]
          exact List.mem_cons_of_mem _ List.mem_cons_self
      · exact List.mem_cons_of_mem _ (List.mem_cons_of_mem _ h)
    · show r.foldl min (min x z) ≤ y
      have a := h2 (min x z) List.mem_cons_self
      rcases List.mem_cons.mp hy with rfl | hy
      · omega
      · rcases List.mem_cons.mp hy with rfl | hy
        · omega
        · exact h2 y (List.mem_cons_of_mem _ hy)
theorem bnd_eq {fam : List Rule} {p m : Int} (h1 : m ∈ hits fam p) (h2 : ∀ y ∈ hits fam p, m ≤ y) : bnd fam p = m := by
  unfold bnd
  cases h : hits fam p with
  | nil =>
    rw [h] at h1
    cases h1
  | cons x r =>
    rw [h] at h1 h2
    obtain ⟨a, b⟩ := foldl_min r x
    have := h2 _ a
    have := b _ h1
    show r.foldl min x = m
    omega
theorem hits_pos {fam : List Rule} (G : Good fam) {p y : Int} (h : y ∈ hits fam p) : 1 ≤ y ∧ y ≤ 9 := by
  obtain ⟨r, hr, rfl⟩ := List.mem_map.mp h
  have g := G.r r (List.mem_filter.mp hr).1
  exact ⟨g.l1, g.l2⟩
theorem bnd_zero {fam : List Rule} {p : Int} (h : hits fam p = []) : bnd fam p = 0 := by
  unfold bnd
  rw [h]
theorem bnd_mem {fam : List Rule} {p : Int} (h : hits fam p ≠ []) : bnd fam p ∈ hits fam p := by
  unfold bnd
  cases e : hits fam p with
  | nil => exact absurd e h
  | cons x r => exact (foldl_min r x).1
theorem bnd_pos {fam : List Rule} (G : Good fam) {p : Int} (h : hits fam p ≠ []) : 1 ≤ bnd fam p ∧ bnd fam p ≤ 9 := hits_pos G (bnd_mem h)
theorem bnd_le {fam : List Rule} (G : Good fam) (p : Int) : 0 ≤ bnd fam p ∧ bnd fam p ≤ 9 := by
  by_cases h : hits fam p = []
  · rw [bnd_zero h]
    decide
  · have := bnd_pos G h
    omega
theorem hits_len {fam : List Rule} (p : Int) : (hits fam p).length ≤ fam.length := by
  unfold hits
  rw [List.length_map]
  exact List.length_filter_le _ _
/-- what bound_of tells -/
def bndV (fam : List Rule) (p : Int) : V := if bnd fam p = 0 then .non else .int (bnd fam p)
/-- the rules' objects -/
structure RulesAt (H : Hp) (ts rs : List Addr) (fam : List Rule) : Prop where
  l1 : ts.length = fam.length
  l2 : rs.length = fam.length
  at_ : ∀ (i : Nat) (t r : Addr) (f : Rule), ts[i]? = some t → rs[i]? = some r → fam[i]? = some f → H t = some (.tup [.int f.1, .ref r, .int f.2.2]) ∧ H r = some (.tup (f.2.1.map V.int))
theorem RulesAt.same {H H' : Hp} {ts rs : List Addr} {fam : List Rule} (h : RulesAt H ts rs fam) (s : Same H H') : RulesAt H' ts rs fam := ⟨h.l1, h.l2, fun i t r f a b c => ⟨s _ _ (h.at_ i t r f a b c).1, s _ _ (h.at_ i t r f a b c).2⟩⟩
theorem RulesAt.get {H : Hp} {ts rs : List Addr} {fam : List Rule} (h : RulesAt H ts rs fam) {i : Nat} {v : V} (e : (ts.map V.ref)[i]? = some v) : ∃ t r f, v = .ref t ∧ ts[i]? = some t ∧ rs[i]? = some r ∧ fam[i]? = some f ∧ H t = some (.tup [.int f.1, .ref r, .int f.2.2]) ∧ H r = some (.tup (f.2.1.map V.int)) := by
  rw [List.getElem?_map] at e
  cases et : ts[i]? with
  | none =>
    rw [et] at e
    cases e
  | some t =>
    rw [et] at e
    cases e
    have hi := (List.getElem?_eq_some_iff.mp et).1
    have er := List.getElem?_eq_getElem (l := rs) (i := i) (by rw [h.l2, ← h.l1]; exact hi)
    have ef := List.getElem?_eq_getElem (l := fam) (i := i) (by rw [← h.l1]; exact hi)
    exact ⟨t, _, _, rfl, rfl, er, ef, h.at_ _ _ _ _ et er ef⟩
def FamAt (H : Hp) (a : Addr) (fam : List Rule) : Prop := ∃ ts rs, H a = some (.lst (ts.map V.ref)) ∧ RulesAt H ts rs fam
theorem FamAt.same {H H' : Hp} {a : Addr} {fam : List Rule} (h : FamAt H a fam) (s : Same H H') : FamAt H' a fam := by
  obtain ⟨ts, rs, e, r⟩ := h
  exact ⟨ts, rs, s _ _ e, r.same s⟩
theorem ruleOk_good {f : Rule} (g : GoodR f) : ruleOk (.int f.1) (some (f.2.1.map V.int)) (.int f.2.2) = true := by
  show (within (.int f.1) 1 24 && (within (.int f.2.2) 1 9 && ((f.2.1.map V.int).all isNum && (!(f.2.1.map V.int).isEmpty && (inR (numsV (f.2.1.map V.int)) f.1 && asc (numsV (f.2.1.map V.int))))))) = true
  rw [within_yes g.m1 g.m2, within_yes g.l1 g.l2, all_num, numsV_map, g.ra, g.as]
  cases e : f.2.1 with
  | nil => exact absurd e g.ne
  | cons _ _ => rfl
theorem inR_len {ns : List Int} {m : Int} (h1 : inR ns m = true) (h2 : asc ns = true) (h3 : m ≤ 24) : ns.length ≤ 24 := by
  -- ascending from 0 below m
  have key : ∀ (l : List Int) (k : Nat), (List.zip l (l.drop 1)).all (fun p => decide (p.1 < p.2)) = true → (∀ x ∈ l, (k : Int) ≤ x ∧ x < 24) → l.length + k ≤ 24 ∨ l = [] := by
    intro l
    induction l with
    | nil => exact fun _ _ _ => .inr rfl
    | cons x r ih =>
      intro k hz hb
      refine .inl ?_
      have hx := hb x List.mem_cons_self
      cases r with
      | nil =>
        show 1 + k ≤ 24
        omega
      | cons y t =>
        have hz' : (decide (x < y) && (List.zip (y :: t) ((y :: t).drop 1)).all fun p => decide (p.1 < p.2)) = true := hz
        rw [Bool.and_eq_true, decide_eq_true_eq] at hz'
        have hmono : ∀ z ∈ y :: t, y ≤ z := by
          have : ∀ (l : List Int) (a : Int), (List.zip (a :: l) ((a :: l).drop 1)).all (fun p => decide (p.1 < p.2)) = true → ∀ z ∈ a :: l, a ≤ z := by
            intro l
            induction l with
            | nil =>
              intro a _ z hz
              rw [List.mem_singleton.mp hz]
              exact Int.le_refl _
            | cons b s ih2 =>
              intro a hq z hz
              have hq' : (decide (a < b) && (List.zip (b :: s) ((b :: s).drop 1)).all fun p => decide (p.1 < p.2)) = true := hq
              rw [Bool.and_eq_true, decide_eq_true_eq] at hq'
              rcases List.mem_cons.mp hz with rfl | hz
              · exact Int.le_refl _
              · have := ih2 b hq'.2 z hz
                omega
          exact this t y hz'.2
        rcases ih (k + 1) hz'.2 (fun z hzm => ⟨by
          have := hmono z hzm
          omega, (hb z (List.mem_cons_of_mem _ hzm)).2⟩) with h | h
        · show (y :: t).length + 1 + k ≤ 24
          omega
        · cases h
  have hb : ∀ x ∈ ns, ((0 : Nat) : Int) ≤ x ∧ x < 24 := fun x hx => by
    have z := List.all_eq_true.mp h1 x hx
    rw [Bool.and_eq_true, decide_eq_true_eq, decide_eq_true_eq] at z
    omega
  rcases key ns 0 h2 hb with h | h
  · omega
  · rw [h]
    exact Nat.zero_le _
theorem FamAt.v {H : Hp} {a : Addr} {fam : List Rule} (h : FamAt H a fam) (G : Good fam) : FmV H (.ref a) (some (fam.map fun _ => true)) := by
  obtain ⟨ts, rs, e, r⟩ := h
  have hl : (ts.map V.ref).length = (fam.map fun _ => true).length := by rw [List.length_map, List.length_map, r.l1]
  refine ⟨_, .lst e, fun xs ex => ?_, .inr ⟨_, _, rfl, rfl, hl, fun i v b e1 e2 => ?_⟩⟩
  · cases ex
    rw [List.length_map, r.l1, sizeLine_eq]
    have := G.ln
    omega
  · obtain ⟨t, q, f, rfl, _, _, ef, g1, g2⟩ := r.get e1
    rw [List.getElem?_map, ef] at e2
    cases e2
    have g := G.r f (List.mem_of_getElem? ef)
    rw [← ruleOk_good g]
    have := inR_len g.ra g.as g.m2
    exact .tri (.tup g1) (.int _) (.int _) (.tup g2) (short_ints (by omega)) (pv_ints _)
theorem fmOk_good {fam : List Rule} (G : Good fam) : fmOk (some (fam.map fun _ => true)) = true := by
  show (decide ((fam.map fun _ => true).length ≤ 6) && (fam.map fun _ => true).all id) = true
  rw [List.length_map, decide_eq_true G.ln, Bool.true_and, List.all_map]
  exact List.all_eq_true.mpr fun _ _ => rfl
end Fm
namespace Fm
open PySem PySem.Spec PyProof.Rows L2 Dr Xv LamX Ps Gn
/-- the parts whose bound leads to n -/
def mTest (fam : List Rule) (n b : Int) : Bool := decide (n.fmod b = 0) && decide (bnd fam (n.fdiv b) = b)
def nines : List Int := [9, 8, 7, 6, 5, 4, 3, 2, 1]
def mates (fam : List Rule) (n : Int) : List Int := (nines.filter (mTest fam n)).map fun b => n.fdiv b
def pS (fam : List Rule) : S := fun i => 1 - ((mates fam ((i : Int) + 1)).length : Int)
theorem mates_le (fam : List Rule) (n : Int) : (mates fam n).length ≤ 9 := by
  unfold mates
  rw [List.length_map]
  exact List.length_filter_le _ _
theorem nines_at {i : Nat} (h : i < 9) : nines[i]? = some (9 + (i : Int) * (-1)) := by
  have : ∀ i : Nat, i < 9 → nines[i]? = some (9 + (i : Int) * (-1)) := by decide
  exact this i h
theorem mates_take {fam : List Rule} {n : Int} {i : Nat} {z : Int} (h : nines[i]? = some z) : ((nines.take (i + 1)).filter (mTest fam n)).map (fun b => n.fdiv b) = ((nines.take i).filter (mTest fam n)).map (fun b => n.fdiv b) ++ if mTest fam n z then [n.fdiv z] else [] := by
  rw [List.take_succ, h, List.filter_append, List.map_append]
  show _ ++ ([z].filter _).map _ = _
  cases hc : mTest fam n z with
  | true => rw [List.filter_cons_of_pos (by exact hc)]; rfl
  | false => rw [List.filter_cons_of_neg (by rw [hc]; exact Bool.false_ne_true)]; rfl
theorem eq_bndV (fam : List Rule) (p z : Int) (h : z ≠ 0) : decide (bndV fam p = .int z) = decide (bnd fam p = z) := by
  unfold bndV
  by_cases c : bnd fam p = 0
  · have e1 : decide (V.non = V.int z) = false := decide_eq_false (fun e => nomatch e)
    have e2 : decide (bnd fam p = z) = false := decide_eq_false (by omega)
    rw [if_pos c, e1, e2]
  · rw [if_neg c]
    by_cases d : bnd fam p = z
    · have e1 : decide (V.int (bnd fam p) = V.int z) = true := decide_eq_true (by rw [d])
      rw [e1, decide_eq_true d]
    · have e1 : decide (V.int (bnd fam p) = V.int z) = false := decide_eq_false (fun e => d (by injection e))
      rw [e1, decide_eq_false d]
theorem scal_bndV (fam : List Rule) (p z : Int) : scal (bndV fam p) (.int z) = true := by
  unfold bndV
  split <;> rfl
theorem pS_le (fam : List Rule) (i : Nat) : (pS fam i).natAbs ≤ 9 := by
  have := mates_le fam ((i : Int) + 1)
  show ((1 : Int) - _).natAbs ≤ 9
  omega
theorem row_pow (fam : List Rule) (m : Nat) (hm : m ≤ 100) : ∃ B, 0 < B ∧ B ≤ 400000 ∧ (∀ k, k < m + 1 → (sS (pS fam) m k).natAbs < 2 ^ B) ∧ ∀ k, k < m + 1 → (prA (pS fam) m k).natAbs < 2 ^ B := by
  have hs : ∀ k, (sS (pS fam) m k).natAbs ≤ 2 ^ 17 := fun k => by
    have h := sS_bound (p := pS fam) (c := 9) (pS_le fam) m k
    have h2 : m * (m + 1) ≤ 100 * 101 := Nat.mul_le_mul hm (by omega)
    have e : (2 : Nat) ^ 17 = 131072 := by decide
    omega
  have ha := lg_bound (lg_prA (pS fam) m) (prA_zero _ _) (B := 2 ^ 17) (N := m) (by decide) fun k _ => hs k
  refine ⟨1701, by decide, by decide, fun k _ => ?_, fun k hk => ?_⟩
  · exact Nat.lt_of_le_of_lt (hs k) (Nat.pow_lt_pow_right (by decide) (by decide))
  · have h := ha k (by omega)
    rw [← Nat.pow_mul] at h
    exact Nat.lt_of_le_of_lt h (Nat.pow_lt_pow_right (by decide) (by omega))
end Fm
namespace Fm
open PySem PySem.Spec PyProof.Rows L2 Dr Xv LamX Ps Gn
/-! ### how often each part occurs -/
def ct (p : Int) (ns : List Int) : Nat := ns.countP fun x => x == p
def kI (p : Int) : Key := .inl p
structure TimesOf (kvs : List (Key × V)) (ns : List Int) : Prop where
  ln : kvs.length ≤ ns.length
  at_ : ∀ p : Int, valV kvs (kI p) = if p ∈ ns then some (.int (ct p ns)) else none
  ks : ∀ kv ∈ kvs, ∃ p ∈ ns, kv.1 = kI p
  nd : (kvs.map (·.1)).Nodup
theorem keys_any (kvs : List (Key × V)) (k : Key) : (kvs.any fun kv => decide (kv.1 = k)) = true ↔ k ∈ kvs.map (·.1) := by
  rw [List.any_eq_true, List.mem_map]
  constructor
  · rintro ⟨x, hx, e⟩
    exact ⟨x, hx, of_decide_eq_true e⟩
  · rintro ⟨x, hx, e⟩
    exact ⟨x, hx, decide_eq_true e⟩
theorem keys_put_in {kvs : List (Key × V)} {k : Key} {v : V} (c : k ∈ kvs.map (·.1)) : (putK kvs k v).map (·.1) = kvs.map (·.1) := by
  unfold putK
  rw [if_pos ((keys_any kvs k).mpr c), List.map_map]
  refine List.map_congr_left fun kv _ => ?_
  show (if kv.1 = k then (kv.1, v) else kv).1 = kv.1
  split <;> rfl
theorem keys_put_new {kvs : List (Key × V)} {k : Key} {v : V} (c : k ∉ kvs.map (·.1)) : (putK kvs k v).map (·.1) = kvs.map (·.1) ++ [k] := by
  unfold putK
  rw [if_neg (fun z => c ((keys_any kvs k).mp z)), List.map_append]
  rfl
theorem nodup_put {kvs : List (Key × V)} {k : Key} {v : V} (h : (kvs.map (·.1)).Nodup) : ((putK kvs k v).map (·.1)).Nodup := by
  by_cases c : k ∈ kvs.map (·.1)
  · rw [keys_put_in c]
    exact h
  · rw [keys_put_new c]
    refine List.nodup_append.mpr ⟨h, List.nodup_cons.mpr ⟨List.not_mem_nil, .nil⟩, fun a ha b hb e => ?_⟩
    rw [List.mem_singleton.mp hb] at e
    exact c (e ▸ ha)
theorem TimesOf.nil : TimesOf [] [] := ⟨Nat.le_refl _, fun p => by rw [if_neg List.not_mem_nil]; rfl, (fun kv h => by cases h), .nil⟩
theorem kI_inj {p q : Int} : kI p = kI q ↔ p = q := ⟨fun e => by injection e, fun e => by rw [e]⟩
theorem ct_snoc (p x : Int) (ns : List Int) : ct p (ns ++ [x]) = ct p ns + if x = p then 1 else 0 := by
  unfold ct
  rw [List.countP_append, List.countP_cons, List.countP_nil]
  by_cases c : x = p
  · simp [c]
  · simp [c]
theorem TimesOf.mem_put {kvs : List (Key × V)} {k : Key} {v : V} {kv : Key × V} (h : kv ∈ putK kvs k v) : kv.1 = k ∨ ∃ kv' ∈ kvs, kv.1 = kv'.1 := by
  unfold putK at h
  split at h
  · obtain ⟨kv', h1, h2⟩ := List.mem_map.mp h
    subst h2
    split
    · rename_i e
      exact .inl e
    · exact .inr ⟨kv', h1, rfl⟩
  · rcases List.mem_append.mp h with h | h
    · exact .inr ⟨kv, h, rfl⟩
    · rw [List.mem_singleton.mp h]
      exact .inl rfl
theorem TimesOf.step {kvs : List (Key × V)} {ns : List Int} {x : Int} (T : TimesOf kvs ns) : TimesOf (putK kvs (kI x) (.int (ct x ns + 1))) (ns ++ [x]) := by
  refine ⟨?_, fun p => ?_, fun kv h => ?_, nodup_put T.nd⟩
  · have := length_putK kvs (kI x) (.int (ct x ns + 1))
    have := T.ln
    rw [List.length_append]
    show _ ≤ ns.length + 1
    omega
  · rw [valV_put, T.at_ p]
    by_cases c : p = x
    · subst c
      rw [if_pos rfl, if_pos (List.mem_append_right _ (List.mem_singleton.mpr rfl)), ct_snoc, if_pos rfl]
      rfl
    · have e1 : (if x = p then 1 else 0 : Nat) = 0 := if_neg (fun e => c e.symm)
      rw [if_neg (fun e => c (kI_inj.mp e)), ct_snoc, e1, Nat.add_zero]
      by_cases m : p ∈ ns
      · rw [if_pos m, if_pos (List.mem_append_left _ m)]
      · rw [if_neg m, if_neg (fun h => ?_)]
        rcases List.mem_append.mp h with h | h
        · exact m h
        · exact c (List.mem_singleton.mp h)
  · rcases TimesOf.mem_put h with e | ⟨kv', h1, e⟩
    · exact ⟨x, List.mem_append_right _ (List.mem_singleton.mpr rfl), e⟩
    · obtain ⟨p, hp, e2⟩ := T.ks kv' h1
      exact ⟨p, List.mem_append_left _ hp, e.trans e2⟩
theorem ct_zero {p : Int} {ns : List Int} (h : p ∉ ns) : ct p ns = 0 := by
  unfold ct
  rw [List.countP_eq_zero]
  intro x hx e
  have : x = p := by simpa using e
  exact h (this ▸ hx)
theorem TimesOf.getD {kvs : List (Key × V)} {ns : List Int} (T : TimesOf kvs ns) (x : Int) : (valV kvs (kI x)).getD (.int 0) = .int (ct x ns) := by
  rw [T.at_]
  by_cases m : x ∈ ns
  · rw [if_pos m]
    rfl
  · rw [if_neg m, ct_zero m]
    rfl
/-- each part keeps its bound -/
def kpT (fam : List Rule) (ns : List Int) (p : Int) : Bool := decide (bnd fam p = 0) || decide ((ct p ns : Int) < bnd fam p)
def kp (fam : List Rule) (ns : List Int) : Bool := ns.all (kpT fam ns)
theorem valV_mem {kvs : List (Key × V)} {k : Key} {v : V} (h : valV kvs k = some v) : ∃ kv ∈ kvs, kv.1 = k := by
  unfold valV at h
  cases e : kvs.find? fun kv => decide (kv.1 = k) with
  | none =>
    rw [e] at h
    cases h
  | some kv => exact ⟨kv, List.mem_of_find?_eq_some e, of_decide_eq_true (List.find?_some (p := fun kv : Key × V => decide (kv.1 = k)) e)⟩
def keyT (fam : List Rule) (ns : List Int) (k : Key) : Bool := match k with
  | .inl p => kpT fam ns p
  | .inr _ => true
theorem TimesOf.all {kvs : List (Key × V)} {ns : List Int} (T : TimesOf kvs ns) (fam : List Rule) : (kvs.map fun kv => keyT fam ns kv.1).all id = kp fam ns := by
  rw [List.all_map, Bool.eq_iff_iff]
  unfold kp
  rw [List.all_eq_true, List.all_eq_true]
  constructor
  · intro h p hp
    have e := T.at_ p
    rw [if_pos hp] at e
    obtain ⟨kv, h1, h2⟩ := valV_mem e
    have z : keyT fam ns kv.1 = true := h kv h1
    rw [h2] at z
    exact z
  · intro h kv hk
    obtain ⟨p, hp, e⟩ := T.ks kv hk
    show keyT fam ns kv.1 = true
    rw [e]
    exact h p hp
/-- the bounds of keys -/
structure BndOf (fam : List Rule) (bvs : List (Key × V)) (ks : List Key) : Prop where
  ln : bvs.length ≤ ks.length
  at_ : ∀ p : Int, kI p ∈ ks → valV bvs (kI p) = some (bndV fam p)
theorem BndOf.step {fam : List Rule} {bvs : List (Key × V)} {ks : List Key} {x : Int} (B : BndOf fam bvs ks) : BndOf fam (putK bvs (kI x) (bndV fam x)) (ks ++ [kI x]) := by
  refine ⟨?_, fun p h => ?_⟩
  · have := length_putK bvs (kI x) (bndV fam x)
    have := B.ln
    rw [List.length_append]
    show _ ≤ ks.length + 1
    omega
  · rw [valV_put]
    by_cases c : p = x
    · subst c
      rw [if_pos rfl]
    · rw [if_neg (fun e => c (kI_inj.mp e))]
      rcases List.mem_append.mp h with h | h
      · exact B.at_ p h
      · exact absurd (kI_inj.mp (List.mem_singleton.mp h)) c
theorem lock_old {H : Hp} {d b : Addr} {kvs : List (Key × V)} {o x : HO} (hd : H d = some (.dK kvs)) (hb : H b = some o) (ho : ∀ k, o ≠ .dK k) : upd H d x b = some o := by
  rw [upd_ne (fun z => ?_)]
  · exact hb
  · rw [z, hd] at hb
    cases hb
    exact ho _ rfl
theorem FamAt.lock {H : Hp} {d a : Addr} {kvs : List (Key × V)} {x : HO} {fam : List Rule} (h : FamAt H a fam) (hd : H d = some (.dK kvs)) : FamAt (upd H d x) a fam := by
  obtain ⟨ts, rs, e, r⟩ := h
  refine ⟨ts, rs, lock_old hd e (fun _ z => nomatch z), r.l1, r.l2, fun i t q f a b c => ?_⟩
  obtain ⟨g1, g2⟩ := r.at_ i t q f a b c
  exact ⟨lock_old hd g1 (fun _ z => nomatch z), lock_old hd g2 (fun _ z => nomatch z)⟩
theorem same_lock {H H' : Hp} {d : Addr} {o : Obj} {u : HO} (hd : H d = some u) (s : Same (upd H d (.frz o u)) H') : Same H (upd H' d u) := fun b ob e => by
  by_cases c : b = d
  · subst c
    rw [hd] at e
    rw [upd_same]
    exact e
  · rw [upd_ne c]
    exact s b ob (by rw [upd_ne c]; exact e)
end Fm
namespace Fm
open PySem PySem.Spec PyProof.Rows L2 Dr Xv LamX Ps Gn
theorem ints_ne (ns : List Int) : (!PyData.eqv (.list (intsD ns)) (.list (intsD []))) = decide (ns ≠ []) := by
  cases ns with
  | nil => exact eq_no []
  | cons x r => rfl
theorem tup_ne (ns : List Int) : (!PyData.eqv (tupD ns) (tupD [])) = decide (ns ≠ []) := by
  cases ns with
  | nil => exact eq_tup []
  | cons x r => rfl
theorem FamAt.sx {H H' : Hp} {a d l c : Addr} {fam : List Rule} (h : FamAt H a fam) (D : Draw H d l c) (n : a ≠ l) (s : SameX d l H H') : FamAt H' a fam := by
  obtain ⟨ls, cs, r, t, D⟩ := D
  obtain ⟨ts, rs, e, R⟩ := h
  have nd : ∀ {b : Addr} {xs : List V}, H b = some (.tup xs) → H' b = some (.tup xs) := fun {b xs} eb => s _ _ eb (ne_of eb D.dd (fun z => by cases z)) (ne_of eb D.dl (fun z => by cases z))
  exact ⟨ts, rs, s _ _ e (ne_of e D.dd (fun z => by cases z)) n, R.l1, R.l2, fun i t r f a b c => ⟨nd (R.at_ i t r f a b c).1, nd (R.at_ i t r f a b c).2⟩⟩
theorem tup_sx {H H' : Hp} {b d l c : Addr} {xs : List V} (D : Draw H d l c) (s : SameX d l H H') (eb : H b = some (.tup xs)) : H' b = some (.tup xs) := by
  obtain ⟨ls, cs, r, t, D⟩ := D
  exact s _ _ eb (ne_of eb D.dd (fun z => by cases z)) (ne_of eb D.dl (fun z => by cases z))
end Fm
namespace Fm
open PySem PySem.Spec PyProof.Rows L2 Dr Xv LamX Ps Gn
theorem asc_of : ∀ {ns : List Int}, ns.Pairwise (· < ·) → asc ns = true
  | [], _ => rfl
  | [_], _ => rfl
  | x :: y :: r, h => by
    have h1 := List.pairwise_cons.mp h
    show (decide (x < y) && asc (y :: r)) = true
    rw [decide_eq_true (h1.1 y List.mem_cons_self), asc_of h1.2]
    rfl
/-- some numbers below i, ascending -/
def Up (ks : List Int) (i : Int) : Prop := ks.Pairwise (· < ·) ∧ ∀ x ∈ ks, 0 ≤ x ∧ x < i
theorem Up.nil : Up [] 0 := ⟨.nil, fun x h => by cases h⟩
theorem Up.le {ks : List Int} {i j : Int} (h : Up ks i) (hj : i ≤ j) : Up ks j := ⟨h.1, fun x hx => by
  have := h.2 x hx
  omega⟩
theorem Up.snoc {ks : List Int} {i : Int} (h : Up ks i) (h0 : 0 ≤ i) : Up (ks ++ [i]) (i + 1) := by
  refine ⟨List.pairwise_append.mpr ⟨h.1, List.pairwise_singleton _ _, fun x hx y hy => ?_⟩, fun x hx => ?_⟩
  · rw [List.mem_singleton.mp hy]
    exact (h.2 x hx).2
  · rcases List.mem_append.mp hx with hx | hx
    · have := h.2 x hx
      omega
    · rw [List.mem_singleton.mp hx]
      omega
theorem Up.inR {ks : List Int} {i : Int} (h : Up ks i) : inR ks i = true := List.all_eq_true.mpr fun x hx => by
  have := h.2 x hx
  rw [decide_eq_true this.1, decide_eq_true this.2]
  rfl
theorem Up.good {ks : List Int} {m l : Int} (h : Up ks m) (n : ks ≠ []) (m1 : 1 ≤ m) (m2 : m ≤ 24) (l1 : 1 ≤ l) (l2 : l ≤ 9) : GoodR (m, ks, l) := ⟨m1, m2, l1, l2, n, h.inR, asc_of h.1⟩
theorem RulesAt.snoc {H H' : Hp} {ts rs : List Addr} {fam : List Rule} {t r : Addr} {f : Rule} (h : RulesAt H ts rs fam) (s : ∀ (b : Addr) (xs : List V), H b = some (.tup xs) → H' b = some (.tup xs)) (h1 : H' t = some (.tup [.int f.1, .ref r, .int f.2.2])) (h2 : H' r = some (.tup (f.2.1.map V.int))) : RulesAt H' (ts ++ [t]) (rs ++ [r]) (fam ++ [f]) := by
  refine ⟨by rw [List.length_append, List.length_append, h.l1]; rfl, by rw [List.length_append, List.length_append, h.l2]; rfl, fun i t' r' f' a b c => ?_⟩
  by_cases hi : i < fam.length
  · rw [List.getElem?_append_left (by rw [h.l1]; exact hi)] at a
    rw [List.getElem?_append_left (by rw [h.l2]; exact hi)] at b
    rw [List.getElem?_append_left hi] at c
    have g := h.at_ i t' r' f' a b c
    exact ⟨s _ _ g.1, s _ _ g.2⟩
  · rw [List.getElem?_append_right (by rw [h.l1]; omega), h.l1] at a
    rw [List.getElem?_append_right (by rw [h.l2]; omega), h.l2] at b
    rw [List.getElem?_append_right (by omega)] at c
    by_cases z : i - fam.length = 0
    · rw [z] at a b c
      cases a
      cases b
      cases c
      exact ⟨h1, h2⟩
    · rw [List.getElem?_eq_none (by show 1 ≤ _; omega)] at a
      cases a
/-- what is drawn -/
structure Drawn (fam : List Rule) : Prop where
  ln : fam.length ≤ 3
  r : ∀ f ∈ fam, GoodR f ∧ f.1 ≤ 6 ∧ f.2.2 ≤ 4
theorem Drawn.good {fam : List Rule} (h : Drawn fam) : Good fam := ⟨by have := h.ln; omega, fun f hf => (h.r f hf).1⟩
end Fm
namespace Fm
open PySem PySem.Spec PyProof.Rows L2 Dr Xv LamX Ps Gn
/-! the data of a family -/
def ruleD (f : Rule) : PyData := .tuple [.int f.1, tupD f.2.1, .int f.2.2]
def famD (fam : List Rule) : PyData := .list (fam.map ruleD)
theorem eq_rule (f : Rule) : (!PyData.eqv (ruleD f) (ruleD f)) = false := by
  have h := eq_tup f.2.1
  simp only [Bool.not_eq_false'] at h ⊢
  simp [ruleD, PyData.eqv, PyData.eqvAll, h]
theorem eq_fam (fam : List Rule) : (!PyData.eqv (famD fam) (famD fam)) = false := by
  induction fam with
  | nil => rfl
  | cons f r ih =>
    have h := eq_rule f
    simp only [Bool.not_eq_false'] at h ih ⊢
    simp only [famD, PyData.eqv, List.map_cons] at ih ⊢
    simp [PyData.eqvAll, h, ih]
theorem rule_dp {K : PySem.W.Frag} {H : Hp} {t r : Addr} {f : Rule} (h1 : H t = some (.tup [.int f.1, .ref r, .int f.2.2])) (h2 : H r = some (.tup (f.2.1.map V.int))) : Dp K H (.ref t) (ruleD f) := .tup (SqT.of h1) (.cons (.int _) (.cons (tup_dp h2) (.cons (.int _) .nil)))
theorem RulesAt.dp {K : PySem.W.Frag} {H : Hp} : ∀ {ts rs : List Addr} {fam : List Rule}, RulesAt H ts rs fam → DpAll K H (ts.map V.ref) (fam.map ruleD)
  | [], _, [], _ => .nil
  | [], _, _ :: _, h => by
    have := h.l1
    cases this
  | _ :: _, _, [], h => by
    have := h.l1
    cases this
  | _ :: _, [], _ :: _, h => by
    have := h.l2
    cases this
  | t :: ts, r :: rs, f :: fam, h => by
    have g := h.at_ 0 t r f rfl rfl rfl
    refine .cons (rule_dp g.1 g.2) (RulesAt.dp (rs := rs) ⟨Nat.succ.inj h.l1, Nat.succ.inj h.l2, fun i t' r' f' a b c => h.at_ (i + 1) t' r' f' a b c⟩)
theorem RulesAt.vt {H : Hp} {ts rs : List Addr} {fam : List Rule} {x : V} (r : RulesAt H ts rs fam) (G : Good fam) (e : Items H x (some (ts.map V.ref))) : FmV H x (some (fam.map fun _ => true)) := by
  have hl : (ts.map V.ref).length = (fam.map fun _ => true).length := by rw [List.length_map, List.length_map, r.l1]
  refine ⟨_, e, fun xs ex => ?_, .inr ⟨_, _, rfl, rfl, hl, fun i v b e1 e2 => ?_⟩⟩
  · cases ex
    rw [List.length_map, r.l1, sizeLine_eq]
    have := G.ln
    omega
  · obtain ⟨t, q, f, rfl, _, _, ef, g1, g2⟩ := r.get e1
    rw [List.getElem?_map, ef] at e2
    cases e2
    have g := G.r f (List.mem_of_getElem? ef)
    rw [← ruleOk_good g]
    have := inR_len g.ra g.as g.m2
    exact .tri (.tup g1) (.int _) (.int _) (.tup g2) (short_ints (by omega)) (pv_ints _)
end Fm
namespace Fm
open PySem PySem.Spec PyProof.Rows L2 Dr Xv LamX Ps Gn
theorem rules_lay : ∀ l : List Rule, PyData.canLayAll0 (l.map ruleD) = true
  | [] => rfl
  | z :: r => by
    show ((PyData.canLay0 (.int z.1) && (PyData.canLay0 (tupD z.2.1) && (PyData.canLay0 (.int z.2.2) && PyData.canLayAll0 []))) && PyData.canLayAll0 (r.map ruleD)) = true
    rw [rules_lay r, tup_lay]
    rfl
theorem rules_depth : ∀ l : List Rule, PyData.depthAll (l.map ruleD) ≤ 2
  | [] => Nat.zero_le _
  | z :: r => by
    show max (PyData.depth (ruleD z)) (PyData.depthAll (r.map ruleD)) ≤ 2
    refine Nat.max_le.mpr ⟨?_, rules_depth r⟩
    have h := tup_depth z.2.1
    show max 0 (max (PyData.depth (tupD z.2.1)) (max 0 0)) + 1 ≤ 2
    omega
theorem fam_shaped (fam : List Rule) : SeqAt.shaped (famD fam) = true := by
  show (PyData.canLayAll0 (fam.map ruleD) && decide (PyData.depthAll (fam.map ruleD) + 1 ≤ 64)) = true
  rw [rules_lay, decide_eq_true (by have := rules_depth fam; omega)]
  rfl
theorem fam_dp {K : PySem.W.Frag} {H : Hp} {a : Addr} {ts rs : List Addr} {fam : List Rule} (e : H a = some (.lst (ts.map V.ref))) (r : RulesAt H ts rs fam) : Dp K H (.ref a) (famD fam) := .lst (SqL.of e) r.dp
end Fm
namespace Fm
open PySem PySem.Spec PyProof.Rows L2 Dr Xv LamX Ps Gn
theorem tup_put {H : Hp} {b D : Addr} {xs ys : List V} {o : HO} (hD : H D = some (.lst ys)) (e : H b = some (.tup xs)) : upd H D o b = some (.tup xs) := by
  rw [upd_ne (fun z => by rw [z, hD] at e; cases e)]
  exact e
theorem FamAt.put {H : Hp} {a D : Addr} {ys : List V} {o : HO} {fam : List Rule} (h : FamAt H a fam) (hD : H D = some (.lst ys)) (n : a ≠ D) : FamAt (upd H D o) a fam := by
  obtain ⟨ts, rs, e, r⟩ := h
  refine ⟨ts, rs, by rw [upd_ne n]; exact e, r.l1, r.l2, fun i t q f a b c => ?_⟩
  obtain ⟨g1, g2⟩ := r.at_ i t q f a b c
  exact ⟨tup_put hD g1, tup_put hD g2⟩
theorem FamAt.ne {H : Hp} {a D : Addr} {fam : List Rule} (h : FamAt H a fam) (n : H D = none) : a ≠ D := by
  obtain ⟨ts, rs, e, r⟩ := h
  exact ne_of_none e n
end Fm

set_option Elab.async false
set_option linter.all false
set_option maxRecDepth 100000
set_option maxHeartbeats 4000000
set_option pp.maxSteps 3000
/-! a law's own call with one table (lambdas), nothing guarded around (repr) -/
namespace Xv
open PySem PySem.Spec PyProof.Rows L2 LamX
/-- a def keeps its promise where nothing is guarded -/
def FnG (P : Program) (w : World) (K : PySem.W.Frag) (mg : Str → Option Value) (base : Heap) (k : Nat) (f : Addr) (fd : FuncData) (ps : List Str) (sp : Sp) : Prop :=
  ∀ (A : Around) (outer : List Env) (s : Shared) (H : Hp) (args : Args) (us : List Value) (vs : List V) (Q : VK) (E : XK), A.guards = some [] → Room k A → Env0 P w K mg base A outer s H → BindsTo s fd args (ps.zip us) → Vals vs us → sp vs H Q E → codeAny (model P w) A (.call (.ref f) args) (CR CX0 outer P w H s Q E) s
section
variable {P : Program} {w : World} {K : PySem.W.Frag} {mg : Str → Option Value} {base : Heap} {x qual : Str} {params : Arguments} {body : List Stmt} {scope : Scope} {dvs : List V} {kws : List (Str × V)} {f : Addr} {fd : FuncData}
theorem fnG_code {cdv : Value} {N ps : List Str} {k : Nat} {sp : Sp} (F : FunD K x qual params body scope dvs kws f fd) (hcv : fd.code = cdv) (S : FnScope N ps scope) (len : ∀ vs H Q E, sp vs H Q E → vs.length = ps.length)
    (hb : ∀ (A : Around) (outer : List Env) (s : Shared) (H : Hp) (vs : List V) (Q : VK) (E : XK), (A.deeper (envOfC qual scope s.heap.objs.size f cdv)).guards = some [] → Room k (A.deeper (envOfC qual scope s.heap.objs.size f cdv)) → sp vs H Q E →
      ∃ t, PSs (cxOf CX0 P w K mg base N qual scope f cdv A outer s H E) body t ∧ t { nx := fun _ H' => Q .non H', rt := Q } (start N vs) H) : FnG P w K mg base (k + 1) f fd ps sp := by
  intro A outer s H args us vs Q E hg hr e0 bi rv hsp
  obtain ⟨oc, od, dV, kV, doc, pm, an, cdv', ct, osl, rfl, lk, hcd, _, _⟩ := F.ex
  cases (show cdv' = cdv from hcv)
  have lv := len _ _ _ _ hsp
  have inK : K.In s.heap := e0.mod.kin.keeps fun b o z => (e0.bs b o z).1
  have noL : s.heap.NoLimit := e0.mod.nolimit.keeps fun b o z => (e0.bs b o z).1
  refine codeAny_call_function hr.depth (inK _ _ lk) rfl S.co S.gen rfl (PySem.W.codeRec_of inK hcd) (bi _ _ _ _ (wpAny_newFunctionEnv_cells S.kind (fun q hq => ?_) fun env he s1 c1 => ?_))
  · obtain ⟨n, v⟩ := q
    rcases S.par n (List.of_mem_zip hq).1 with z | z
    · exact .inl z
    · exact .inr ⟨z, PySem.W.cellsFrom_some _ _ _ (.inl z)⟩
  · subst he
    obtain ⟨t, ht, q⟩ := hb A outer s H vs Q E hg (hr.deeper _) hsp
    have I0 : Inv (cxOf CX0 P w K mg base N qual scope f cdv A outer s H E) [] (start N vs) H s1 := inv_start S hr.hd e0 lv rv c1
    refine ⟨noL.keeps c1.toInCall.keep, codeAny_func (wpAny_mono (ht.run [] s1 (start N vs) H _ I0 q) (fun fl s' z => ?_) fun e s' z => z)⟩
    have back : ∀ {τ : L2.St} {H' : Hp} {v : V} {u : Value}, Inv (cxOf CX0 P w K mg base N qual scope f cdv A outer s H E) [] τ H' s' → RelV v u → Q v H' → CE outer P w H s Q u s' := fun {τ H' v u} J r2 q2 => ⟨v, H', J.os, J.bare, J.base, J.hok, r2, q2⟩
    cases fl with
    | ret u =>
      obtain ⟨v, τ, H', J, r2, q2⟩ := z
      exact back J r2 q2
    | next =>
      obtain ⟨τ, H', J, q2⟩ := z
      exact back (v := V.non) (u := Value.none) J rfl q2
    | brk =>
      obtain ⟨_, _, _, q2⟩ := z
      exact q2.elim
    | cont =>
      obtain ⟨_, _, _, q2⟩ := z
      exact q2.elim
end
section
variable {P : Program} {w : World} {K : PySem.W.Frag} {mg mb : Str → Option Value} {k : Nat} {fa a c p : Addr} {fd : FuncData} {x : Str} {sp : Sp} {z : Shared} {us : List Value} {ns : List Int}
def tabO : Obj := { cls := .none, data := .fields #[] }
def scrO (us : List Value) : Obj := { cls := .type "list", data := .seq us.toArray }
/-- the table and the script (where it is not the module's own) -/
def HpG (K : PySem.W.Frag) (p a : Addr) (us : List Value) (ns : List Int) : Hp := fun b => if b = p then some (.tbl #[]) else if b = a then (match K.lookup a with
  | none => some (.frz (scrO us) (.lst (ns.map V.int)))
  | some _ => none) else none
theorem callTG (inK : K.In z.heap) (hm : z.heap.Ns mainGlobals mg) (hb : z.heap.Ns builtinsNs mb) (hbb : ∀ y : Str, y ≠ "__name__" → mb y = bootBuiltins y) (hlim : z.heap.NoLimit) (hg : z.gens = #[])
    (hp : z.heap.get? p = some tabO) (np : K.lookup p = none) (hc : PySem.W.codeHdIn K c p = true) (hbm : z.heap.BuiltinsAt mg p)
    (ha : z.heap.get? a = some (scrO us)) (hi : IntsAre us ns) (hl : ns.length ≤ sizeLine) (hr : Room k callerA) (F : ∀ base : Heap, K.In base → base.Ns mainGlobals mg → TabB base mg c p → FnG P w K mg base k fa fd [x] sp)
    (bi : ∀ (s : Shared) (u : Value), BindsTo s fd ⟨[u], []⟩ [(x, u)]) (hsp : ∀ H : Hp, H p = some (.tbl #[]) → SqL K H a (ns.map V.int) → sp [.ref a] H (fun v _ => v = .bl true) fun _ _ _ => False) :
    codeAny (model P w) callerA (.call (.ref fa) ⟨[.ref a], []⟩) (fun r s' => r = .ok (.ret (.bool true)) ∧ OldK z.heap s'.heap ∧ s'.os = z.os ∧ AllBare s'.gens) z := by
  have rv := vals_ints hi
  have apart : a ≠ p := fun e => by
    rw [e, hp] at ha
    cases ha
  obtain ⟨H, eH⟩ : ∃ H, H = HpG K p a us ns := ⟨_, rfl⟩
  have Hp1 : H p = some (.tbl #[]) := by rw [eH]; exact if_pos rfl
  have Hn : ∀ b, b ≠ p → b ≠ a → H b = none := fun b n1 n2 => by
    rw [eH]
    show (if b = p then _ else if b = a then _ else none) = none
    rw [if_neg n1, if_neg n2]
  have Ha : H a = match K.lookup a with
      | none => some (.frz (scrO us) (.lst (ns.map V.int)))
      | some _ => none := by
    rw [eH]
    show (if a = p then _ else if a = a then _ else none) = _
    rw [if_neg apart, if_pos rfl]
  have gone : ∀ {b : Addr} {o : Obj}, z.heap.get? b = some o → o ≠ tabO → o ≠ scrO us → H b = none := fun {b o} e n1 n2 => by
    refine Hn b (fun q => ?_) fun q => ?_
    · rw [q, hp] at e
      exact n1 (Option.some.inj e).symm
    · rw [q, ha] at e
      exact n2 (Option.some.inj e).symm
  have dict : ∀ {b : Addr} {o : Obj} {es : Array DictEntry} {ep : Nat}, z.heap.get? b = some o → o.data = .dict es ep → H b = none := fun {b o es ep} e d =>
    gone e (fun q => by rw [q] at d; cases d) fun q => by rw [q] at d; cases d
  have names : ∀ {b : Addr} {m : Str → Option Value}, z.heap.Ns b m → (hidT z.heap H).Ns b m := fun {b m} q => by
    obtain ⟨o, es, ep, e, d, r⟩ := q
    exact ⟨o, es, ep, hidT_get e (dict e d), d, r⟩
  have written : K.In (hidT z.heap H) := fun b o e => by
    refine hidT_get (inK b o e) ?_
    by_cases q : b = p
    · rw [q, np] at e
      cases e
    · by_cases q2 : b = a
      · rw [q2, Ha]
        rw [q2] at e
        rw [e]
      · exact Hn b q q2
  have sees : HOk P w H z.heap := fun b u q => by
    by_cases q1 : b = p
    · rw [q1, Hp1] at q
      cases q
      rw [q1]
      exact hp
    · by_cases q2 : b = a
      · rw [q2, Ha] at q
        rw [q2]
        cases hk : K.lookup a with
        | some o =>
          rw [hk] at q
          cases q
        | none =>
          rw [hk] at q
          cases q
          exact ⟨ha, by rw [List.length_map]; exact hl, us, _, rv, ha⟩
      · rw [Hn b q1 q2] at q
        cases q
  have seq : SqL K H a (ns.map V.int) := by
    cases hk : K.lookup a with
    | some o =>
      have e := inK a o hk
      rw [ha] at e
      cases e
      exact .inr ⟨_, us.toArray, _, hk, rfl, rfl, rfl, by rw [List.size_toArray, hi.length]; exact hl, by simpa using rv⟩
    | none =>
      rw [hk] at Ha
      exact .inl (.inr ⟨_, Ha⟩)
  have md : L2.Mod K mg (hidT z.heap H) := by
    obtain ⟨mc, q1, q2⟩ := hlim
    exact ⟨written, names hm, ⟨mb, names hb, hbb⟩, ⟨mc, names q1, q2⟩⟩
  have tb : TabB (hidT z.heap H) mg c p := by
    refine ⟨PySem.W.codeHd_of_K written hc, ?_, fun q => ?_⟩
    · obtain ⟨bm, o, h1, h2, h3, h4, h5, h6, h7, h8⟩ := hbm
      refine ⟨bm, o, h1, h2, h3, h4, hidT_get h5 (gone h5 (fun q => ?_) fun q => ?_), h6, h7, h8⟩
      · rw [q] at h6
        cases h6
      · rw [q] at h6
        have e : Value.type "list" = Value.type "module" := h6
        injection e with e
        exact absurd e (by decide)
    · obtain ⟨o, es, ep, e, d, _⟩ := hm
      rw [q, hp] at e
      cases e
      cases d
  have e0 : Env0 P w K mg (hidT z.heap H) callerA [] z H := ⟨rfl, md, fun b o e => of_hidT e, Nat.le_of_eq (hidT_size _ _), trivial, (fun b q => absurd (show b ∈ ([] : List Addr) from q) List.not_mem_nil), sees, .of_eq hg⟩
  refine codeAny_mono (F _ written (names hm) tb callerA [] z H ⟨[.ref a], []⟩ [.ref a] [.ref a] _ _ rfl hr e0 (bi z (.ref a)) (.cons rfl .nil) (hsp H Hp1 seq)) fun r s' h => ?_
  rcases r with e | fl
  · exact False.elim h
  · cases fl with
    | next => exact False.elim h
    | brk => exact False.elim h
    | cont => exact False.elim h
    | ret u =>
      obtain ⟨v, H', os, bare, un, ok', r', q⟩ := h
      cases (show v = .bl true from q)
      cases (show u = Value.bool true from r')
      have same : ∀ b o, b ≠ p → z.heap.get? b = some o → s'.heap.get? b = some o := fun b o nb e => by
        cases hH : H b with
        | none => exact un.keep b o e hH (fun q => absurd (show b ∈ ([] : List Addr) from q) List.not_mem_nil) (by simp)
        | some u =>
          by_cases q2 : b = a
          · subst q2
            rw [Ha] at hH
            cases hk : K.lookup b with
            | some o' =>
              rw [hk] at hH
              cases hH
            | none =>
              rw [hk] at hH Ha
              obtain ⟨g2, _⟩ := ok' b _ (un.frzs b _ _ Ha)
              rw [ha] at e
              cases e
              exact g2
          · rw [Hn b nb q2] at hH
            cases hH
      obtain ⟨more, hmore⟩ := un.tbls p #[] Hp1
      have tabN : s'.heap.get? p = some { cls := .none, data := .fields (#[] ++ more) } := ok' p _ hmore
      refine ⟨rfl, ⟨fun b o e => ?_, fun b o e => ?_⟩, os, bare⟩
      · by_cases q : b = p
        · subst q
          rw [hp] at e
          cases e
          exact .inr (.inl ⟨((PySem.W.codeHd_of_K inK hc).tab (ps := #[]) hp).isCodeTable, rfl, #[], more, rfl, tabN⟩)
        · exact .inl (same b o q e)
      · by_cases q : b = p
        · subst q
          exact ⟨_, tabN⟩
        · exact ⟨o, same b o q e⟩
end
/-- the law's own call, from a head's Hook -/
theorem walkTG {l : PySem.W.OpenLaw} {n k : Nat} {q : Program} {loose : List Str} {XP : (Str → Option Value) → Heap → Prop} {YP : World → Heap → Prop} {d : DefRec} {x : Str} (hn : l.most = some n) (hz : n ≤ sizeLine) (hdf : d.params.defaults = []) (hr : Room k callerA)
    (F : ∀ (w : World) (mg : Str → Option Value) (fa : Addr) (h : Heap), YP w h → h.Ns mainGlobals mg → mg d.name = some (.ref fa) → ∃ (K : PySem.W.Frag) (fd : FuncData) (c p : Addr) (sp : Sp), K.In h ∧ h.get? p = some tabO ∧ K.lookup p = none ∧ PySem.W.codeHdIn K c p = true ∧ (∀ (s : Shared) (u : Value), BindsTo s fd ⟨[u], []⟩ [(x, u)]) ∧
      (∀ (H : Hp) (a : Addr) (ns : List Int), ns.length ≤ n → H p = some (.tbl #[]) → SqL K H a (ns.map V.int) → sp [.ref a] H (fun v _ => v = .bl true) fun _ _ _ => False) ∧ ∀ base : Heap, K.In base → base.Ns mainGlobals mg → TabB base mg c p → FnG l.prog w K mg base k fa fd [x] sp) :
    PySem.W.WalkO q loose XP YP l.row.toRowW d [] (fun f vs => PySem.call f vs) := by
  refine Att.attach_callB hn hdf fun w s0 s1 mg mb fa o pm cd doc a vs ns G Y ho hd hcd hmg hobj hints hlen _ hg => ?_
  obtain ⟨K, fd, c, p, sp, inK, hp, np, hc, bi, hsp, hF⟩ := F w mg fa _ Y G.T.g hmg
  refine callTG inK G.T.g G.T.b G.T.builtins G.T.nolimit hg hp np hc ?_ hobj hints (Nat.le_trans hlen hz) hr hF bi fun H hT hS => hsp H a ns hlen hT hS
  obtain ⟨bm, ob, b1, b2, b3, b4, b5, b6⟩ := G.T.bmain
  refine ⟨bm, ob, b1, b2, fun q => ?_, fun q => ?_, b3, b4, b5, b6⟩
  · obtain ⟨o2, es, ep, e, d2, _⟩ := G.T.g
    rw [q, e] at b3
    cases b3
    rw [d2] at b6
    cases b6
  · rw [q, hp] at b3
    cases b3
    cases b6
end Xv
namespace Xv
open PySem PySem.Spec PyProof.Rows L2 LamX
/-- repr of a list of two truth values -/
def rRepB : List V → Hp → VK → Prop := fun xs H Q => ∃ (l : Addr) (b c : Bool), xs = [.ref l] ∧ H l = some (.lst [.bl b, .bl c]) ∧ Q (.str (PyData.list [.bool b, .bool c]).shown) H
theorem cr_repB {X : Cx} (hg : X.A.guards = some []) (hu : X.A.units + 65 < cLine) : CallR X (.builtin "repr") rRepB := by
  intro pins s σ H xs us Q I r h
  obtain ⟨l, b, c, rfl, hl, q⟩ := h
  obtain ⟨u, rfl, ru⟩ := r.one
  cases (show u = Value.ref l from ru)
  obtain ⟨its, rv, ⟨o, n, ho, hc, _, hd⟩, _⟩ := I.list (SqL.of (K := X.K) hl)
  cases rv with
  | @cons _ u1 _ us1 r1 rr =>
    cases rr with
    | @cons _ u2 _ us2 r2 rr2 =>
      cases rr2
      cases (show u1 = Value.bool b from r1)
      cases (show u2 = Value.bool c from r2)
      refine repr_of_reads' (h₀ := s.heap) (d := .list [.bool b, .bool c]) (Reads.list ho hc hd (.cons (.bool b) (.cons (.bool c) .nil))) (by cases b <;> cases c <;> rfl) (fun z => ?_) hg ?_ (fun _ _ e => e) (fun h' w tk k => ⟨.str _, H, I.kept (t' := tk) k, ⟨_, rfl⟩, q⟩) ?_
      · cases b <;> cases c <;> cases z
      · have e : (PyData.list [.bool b, .bool c]).depth = 1 := by cases b <;> cases c <;> rfl
        rw [e]
        omega
      · rw [sizeLine_eq]
        cases b <;> cases c <;> decide
end Xv

set_option Elab.async false
set_option linter.all false
set_option maxRecDepth 100000
set_option maxHeartbeats 4000000
set_option pp.maxSteps 3000
set_option exponentiation.threshold 2000
/-! repr of a tuple that holds a dict -/
namespace Xv
open PySem PySem.Spec PyProof.Rows L2 LamX
def kvP (l : List (Int × Int)) : List (PyData × PyData) := l.map fun p => (.int p.1, .int p.2)
def qD (l : List (Int × Int)) : PyData := .tuple [.int 1, .dict (kvP l), .tuple []]
def kvI (l : List (Int × Int)) : List (Key × V) := l.map fun p => (Sum.inl p.1, V.int p.2)
theorem kvI_reads {P : Program} {w : World} {h : Heap} : ∀ {l : List (Int × Int)} {vs : List (Key × Value)} {es : List DictEntry}, KV (kvI l) vs → Pairs (mixKind P w) es vs →
    ReadsAll h (es.map (·.key)) ((kvP l).map (·.1)) [] ∧ ReadsAll h (es.map (·.val)) ((kvP l).map (·.2)) []
  | [], vs, es, h1, h2 => by
    cases h1
    cases h2
    exact ⟨.nil, .nil⟩
  | p :: l, vs, es, h1, h2 => by
    cases h1 with
    | @cons _ q _ qs r rr =>
      cases h2 with
      | @cons e _ es' _ k1 k2 kr =>
        obtain ⟨i1, i2⟩ := kvI_reads (P := P) (w := w) (h := h) rr kr
        obtain ⟨r1, r2⟩ := r
        have k1' : keyIs q.1 e.key = true := k1
        rw [← r1] at k1'
        obtain ⟨t, et⟩ := Value.isInt_shape (k := p.1) (v := e.key) k1'
        have r2' : RelV (V.int p.2) q.2 := r2
        rw [← k2] at r2'
        obtain ⟨u, eu⟩ : ∃ u, e.val = Value.int p.2 u := r2'
        refine ⟨?_, ?_⟩
        · show ReadsAll h (e.key :: _) _ _
          rw [et]
          exact .cons (as := []) (.int _ _) i1
        · show ReadsAll h (e.val :: _) _ _
          rw [eu]
          exact .cons (as := []) (.int _ _) i2
theorem log_of {n : Nat} (h : n < 2 ^ 64) : n.log2 < 1920 := by
  by_cases c : n = 0
  · subst c
    decide
  · have := (Nat.log2_lt c).mpr h
    omega
theorem kvP_showable : ∀ {l : List (Int × Int)}, (∀ p ∈ l, p.1.natAbs < 2 ^ 64 ∧ p.2.natAbs < 2 ^ 64) → PyData.showableKv (kvP l) = true
  | [], _ => rfl
  | p :: l, h => by
    have i := kvP_showable (l := l) fun q hq => h q (List.mem_cons_of_mem _ hq)
    obtain ⟨h1, h2⟩ := h p List.mem_cons_self
    show (PyData.showable (.int p.1) && PyData.showable (.int p.2) && PyData.showableKv (kvP l)) = true
    rw [i]
    simp only [PyData.showable, decide_eq_true (log_of h1), decide_eq_true (log_of h2), Bool.and_self]
theorem kvP_depth : ∀ l : List (Int × Int), PyData.depthKv (kvP l) = 0
  | [] => rfl
  | p :: l => by
    show max (max (PyData.depth (.int p.1)) (PyData.depth (.int p.2))) (PyData.depthKv (kvP l)) = 0
    rw [kvP_depth l]
    simp [PyData.depth]
theorem kvP_piled : ∀ {l : List (Int × Int)}, (∀ p ∈ l, p.1.natAbs < 2 ^ 64 ∧ p.2.natAbs < 2 ^ 64) → piled (PyData.shownKv (kvP l)) ≤ 140 * l.length
  | [], _ => by decide
  | p :: l, h => by
    have i := kvP_piled (l := l) fun q hq => h q (List.mem_cons_of_mem _ hq)
    obtain ⟨h1, h2⟩ := h p List.mem_cons_self
    show piled ((PyData.shown (.int p.1) ++ ": " ++ PyData.shown (.int p.2)) :: PyData.shownKv (kvP l)) ≤ _
    rw [piled_cons, strLen_append, strLen_append]
    have g : ∀ a : Int, a.natAbs < 2 ^ 64 → (PyData.shown (.int a)).length ≤ 65 := fun a ha => by
      have e := int_text_length_le (a := a) (k := 64) (by decide) (by
        by_cases c : a.natAbs = 0
        · rw [c]
          decide
        · exact (Nat.log2_lt c).mpr ha)
      have e2 : (PyData.shown (.int a)) = Str.ofString (toString a) := rfl
      rw [e2, PySem.ofString_length]
      exact e
    have g1 := g _ h1
    have g2 := g _ h2
    have e2 : ((": " : String) : Str).length = 2 := rfl
    rw [e2, List.length_cons]
    omega
theorem dict_len {ps : List Str} : (dictText ps).length ≤ 2 + piled ps := by
  have e : (dictText ps).length = 1 + (Str.join ", " ps).length + 1 := by
    unfold dictText
    rw [strLen_append, strLen_append]
    rfl
  by_cases c : ps = []
  · subst c
    exact (by decide : (dictText []).length ≤ 2 + piled [])
  · have := join_length_add ps c
    omega
theorem tup_len {ps : List Str} : (tupleText ps).length ≤ 3 + piled ps := by
  have e : (tupleText ps).length ≤ 1 + (Str.join ", " ps).length + 2 := by
    unfold tupleText
    rw [strLen_append, strLen_append]
    refine Nat.add_le_add (Nat.le_refl _) ?_
    split
    · exact (by decide : ((",)" : String) : Str).length ≤ 2)
    · exact (by decide : ((")" : String) : Str).length ≤ 2)
  by_cases c : ps = []
  · subst c
    exact (by decide : (tupleText []).length ≤ 3 + piled [])
  · have := join_length_add ps c
    omega
theorem qD_len {l : List (Int × Int)} (h : ∀ p ∈ l, p.1.natAbs < 2 ^ 64 ∧ p.2.natAbs < 2 ^ 64) (hl : l.length ≤ 100) : (qD l).shown.length ≤ sizeLine := by
  have h1 := kvP_piled h
  have h2 := dict_len (ps := PyData.shownKv (kvP l))
  have h3 := tup_len (ps := [PyData.shown (.int 1), dictText (PyData.shownKv (kvP l)), tupleText []])
  rw [piled_cons, piled_cons, piled_cons, piled_nil] at h3
  have a1 : (PyData.shown (.int 1)).length ≤ 1 := by decide
  have a2 : (tupleText []).length ≤ 2 := by decide
  have e : (qD l).shown = tupleText [PyData.shown (.int 1), dictText (PyData.shownKv (kvP l)), tupleText []] := by
    unfold qD
    simp only [PyData.shown, PyData.shownAll]
  rw [e]
  refine Nat.le_trans h3 ?_
  have b : (16000 : Nat) ≤ sizeLine := by
    rw [sizeLine_eq]
    decide
  refine Nat.le_trans ?_ b
  generalize (PyData.shown (.int 1)).length = x1 at a1 ⊢
  generalize (tupleText []).length = x2 at a2 ⊢
  generalize (dictText (PyData.shownKv (kvP l))).length = x3 at h2 ⊢
  generalize piled (PyData.shownKv (kvP l)) = x4 at h1 h2
  omega
/-- repr of (1, {..}, ()) -/
def rRepQ : List V → Hp → VK → Prop := fun xs H Q => ∃ (t d e : Addr) (l : List (Int × Int)), xs = [.ref t] ∧ H t = some (.tup [.int 1, .ref d, .ref e]) ∧ H d = some (.dK (kvI l)) ∧ H e = some (.tup []) ∧ l.length ≤ 100 ∧ (∀ p ∈ l, p.1.natAbs < 2 ^ 64 ∧ p.2.natAbs < 2 ^ 64) ∧ Q (.str (qD l).shown) H
theorem cr_repQ {X : Cx} (hg : X.A.guards = some []) (hu : X.A.units + 65 < cLine) : CallR X (.builtin "repr") rRepQ := by
  intro pins s σ H xs us Q I r h
  obtain ⟨t, d, e, l, rfl, ht, hd, he, hl, hb, q⟩ := h
  obtain ⟨u, rfl, ru⟩ := r.one
  cases (show u = Value.ref t from ru)
  obtain ⟨its, rv, ⟨o, ho, hc, n, hs⟩, _⟩ := I.tuple (SqT.of (K := X.K) ht)
  obtain ⟨its2, rv2, ⟨o2, ho2, hc2, n2, hs2⟩, _⟩ := I.tuple (SqT.of (K := X.K) he)
  cases rv2
  obtain ⟨_, hsys, vs, kv, od, es, ep, hod, hex, hdd, _, hpr, _⟩ := I.hok _ _ hd
  cases rv with
  | @cons _ u1 _ us1 r1 rr =>
    cases rr with
    | @cons _ u2 _ us2 r2 rr2 =>
      cases rr2 with
      | @cons _ u3 _ us3 r3 rr3 =>
        cases rr3
        obtain ⟨t1, rfl⟩ : ∃ t1, u1 = Value.int 1 t1 := r1
        cases (show u2 = Value.ref d from r2)
        cases (show u3 = Value.ref e from r3)
        obtain ⟨k1, k2⟩ := kvI_reads (h := s.heap) kv hpr
        refine repr_of_reads' (h₀ := s.heap) (d := qD l) (Reads.tuple ho hc hs (.cons (.int _ _) (.cons (.dict hod hex.1 hdd k1 k2) (.cons (.tuple ho2 hc2 hs2 .nil) .nil)))) ?_ (fun _ => ?_) hg ?_ (fun _ _ e => e) (fun h' w tk k => ⟨.str _, H, I.kept (t' := tk) k, ⟨_, rfl⟩, q⟩) (qD_len hb hl)
        · unfold qD
          simp only [PyData.showable, PyData.showableAll, kvP_showable hb]
          decide
        · intro m
          have m2 : sysModules = d := by simpa using m
          rw [m2] at hsys
          simp at hsys
        · have e2 : (qD l).depth = 2 := by
            unfold qD
            simp only [PyData.depth, PyData.depthAll, kvP_depth]
            decide
          rw [e2]
          omega
end Xv
namespace Xv
open PySem PySem.Spec PyProof.Rows L2
/-- lcm of greater numbers -/
def rLcmW : List V → Hp → VK → Prop := fun vs H Q => ∃ a b : Nat, vs = [.int (a : Int), .int (b : Int)] ∧ a < 2 ^ 200 ∧ b < 2 ^ 200 ∧ Q (.int ((Nat.lcm a b : Nat) : Int)) H
theorem cr_lcmW {X : Cx} : CallR X (.builtin "math.lcm") rLcmW := by
  intro pins s σ H vs us Q I r h
  obtain ⟨a, b, rfl, ha, hb, q⟩ := h
  obtain ⟨t, u, rfl⟩ := Vals.int2 r
  have e : (((Nat.lcm 1 ((a : Int)).natAbs).lcm ((b : Int)).natAbs : Nat) : Int) = ((Nat.lcm a b : Nat) : Int) := by
    rw [Int.natAbs_natCast, Int.natAbs_natCast, Nat.lcm_one_left]
  have l1 : (max 1 ((a : Int)).natAbs).log2 ≤ 199 := PySem.W.mg_log (by
    rw [Int.natAbs_natCast]
    exact Nat.max_lt.mpr ⟨by decide, ha⟩)
  have l2 : (max ((a : Int)).natAbs ((b : Int)).natAbs).log2 ≤ 199 := PySem.W.mg_log (by
    rw [Int.natAbs_natCast, Int.natAbs_natCast]
    exact Nat.max_lt.mpr ⟨ha, hb⟩)
  have sz : ((((Nat.lcm 1 ((a : Int)).natAbs).lcm ((b : Int)).natAbs : Nat) : Int)).natAbs.log2 < bitsLine := by
    rw [e, Int.natAbs_natCast]
    have h1 : Nat.lcm a b ≤ a * b := Nat.div_le_self _ _
    have h2 : a * b ≤ 2 ^ 200 * 2 ^ 200 := Nat.mul_le_mul (Nat.le_of_lt ha) (Nat.le_of_lt hb)
    have h3 : Nat.lcm a b < 2 ^ 401 := by
      have : (2 : Nat) ^ 200 * 2 ^ 200 < 2 ^ 401 := by decide
      omega
    have h4 : (Nat.lcm a b).log2 < 401 := by
      by_cases z : Nat.lcm a b = 0
      · rw [z]
        decide
      · exact (Nat.log2_lt z).mpr h3
    have h5 : bitsLine = 134217728 := by decide
    omega
  refine call_function_meets PySem.W.MGF.kind_lcm PySem.W.MGF.plain_lcm PySem.W.MGF.entry_lcm (PySem.W.MGF.args_lcm _ _) (PySem.W.mg_run_lcm (a : Int) t (b : Int) u (by omega) (by omega) sz).meets ?_
  rw [e]
  exact ⟨.int _, H, I.tok _, ⟨_, rfl⟩, q⟩
end Xv

set_option Elab.async false
set_option linter.all false
set_option maxRecDepth 100000
set_option maxHeartbeats 4000000
/-! sums over divisors -/
namespace Ps
def sgm (n k : Nat) : Int := sm (fun i => if (i + 1) ∣ n then ((i + 1 : Nat) : Int) ^ k else 0) n
def rt (n : Nat) : Nat := PySem.Float64.isqrt n
/-- what d and its partner give -/
def pr1 (n k d : Nat) : Int := ((d : Nat) : Int) ^ k + (if d * d = n then 0 else ((n / d : Nat) : Int) ^ k)
def pvS (n k r : Nat) : Int := sm (fun i => if (i + 1) ∣ n then pr1 n k (i + 1) else 0) r
def DV (n k : Nat) : Int := pvS n k (rt n)
theorem rt_eq {n r : Nat} (h1 : r * r ≤ n) (h2 : n < (r + 1) * (r + 1)) : r = rt n := by
  have s := PySem.Float64.isqrt_spec n
  have s1 : rt n * rt n ≤ n := s.1
  have s2 : n < (rt n + 1) * (rt n + 1) := s.2
  have a : r < rt n + 1 := by
    refine Nat.lt_of_not_le fun z => ?_
    have := Nat.mul_le_mul z z
    omega
  have b : rt n < r + 1 := by
    refine Nat.lt_of_not_le fun z => ?_
    have := Nat.mul_le_mul z z
    omega
  omega
/-- the divisors to r -/
def sml (n : Nat) : Nat → List Int
  | 0 => []
  | r + 1 => sml n r ++ (if (r + 1) ∣ n then [((r + 1 : Nat) : Int)] else [])
theorem sml_len (n : Nat) : ∀ r, (sml n r).length ≤ r
  | 0 => Nat.le_refl _
  | r + 1 => by
    show (sml n r ++ _).length ≤ r + 1
    rw [List.length_append]
    have := sml_len n r
    split
    · simp; omega
    · simp; omega
theorem sml_mem (n : Nat) : ∀ r, ∀ z ∈ sml n r, ∃ d : Nat, z = (d : Int) ∧ 1 ≤ d ∧ d ≤ r ∧ d ∣ n
  | 0, z, h => by cases h
  | r + 1, z, h => by
    rcases List.mem_append.mp h with h | h
    · obtain ⟨d, e, a, b, c⟩ := sml_mem n r z h
      exact ⟨d, e, a, by omega, c⟩
    · split at h
      · rename_i c
        rw [List.mem_singleton.mp h]
        exact ⟨r + 1, rfl, by omega, by omega, c⟩
      · cases h
def lrgOf (n : Nat) (l : List Int) : List Int := (l.filter fun d => decide (d * d ≠ (n : Int))).map fun d => ((n : Int)).fdiv d
theorem pvS_sum (n k : Nat) : ∀ r, ((sml n r).map (· ^ k)).sum + ((lrgOf n (sml n r).reverse).map (· ^ k)).sum = pvS n k r
  | 0 => rfl
  | r + 1 => by
    have ih := pvS_sum n k r
    show (((sml n r ++ _)).map (· ^ k)).sum + ((lrgOf n (sml n r ++ _).reverse).map (· ^ k)).sum = pvS n k r + (if (r + 1) ∣ n then pr1 n k (r + 1) else 0)
    by_cases c : (r + 1) ∣ n
    · rw [if_pos c, if_pos c, List.map_append, List.sum_append, List.reverse_append]
      show _ + (((r + 1 : Nat) : Int) ^ k + 0) + ((lrgOf n ([((r + 1 : Nat) : Int)] ++ (sml n r).reverse)).map (· ^ k)).sum = _
      unfold lrgOf at ih ⊢
      rw [List.filter_append, List.map_append, List.map_append, List.sum_append]
      unfold pr1
      have key : (List.map (· ^ k) (List.map (fun d => ((n : Int)).fdiv d) (List.filter (fun d => decide (d * d ≠ (n : Int))) [((r + 1 : Nat) : Int)]))).sum = if (r + 1) * (r + 1) = n then 0 else ((n / (r + 1) : Nat) : Int) ^ k := by
        by_cases e : (r + 1) * (r + 1) = n
        · rw [if_pos e, List.filter_cons_of_neg (fun z => (of_decide_eq_true z) (by exact_mod_cast e))]
          rfl
        · rw [if_neg e, List.filter_cons_of_pos (by
            simp only [decide_eq_true_eq, ne_eq]
            exact_mod_cast e)]
          show (((n : Int)).fdiv ((r + 1 : Nat) : Int)) ^ k + 0 = _
          rw [Int.add_zero]
          congr 1
          rw [Int.fdiv_eq_ediv_of_nonneg _ (by omega)]
          exact (Int.natCast_ediv n (r + 1)).symm
      rw [key]
      omega
    · rw [if_neg c, if_neg c, List.append_nil]
      omega
theorem sgm_at (n k : Nat) {j : Nat} (h : n ≤ j) (hn : 1 ≤ n) : sm (fun i => ((i + 1 : Nat) : Int) ^ k * Ev (i + 1) n) j = sgm n k := by
  obtain ⟨t, rfl⟩ : ∃ t, j = n + t := ⟨j - n, by omega⟩
  have e : ∀ t, sm (fun i => ((i + 1 : Nat) : Int) ^ k * Ev (i + 1) n) (n + t) = sm (fun i => ((i + 1 : Nat) : Int) ^ k * Ev (i + 1) n) n := by
    intro t
    induction t with
    | zero => rfl
    | succ t ih =>
      show sm _ (n + t) + ((n + t + 1 : Nat) : Int) ^ k * Ev (n + t + 1) n = _
      have z : Ev (n + t + 1) n = 0 := by
        unfold Ev
        rw [if_neg]
        rintro ⟨_, d⟩
        have := Nat.le_of_dvd hn d
        omega
      rw [z, Int.mul_zero, Int.add_zero, ih]
  rw [e]
  unfold sgm
  refine sm_congr _ fun i hi => ?_
  unfold Ev
  by_cases c : (i + 1) ∣ n
  · rw [if_pos ⟨by omega, c⟩, if_pos c, Int.mul_one]
  · rw [if_neg (fun z => c z.2), if_neg c, Int.mul_zero]
def eS (c : Int) (e j : Nat) : S := fun n => one n + sm (fun i => c * ((i + 1 : Nat) : Int) ^ e * Ev (i + 1) n) j
def er (c : Int) (e : Nat) : S := fun n => if n = 0 then 1 else c * sgm n e
theorem eS_er (c : Int) (e m n : Nat) (h : n ≤ m) : eS c e m n = er c e n := by
  unfold eS er one
  have e1 : sm (fun i => c * ((i + 1 : Nat) : Int) ^ e * Ev (i + 1) n) m = c * sm (fun i => ((i + 1 : Nat) : Int) ^ e * Ev (i + 1) n) m := by
    rw [← sm_mul]
    exact sm_congr _ fun i _ => Int.mul_assoc _ _ _
  rw [e1]
  by_cases z : n = 0
  · subst z
    rw [if_pos rfl, if_pos rfl, sm_congr (g := fun _ => 0) m (fun i _ => by
      have : Ev (i + 1) 0 = 0 := by
        unfold Ev
        rw [if_neg (fun z => z.1 rfl)]
      rw [this, Int.mul_zero]), sm_zero, Int.mul_zero, Int.add_zero]
  · rw [if_neg z, if_neg z, sgm_at n e h (by omega), Int.zero_add]
end Ps

set_option Elab.async false
set_option linter.all false
set_option maxRecDepth 100000
set_option maxHeartbeats 4000000
/-! sparse factors and sums -/
namespace Ps
/-- one more at a place -/
def putS (b : S) (p : Nat) (c : Int) : S := fun n => if n = p then b n + c else b n
def pfS (b : S) (n : Nat) (sg : Int) : S := if sg = 1 then putS (putS b n 1) (2 * n) (-1) else putS b n sg
/-- times 1 + c q^e -/
def mulF (b : S) (e : Nat) (c : Int) : S := fun n => b n + (if e ≤ n then c * b (n - e) else 0)
/-- the exponent and the sign at k -/
def ex3 (m s : Nat) (k : Int) : Int := (m : Int) * k * (k - 1) / 2 + (s : Int) * k
def sg3 (sg : Int) (k : Int) : Int := if k % 2 = 1 then sg else 1
def tsm (m s : Nat) (sg lo : Int) (c : Nat) : S := fun n => sm (fun i => if ex3 m s (lo + i) = (n : Int) then sg3 sg (lo + i) else 0) c
/-- of the quintuple product -/
def md5 (m : Nat) (k : Int) : Int := (m : Int) * k * (3 * k + 1) / 2
def ea5 (m s : Nat) (k : Int) : Int := md5 m k - 3 * k * (s : Int)
def eb5 (m s : Nat) (k : Int) : Int := md5 m k + (3 * k + 1) * (s : Int)
def qsm (m s : Nat) (lo : Int) (c : Nat) : S := fun n => sm (fun i => (if ea5 m s (lo + i) = (n : Int) then 1 else 0) + (if eb5 m s (lo + i) = (n : Int) then -1 else 0)) c
theorem sq_nn (k : Int) : 0 ≤ k * k := by
  rcases Int.le_total 0 k with h | h
  · exact Int.mul_nonneg h h
  · exact Int.mul_nonneg_of_nonpos_of_nonpos h h
/-- (k + a) (k + a + 1) is even and not below 0 -/
theorem two_on (k : Int) : ∃ t, k * (k + 1) = 2 * t ∧ 0 ≤ t := by
  have nn : 0 ≤ k * (k + 1) := by
    rcases Int.lt_or_le k 0 with h | h
    · exact Int.mul_nonneg_of_nonpos_of_nonpos (by omega) (by omega)
    · exact Int.mul_nonneg h (by omega)
  rcases (show k % 2 = 0 ∨ k % 2 = 1 by omega) with h | h
  · refine ⟨k / 2 * (k + 1), ?_, ?_⟩
    · have e : k = 2 * (k / 2) := by omega
      rw [← Int.mul_assoc, ← e]
    · have e : k * (k + 1) = 2 * (k / 2 * (k + 1)) := by
        have e : k = 2 * (k / 2) := by omega
        rw [← Int.mul_assoc, ← e]
      omega
  · have e2 : k + 1 = 2 * ((k + 1) / 2) := by omega
    have e : k * (k + 1) = 2 * (k * ((k + 1) / 2)) := by
      rw [Int.mul_left_comm, ← e2]
    exact ⟨k * ((k + 1) / 2), e, by omega⟩
theorem ex3_eq (m s : Nat) (k t : Int) (h : (k - 1) * (k - 1 + 1) = 2 * t) : ex3 m s k = (m : Int) * t + (s : Int) * k := by
  unfold ex3
  have e : (m : Int) * k * (k - 1) = 2 * ((m : Int) * t) := by
    have e1 : k - 1 + 1 = k := by omega
    rw [e1] at h
    rw [Int.mul_assoc, Int.mul_comm k (k - 1), h, Int.mul_left_comm]
  rw [e, Int.mul_ediv_cancel_left _ (by decide)]
theorem ex3_sq {m s : Nat} (h1 : 1 ≤ s) (h2 : s < m) (k : Int) : k * k ≤ ex3 m s k := by
  obtain ⟨t, e, t0⟩ := two_on (k - 1)
  obtain ⟨u, e2, u0⟩ := two_on k
  rw [ex3_eq m s k t e]
  have e1 : k - 1 + 1 = k := by omega
  rw [e1] at e
  have ek : k * k = 2 * t + k := by
    have : (k - 1) * k = k * k - k := by rw [Int.sub_mul, Int.one_mul]
    omega
  have eu : u = t + k := by
    have : k * (k + 1) = k * k + k := by rw [Int.mul_add, Int.mul_one]
    omega
  obtain ⟨r, rfl⟩ : ∃ r, m = s + r := ⟨m - s, by omega⟩
  have a1 : ((s + r : Nat) : Int) * t + (s : Int) * k = (s : Int) * u + (r : Int) * t := by
    rw [eu]
    push_cast
    rw [Int.add_mul, Int.mul_add]
    omega
  rw [a1]
  have b1 : 1 * u ≤ (s : Int) * u := Int.mul_le_mul_of_nonneg_right (by omega) u0
  have b2 : 1 * t ≤ (r : Int) * t := Int.mul_le_mul_of_nonneg_right (by omega) t0
  omega
theorem md5_eq (m : Nat) (k u : Int) (h : k * (3 * k + 1) = 2 * u) : md5 m k = (m : Int) * u := by
  unfold md5
  have e : (m : Int) * k * (3 * k + 1) = 2 * ((m : Int) * u) := by rw [Int.mul_assoc, h, Int.mul_left_comm]
  rw [e, Int.mul_ediv_cancel_left _ (by decide)]
/-- k (3 k + 1) is twice u -/
theorem pent (k : Int) : ∃ u, k * (3 * k + 1) = 2 * u ∧ 0 ≤ u ∧ 2 * u = 3 * (k * k) + k := by
  obtain ⟨t, e, t0⟩ := two_on k
  have q := sq_nn k
  have e1 : k * (k + 1) = k * k + k := by rw [Int.mul_add, Int.mul_one]
  have e2 : k * (3 * k + 1) = 3 * (k * k) + k := by rw [Int.mul_add, Int.mul_one, Int.mul_left_comm]
  refine ⟨t + k * k, ?_, by omega, by omega⟩
  rw [e2]
  omega
theorem ea5_sq {m s : Nat} (h1 : 1 ≤ s) (h2 : 2 * s < m) (k : Int) : k * k ≤ ea5 m s k := by
  obtain ⟨u, e, u0, eu⟩ := pent k
  unfold ea5
  rw [md5_eq m k u e]
  obtain ⟨r, rfl⟩ : ∃ r, m = 2 * s + 1 + r := ⟨m - 2 * s - 1, by omega⟩
  have q := sq_nn k
  -- 3 k k - 2 k is not below 0
  have n1 : k ≤ k * k := by
    rcases Int.lt_or_le k 1 with h | h
    · omega
    · have := Int.mul_le_mul_of_nonneg_right h (show (0 : Int) ≤ k by omega)
      omega
  have a1 : ((2 * s + 1 + r : Nat) : Int) * u - 3 * k * (s : Int) = (s : Int) * (2 * u - 3 * k) + u + (r : Int) * u := by
    push_cast
    rw [Int.add_mul, Int.add_mul, Int.mul_sub, Int.one_mul, Int.mul_comm (3 * k) (s : Int), Int.mul_comm 2 (s : Int), Int.mul_assoc]
    omega
  rw [a1]
  have b1 : 1 * (2 * u - 3 * k) ≤ (s : Int) * (2 * u - 3 * k) := Int.mul_le_mul_of_nonneg_right (by omega) (by omega)
  have b2 : 0 ≤ (r : Int) * u := Int.mul_nonneg (by omega) u0
  omega
theorem eb5_sq {m s : Nat} (h1 : 1 ≤ s) (h2 : 2 * s < m) (k : Int) : k * k ≤ eb5 m s k := by
  obtain ⟨u, e, u0, eu⟩ := pent k
  unfold eb5
  rw [md5_eq m k u e]
  obtain ⟨r, rfl⟩ : ∃ r, m = 2 * s + 1 + r := ⟨m - 2 * s - 1, by omega⟩
  have q := sq_nn k
  have n1 : -k ≤ k * k := by
    rcases Int.lt_or_le (-k) 1 with h | h
    · omega
    · have := Int.mul_le_mul_of_nonneg_right h (show (0 : Int) ≤ -k by omega)
      have e : -k * -k = k * k := Int.neg_mul_neg k k
      omega
  -- (3 k + 1) (k + 1) is not below 0
  have n2 : 0 ≤ 3 * (k * k) + 4 * k + 1 := by
    rcases Int.lt_or_le k 0 with h | h
    · rcases Int.lt_or_le k (-1) with h3 | h3
      · have := Int.mul_le_mul_of_nonneg_right (show (2 : Int) ≤ -k by omega) (show (0 : Int) ≤ -k by omega)
        have e : -k * -k = k * k := Int.neg_mul_neg k k
        omega
      · have : k = -1 := by omega
        subst this
        decide
    · omega
  have a1 : ((2 * s + 1 + r : Nat) : Int) * u + (3 * k + 1) * (s : Int) = (s : Int) * (2 * u + (3 * k + 1)) + u + (r : Int) * u := by
    push_cast
    rw [Int.add_mul, Int.add_mul, Int.mul_add, Int.one_mul, Int.mul_comm (3 * k + 1) (s : Int), Int.mul_comm 2 (s : Int), Int.mul_assoc]
    omega
  rw [a1]
  have b1 : 1 * (2 * u + (3 * k + 1)) ≤ (s : Int) * (2 * u + (3 * k + 1)) := Int.mul_le_mul_of_nonneg_right (by omega) (by omega)
  have b2 : 0 ≤ (r : Int) * u := Int.mul_nonneg (by omega) u0
  rcases Int.lt_or_le k 0 with h | h
  · rcases Int.lt_or_le k (-1) with h3 | h3
    · have := Int.mul_le_mul_of_nonneg_right (show (2 : Int) ≤ -k by omega) (show (0 : Int) ≤ -k by omega)
      have e : -k * -k = k * k := Int.neg_mul_neg k k
      omega
    · have : k = -1 := by omega
      subst this
      omega
  · omega
/-- sums from -R to R: those beyond are 0 -/
theorem sm_wide (f : Int → Int) (R : Nat) : ∀ d, (∀ k : Int, (R : Int) < k ∨ k < -(R : Int) → f k = 0) → sm (fun i => f (-((R + d : Nat) : Int) + i)) (2 * (R + d) + 1) = sm (fun i => f (-(R : Int) + i)) (2 * R + 1)
  | 0, _ => rfl
  | d + 1, h => by
    rw [← sm_wide f R d h]
    have e1 : 2 * (R + (d + 1)) + 1 = (2 * (R + d) + 1 + 1) + 1 := by omega
    rw [e1, sm_first]
    show f _ + (sm _ (2 * (R + d) + 1) + f _) = _
    rw [h _ (.inr (by omega)), h _ (.inl (by omega)), Int.zero_add, Int.add_zero]
    refine sm_congr _ fun i _ => congrArg f ?_
    omega
end Ps

set_option Elab.async false
set_option linter.all false
set_option maxRecDepth 100000
set_option maxHeartbeats 4000000
/-! products of factors 1 - q^e, 1 + q^e, by their exponents -/
namespace Ps
theorem GU {n : Nat} (hn : 0 < n) (f : S) : cv (G n) (cv (U n) f) = f := by rw [← cv_assoc, cv_comm (G n), UG hn, one_cv]
theorem mulF_neg {e : Nat} (h : 0 < e) (f : S) : mulF f e (-1) = cv (U e) f := by
  rw [cv_U h]
  funext k
  show f k + (if e ≤ k then -1 * f (k - e) else 0) = f k - (if e ≤ k then f (k - e) else 0)
  split <;> omega
theorem mulF_pos {e : Nat} (h : 0 < e) (f : S) : mulF f e 1 = cv (U (2 * e)) (cv (G e) f) := by
  refine cancelU h ?_
  have e1 : cv (U e) (cv (U (2 * e)) (cv (G e) f)) = cv (U (2 * e)) f := by
    rw [← cv_assoc, cv_comm (U e) (U (2 * e)), cv_assoc, ← cv_assoc (U e) (G e), UG h, one_cv]
  rw [e1, cv_U h, cv_U (by omega)]
  funext k
  show f k + (if e ≤ k then 1 * f (k - e) else 0) - (if e ≤ k then f (k - e) + (if e ≤ k - e then 1 * f (k - e - e) else 0) else 0) = f k - (if 2 * e ≤ k then f (k - 2 * e) else 0)
  by_cases c : e ≤ k
  · rw [if_pos c, if_pos c]
    by_cases d : 2 * e ≤ k
    · have ek : k - e - e = k - 2 * e := by omega
      rw [if_pos d, if_pos (by omega), ek]
      omega
    · rw [if_neg d, if_neg (by omega)]
      omega
  · rw [if_neg c, if_neg c, if_neg (by omega)]
    omega
def shf (b : S) : S := fun i => b (i + 1)
theorem sS_congr' {p p' : S} : ∀ j, (∀ i, i < j → p i = p' i) → sS p j = sS p' j
  | 0, _ => rfl
  | j + 1, h => by
    show ad (sS p j) (sc (((j + 1 : Nat) : Int) * p j) (Ev (j + 1))) = ad (sS p' j) (sc (((j + 1 : Nat) : Int) * p' j) (Ev (j + 1)))
    rw [sS_congr' j (fun i hi => h i (by omega)), h j (by omega)]
theorem put_far {b : S} {e M : Nat} {c : Int} (h : M < e) : sS (shf (putS b e c)) M = sS (shf b) M := sS_congr' M fun i hi => by
  show (if i + 1 = e then _ else b (i + 1)) = b (i + 1)
  rw [if_neg (by omega)]
theorem put_near {b : S} {e : Nat} {c : Int} (h0 : 0 < e) : ∀ M, e ≤ M → sS (shf (putS b e c)) M = ad (sS (shf b) M) (sc ((e : Int) * c) (Ev e))
  | 0, h => absurd h (by omega)
  | j + 1, h => by
    show ad (sS (shf (putS b e c)) j) (sc (((j + 1 : Nat) : Int) * (if j + 1 = e then b (j + 1) + c else b (j + 1))) (Ev (j + 1))) = ad (ad (sS (shf b) j) (sc (((j + 1 : Nat) : Int) * b (j + 1)) (Ev (j + 1)))) (sc ((e : Int) * c) (Ev e))
    by_cases q : j + 1 = e
    · subst q
      rw [put_far (by omega), if_pos rfl]
      funext k
      show _ + _ * _ = _ + _ * _ + _ * _
      rw [Int.mul_add, Int.add_mul]
      omega
    · rw [put_near h0 j (by omega), if_neg q]
      funext k
      show _ + _ + _ = _ + _ + _
      omega
/-- the powers b (up to M) make up the product A (up to M) -/
def PI (M : Nat) (b A : S) : Prop := ∃ A', Lg (sS (shf b) M) A' ∧ A' 0 = 1 ∧ ∀ n, n ≤ M → A' n = A n
theorem mulF_far {A : S} {e n : Nat} {c : Int} (h : n < e) : mulF A e c n = A n := by
  show A n + (if e ≤ n then _ else 0) = A n
  rw [if_neg (by omega), Int.add_zero]
theorem mulF_congr {A A' : S} {e M : Nat} {c : Int} (h : ∀ n, n ≤ M → A' n = A n) : ∀ n, n ≤ M → mulF A' e c n = mulF A e c n := fun n hn => by
  show A' n + (if e ≤ n then c * A' (n - e) else 0) = A n + (if e ≤ n then c * A (n - e) else 0)
  rw [h n hn, h (n - e) (by omega)]
theorem mulF_zero {A : S} {e : Nat} {c : Int} (h : 0 < e) : mulF A e c 0 = A 0 := mulF_far h
theorem PI.start (M : Nat) : PI M (fun _ => 0) one := by
  refine ⟨one, ?_, rfl, fun _ _ => rfl⟩
  have e : ∀ j, sS (shf fun _ => (0 : Int)) j = fun _ => 0 := fun j => by
    induction j with
    | zero => rfl
    | succ j ih =>
      show ad (sS (shf fun _ => (0 : Int)) j) (sc (((j + 1 : Nat) : Int) * 0) (Ev (j + 1))) = _
      rw [ih]
      funext k
      show 0 + ((j + 1 : Nat) : Int) * 0 * _ = 0
      rw [Int.mul_zero, Int.zero_mul]
      rfl
  rw [e]
  exact Lg.one
theorem PI.neg {M e : Nat} {b A : S} (p : PI M b A) (h : 0 < e) : PI M (pfS b e (-1)) (mulF A e (-1)) := by
  obtain ⟨A', L, z, a⟩ := p
  have ep : pfS b e (-1) = putS b e (-1) := by
    unfold pfS
    rw [if_neg (by decide)]
  rw [ep]
  by_cases c : e ≤ M
  · refine ⟨mulF A' e (-1), ?_, by rw [mulF_zero h, z], mulF_congr a⟩
    rw [mulF_neg h, put_near h M c]
    have e1 : (e : Int) * -1 = -(e : Int) := by omega
    rw [e1]
    exact L.neg h
  · exact ⟨A', by rw [put_far (by omega)]; exact L, z, fun n hn => by rw [mulF_far (by omega), a n hn]⟩
theorem PI.pos {M e : Nat} {b A : S} (p : PI M b A) (h : 0 < e) : PI M (pfS b e 1) (mulF A e 1) := by
  obtain ⟨A', L, z, a⟩ := p
  have ep : pfS b e 1 = putS (putS b e 1) (2 * e) (-1) := by
    unfold pfS
    rw [if_pos rfl]
  rw [ep]
  by_cases c : e ≤ M
  · have L1 : Lg (sS (shf (putS b e 1)) M) (cv (G e) A') := by
      rw [put_near h M c, Int.mul_one]
      exact L.pos h
    by_cases d : 2 * e ≤ M
    · refine ⟨mulF A' e 1, ?_, by rw [mulF_zero h, z], mulF_congr a⟩
      rw [mulF_pos h, put_near (by omega) M d]
      have e1 : ((2 * e : Nat) : Int) * -1 = -((2 * e : Nat) : Int) := by omega
      rw [e1]
      exact L1.neg (by omega)
    · have e2 : ∀ n, n ≤ M → cv (G e) A' n = mulF A' e 1 n := fun n hn => by
        rw [mulF_pos h, cv_U (by omega)]
        show _ = cv (G e) A' n - (if 2 * e ≤ n then _ else 0)
        rw [if_neg (by omega), Int.sub_zero]
      refine ⟨cv (G e) A', by rw [put_far (by omega)]; exact L1, ?_, fun n hn => ?_⟩
      · rw [e2 0 (Nat.zero_le _), mulF_zero h, z]
      · rw [e2 n hn, mulF_congr a n hn]
  · refine ⟨A', ?_, z, fun n hn => by rw [mulF_far (by omega), a n hn]⟩
    rw [put_far (by omega), put_far (by omega)]
    exact L
theorem PI.sg {M e : Nat} {b A : S} {sg : Int} (p : PI M b A) (h : 0 < e) (hs : sg = 1 ∨ sg = -1) : PI M (pfS b e sg) (mulF A e sg) := by
  rcases hs with rfl | rfl
  · exact p.pos h
  · exact p.neg h
theorem PI.row {M : Nat} {b A : S} (p : PI M b A) {q : S} (hq : ∀ i, i < M → q i = b (i + 1)) : ∀ n, n ≤ M → prA q M n = A n := by
  obtain ⟨A', L, z, a⟩ := p
  have e : sS (shf b) M = sS q M := sS_congr' M fun i hi => (hq i hi).symm
  rw [e] at L
  intro n hn
  rw [← a n hn]
  refine lg_uniq (lg_prA q M) (b := A') (N := M) (by rw [prA_zero, z]) (fun n _ => ?_) n hn
  exact L.at_ (n + 1)
/-- sizes -/
theorem put_le {b : S} {e c : Nat} {s : Int} (h : ∀ n, (b n).natAbs ≤ c) (hs : s.natAbs ≤ 1) (n : Nat) : (putS b e s n).natAbs ≤ c + 1 := by
  have := h n
  show (if n = e then b n + s else b n).natAbs ≤ _
  split <;> omega
theorem pf_le {b : S} {e c : Nat} {s : Int} (h : ∀ n, (b n).natAbs ≤ c) (hs : s = 1 ∨ s = -1) (n : Nat) : (pfS b e s n).natAbs ≤ c + 2 := by
  unfold pfS
  split
  · exact put_le (put_le h (by decide)) (by decide) n
  · have := put_le (e := e) (s := s) h (by omega) n
    omega
/-- the first factors of a family -/
def famF (b : S) (e st : Nat) (sg : Int) : Nat → S
  | 0 => b
  | j + 1 => mulF (famF b e st sg j) (e + j * st) sg
/-- by families (exponent, step, sign), each with c e st factors -/
def prF (c : Nat → Nat → Nat) (fs : List (Nat × Nat × Int)) : Nat → S
  | 0 => one
  | i + 1 => famF (prF c fs i) (fs.getD i (1, 1, 1)).1 (fs.getD i (1, 1, 1)).2.1 (fs.getD i (1, 1, 1)).2.2 (c (fs.getD i (1, 1, 1)).1 (fs.getD i (1, 1, 1)).2.1)
end Ps

set_option Elab.async false
set_option linter.all false
set_option maxRecDepth 100000
set_option maxHeartbeats 4000000
/-! partitions: all of them, what mirrors one -/
namespace Pt
/-- all partitions of n with no part above g, descending; f bounds the depth -/
def pw : Nat → Nat → Nat → List (List Int)
  | 0, _, _ => []
  | f + 1, n, g => if n = 0 then [[]] else ((List.range (min n g)).map fun i => (pw f (n - (min n g - i)) (min n g - i)).map fun r => (((min n g - i : Nat) : Int)) :: r).flatten
/-- the first j turns of the loop -/
def pwJ (f n g j : Nat) : List (List Int) := ((List.range j).map fun i => (pw f (n - (min n g - i)) (min n g - i)).map fun r => (((min n g - i : Nat) : Int)) :: r).flatten
theorem pwJ_zero (f n g : Nat) : pwJ f n g 0 = [] := rfl
theorem pwJ_succ (f n g j : Nat) : pwJ f n g (j + 1) = pwJ f n g j ++ (pw f (n - (min n g - j)) (min n g - j)).map fun r => (((min n g - j : Nat) : Int)) :: r := by
  unfold pwJ
  rw [List.range_succ, List.map_append, List.flatten_append]
  simp
theorem pw_zero (f g : Nat) : pw (f + 1) 0 g = [[]] := by
  unfold pw
  rw [if_pos rfl]
theorem pw_pos {f n g : Nat} (h : n ≠ 0) : pw (f + 1) n g = pwJ f n g (min n g) := by
  conv => lhs; unfold pw
  rw [if_neg h]
  rfl
def desc : List Int → Bool
  | [] => true
  | x :: r => (match r with | [] => true | y :: _ => decide (y ≤ x)) && desc r
def small (ns : List Int) (lo hi : Int) : Bool := ns.all fun x => decide (lo ≤ x) && decide (x ≤ hi)
/-- one of the partitions told -/
structure Good (ns : List Int) (n g : Nat) : Prop where
  ds : ns.Pairwise (fun x y => y ≤ x)
  lo : ∀ x ∈ ns, 1 ≤ x
  hi : ∀ x ∈ ns, x ≤ g
  hn : ∀ x ∈ ns, x ≤ n
  ln : ns.length ≤ n
theorem pw_good : ∀ (f n g : Nat) (ns : List Int), ns ∈ pw f n g → Good ns n g
  | 0, n, g, ns, h => by cases h
  | f + 1, n, g, ns, h => by
    by_cases z : n = 0
    · subst z
      rw [pw_zero] at h
      rw [List.mem_singleton.mp h]
      exact ⟨.nil, (fun x h => by cases h), (fun x h => by cases h), (fun x h => by cases h), Nat.zero_le _⟩
    · rw [pw_pos z] at h
      unfold pwJ at h
      obtain ⟨l, hl, hns⟩ := List.mem_flatten.mp h
      obtain ⟨i, hi, rfl⟩ := List.mem_map.mp hl
      obtain ⟨r, hr, rfl⟩ := List.mem_map.mp hns
      have hi' := List.mem_range.mp hi
      have G := pw_good f _ _ r hr
      obtain ⟨a, ea⟩ : ∃ a, a = min n g - i := ⟨_, rfl⟩
      rw [← ea] at G ⊢
      have a1 : 1 ≤ a := by omega
      have a2 : a ≤ n := by omega
      have a3 : a ≤ g := by omega
      refine ⟨List.pairwise_cons.mpr ⟨fun x hx => G.hi x hx, G.ds⟩, ?_, ?_, ?_, ?_⟩
      · intro x hx
        rcases List.mem_cons.mp hx with rfl | hx
        · omega
        · exact G.lo x hx
      · intro x hx
        rcases List.mem_cons.mp hx with rfl | hx
        · omega
        · have := G.hi x hx
          omega
      · intro x hx
        rcases List.mem_cons.mp hx with rfl | hx
        · omega
        · have := G.hi x hx
          omega
      · rw [List.length_cons]
        have := G.ln
        omega
/-! what mirrors one -/
def cnt (ns : List Int) (k : Int) : Nat := (ns.filter fun x => decide (k ≤ x)).length
def mir (ns : List Int) (top : Nat) : List Int := (List.range top).map fun k : Nat => ((cnt ns ((k : Int) + 1) : Nat) : Int)
theorem mir_len (ns : List Int) (top : Nat) : (mir ns top).length = top := by
  unfold mir
  rw [List.length_map, List.length_range]
theorem cnt_cons (x : Int) (r : List Int) (k : Int) : cnt (x :: r) k = (if k ≤ x then 1 else 0) + cnt r k := by
  unfold cnt
  by_cases h : k ≤ x
  · rw [List.filter_cons_of_pos (by simpa using h), if_pos h, List.length_cons]
    omega
  · rw [List.filter_cons_of_neg (by simpa using h), if_neg h, Nat.zero_add]
theorem cnt_zero {ns : List Int} {k : Int} (h : ∀ x ∈ ns, x < k) : cnt ns k = 0 := by
  unfold cnt
  rw [List.filter_eq_nil_iff.mpr (fun x hx => by
    have := h x hx
    simp
    omega)]
  rfl
theorem cnt_all {ns : List Int} {k : Int} (h : ∀ x ∈ ns, k ≤ x) : cnt ns k = ns.length := by
  unfold cnt
  rw [List.filter_eq_self.mpr (fun x hx => by simpa using h x hx)]
theorem cnt_le (ns : List Int) (k : Int) : cnt ns k ≤ ns.length := List.length_filter_le _ _
theorem cnt_mono (ns : List Int) {j k : Int} (h : j ≤ k) : cnt ns k ≤ cnt ns j := by
  induction ns with
  | nil => exact Nat.le_refl _
  | cons x r ih =>
    rw [cnt_cons, cnt_cons]
    split <;> split <;> omega
/-- the i-th part is k or more exactly if more than i are -/
theorem cnt_ix : ∀ (ns : List Int) (i : Nat) (k x : Int), ns.Pairwise (fun x y => y ≤ x) → ns[i]? = some x → (i < cnt ns k ↔ k ≤ x)
  | [], i, k, x, _, h => by cases h
  | y :: r, i, k, x, hp, h => by
    obtain ⟨h1, h2⟩ := List.pairwise_cons.mp hp
    rw [cnt_cons]
    cases i with
    | zero =>
      cases h
      by_cases z : k ≤ y
      · rw [if_pos z]
        exact ⟨fun _ => z, fun _ => by omega⟩
      · rw [if_neg z, cnt_zero (fun x hx => by have := h1 x hx; omega)]
        exact ⟨fun h => absurd h (by omega), fun h => absurd h z⟩
    | succ i =>
      have h' : r[i]? = some x := h
      have ih := cnt_ix r i k x h2 h'
      have hx := h1 x (List.mem_of_getElem? h')
      by_cases z : k ≤ y
      · rw [if_pos z]
        constructor
        · intro q
          exact ih.mp (by omega)
        · intro q
          have := ih.mpr q
          omega
      · rw [if_neg z, cnt_zero (fun x hx => by have := h1 x hx; omega)]
        constructor
        · intro q
          omega
        · intro q
          omega
theorem cnt_range (x : Nat) : ∀ top : Nat, ((List.range top).filter fun k => decide (k < x)).length = min top x
  | 0 => by simp
  | t + 1 => by
    rw [List.range_succ, List.filter_append, List.length_append, cnt_range x t]
    by_cases h : t < x
    · rw [List.filter_cons_of_pos (by simpa using h)]
      simp
      omega
    · rw [List.filter_cons_of_neg (by simpa using h)]
      simp
      omega
/-- a partition: its parts descend and are positive, the first one is the greatest -/
structure Par (ns : List Int) (top : Nat) : Prop where
  ds : ns.Pairwise (fun x y => y ≤ x)
  lo : ∀ x ∈ ns, 1 ≤ x
  hi : ∀ x ∈ ns, x ≤ (top : Int)
  hd : (top : Int) = ns.headD 0
theorem Par.pos {ns : List Int} {top : Nat} (h : Par ns top) (t : top ≠ 0) : ns ≠ [] := fun z => by
  have := h.hd
  rw [z] at this
  have e : (top : Int) = 0 := this
  omega
/-- mirrored twice is itself -/
theorem mir_mir {ns : List Int} {top : Nat} (h : Par ns top) : mir (mir ns top) ns.length = ns := by
  refine List.ext_getElem? fun i => ?_
  by_cases hi : i < ns.length
  · obtain ⟨x, hx⟩ : ∃ x, ns[i]? = some x := ⟨ns[i], by simp [hi]⟩
    have hm := List.mem_of_getElem? hx
    have x1 := h.lo x hm
    have x2 := h.hi x hm
    obtain ⟨m, rfl⟩ : ∃ m : Nat, x = (m : Int) := ⟨x.toNat, by omega⟩
    have e : (mir (mir ns top) ns.length)[i]? = some ((cnt (mir ns top) ((i : Int) + 1) : Nat) : Int) := by
      unfold mir
      rw [List.getElem?_map, List.getElem?_range hi]
      rfl
    rw [e, hx]
    have e2 : cnt (mir ns top) ((i : Int) + 1) = m := by
      unfold cnt mir
      rw [List.filter_map, List.length_map]
      have e3 : (List.range top).filter ((fun x : Int => decide ((i : Int) + 1 ≤ x)) ∘ fun k : Nat => ((cnt ns ((k : Int) + 1) : Nat) : Int)) = (List.range top).filter fun k => decide (k < m) := by
        refine List.filter_congr fun k _ => ?_
        have z := cnt_ix ns i ((k : Int) + 1) m h.ds hx
        show decide ((i : Int) + 1 ≤ ((cnt ns ((k : Int) + 1) : Nat) : Int)) = decide (k < m)
        by_cases q : k < m
        · rw [decide_eq_true q, decide_eq_true]
          have := z.mpr (by omega)
          omega
        · rw [decide_eq_false q, decide_eq_false]
          intro w
          have := z.mp (by omega)
          omega
      rw [e3, cnt_range]
      omega
    rw [e2]
  · rw [List.getElem?_eq_none (by rw [mir_len]; omega), List.getElem?_eq_none (by omega)]
theorem mir_mem {ns : List Int} {top : Nat} {x : Int} (h : x ∈ mir ns top) : ∃ k : Nat, k < top ∧ x = ((cnt ns ((k : Int) + 1) : Nat) : Int) := by
  unfold mir at h
  obtain ⟨k, hk, rfl⟩ := List.mem_map.mp h
  exact ⟨k, List.mem_range.mp hk, rfl⟩
/-- what mirrors a partition is one -/
theorem mir_par {ns : List Int} {top : Nat} (h : Par ns top) (t : ns ≠ []) : Par (mir ns top) ns.length := by
  have h0 : ∃ x r, ns = x :: r := by
    cases ns with
    | nil => exact absurd rfl t
    | cons x r => exact ⟨x, r, rfl⟩
  have ht : (top : Int) ∈ ns := by
    obtain ⟨x, r, rfl⟩ := h0
    have := h.hd
    rw [this]
    exact List.mem_cons_self ..
  have tp : 1 ≤ top := by
    have := h.lo _ ht
    omega
  refine ⟨?_, fun x hx => ?_, fun x hx => ?_, ?_⟩
  · unfold mir
    rw [List.pairwise_map]
    refine List.Pairwise.imp ?_ (List.pairwise_lt_range)
    intro a b hab
    have := cnt_mono ns (j := (a : Int) + 1) (k := (b : Int) + 1) (by omega)
    omega
  · obtain ⟨k, hk, rfl⟩ := mir_mem hx
    have q := List.mem_iff_getElem?.mp ht
    obtain ⟨i, hi⟩ := q
    have z := (cnt_ix ns i ((k : Int) + 1) top h.ds hi).mpr (by omega)
    omega
  · obtain ⟨k, hk, rfl⟩ := mir_mem hx
    have := cnt_le ns ((k : Int) + 1)
    omega
  · obtain ⟨m, rfl⟩ : ∃ m, top = m + 1 := ⟨top - 1, by omega⟩
    unfold mir
    rw [List.range_succ_eq_map, List.map_cons]
    show _ = ((cnt ns (((0 : Nat) : Int) + 1) : Nat) : Int)
    rw [cnt_all (fun x hx => by have := h.lo x hx; omega)]
/-- what the program asks -/
def isPt (ns : List Int) : Bool := decide (ns.length ≤ 200) && (small ns 1 1000000 && (List.zip ns (ns.drop 1)).all fun p => decide (p.2 ≤ p.1))
theorem zip_desc : ∀ {ns : List Int}, ns.Pairwise (fun x y => y ≤ x) → ((List.zip ns (ns.drop 1)).all fun p => decide (p.2 ≤ p.1)) = true
  | [], _ => rfl
  | [x], _ => rfl
  | x :: y :: r, h => by
    obtain ⟨h1, h2⟩ := List.pairwise_cons.mp h
    have ih := zip_desc h2
    show (decide (y ≤ x) && ((List.zip (y :: r) r).all fun p => decide (p.2 ≤ p.1))) = true
    rw [decide_eq_true (h1 y (List.mem_cons_self ..)), Bool.true_and]
    exact ih
theorem desc_zip : ∀ {ns : List Int}, ((List.zip ns (ns.drop 1)).all fun p => decide (p.2 ≤ p.1)) = true → ns.Pairwise (fun x y => y ≤ x)
  | [], _ => .nil
  | [x], _ => List.pairwise_singleton _ _
  | x :: y :: r, h => by
    have h' : (decide (y ≤ x) && ((List.zip (y :: r) r).all fun p => decide (p.2 ≤ p.1))) = true := h
    rw [Bool.and_eq_true, decide_eq_true_eq] at h'
    have ih : (y :: r).Pairwise (fun x y => y ≤ x) := desc_zip h'.2
    refine List.pairwise_cons.mpr ⟨fun z hz => ?_, ih⟩
    rcases List.mem_cons.mp hz with rfl | hz
    · exact h'.1
    · have := (List.pairwise_cons.mp ih).1 z hz
      omega
theorem Par.is {ns : List Int} {top : Nat} (h : Par ns top) (l : ns.length ≤ 200) (t : top ≤ 1000000) : isPt ns = true := by
  unfold isPt small
  rw [decide_eq_true l, zip_desc h.ds, Bool.true_and, Bool.and_true]
  refine List.all_eq_true.mpr fun x hx => ?_
  have h1 := h.lo x hx
  have h2 := h.hi x hx
  rw [decide_eq_true h1, decide_eq_true (by omega : x ≤ 1000000)]
  rfl
theorem isPt_par {ns : List Int} (h : isPt ns = true) : Par ns (ns.headD 0).toNat ∧ ns.length ≤ 200 ∧ ∀ x ∈ ns, x ≤ 1000000 := by
  unfold isPt small at h
  simp only [Bool.and_eq_true, decide_eq_true_eq, List.all_eq_true] at h
  obtain ⟨h1, h2, h3⟩ := h
  have ds := desc_zip (ns := ns) (List.all_eq_true.mpr fun p hp => by simpa using h3 p hp)
  refine ⟨⟨ds, fun x hx => (h2 x hx).1, fun x hx => ?_, ?_⟩, h1, fun x hx => (h2 x hx).2⟩
  · cases ns with
    | nil => cases hx
    | cons y r =>
      have := (h2 y (List.mem_cons_self ..)).1
      show x ≤ ((y.toNat : Nat) : Int)
      rcases List.mem_cons.mp hx with rfl | hx
      · omega
      · have := (List.pairwise_cons.mp ds).1 x hx
        omega
  · cases ns with
    | nil => rfl
    | cons y r =>
      have := (h2 y (List.mem_cons_self ..)).1
      show ((y.toNat : Nat) : Int) = y
      omega
/-! the numbers of partitions -/
def pnum : List Int := [1, 1, 2, 3, 5, 7, 11, 15, 22, 30, 42, 56, 77, 101, 135]
theorem pw_count : ∀ n, n < 15 → ((pw 15 n n).length : Int) = pnum.getD n 0 := by decide +kernel
end Pt

set_option Elab.async false
set_option linter.all false
set_option maxRecDepth 100000
set_option maxHeartbeats 4000000
set_option pp.maxSteps 3000
/-! partitions that keep bounds, counted -/
namespace Fm
open PySem PySem.Spec PyProof.Rows L2 Dr Xv LamX Ps Gn
theorem pw_split {f n g : Nat} (h : n ≠ 0) : Pt.pw (f + 1) n (g + 1) = (if g + 1 ≤ n then (Pt.pw f (n - (g + 1)) (g + 1)).map (fun r => (((g + 1 : Nat) : Int)) :: r) else []) ++ Pt.pw (f + 1) n g := by
  rw [Pt.pw_pos h, Pt.pw_pos h]
  by_cases c : g + 1 ≤ n
  · have e1 : min n (g + 1) = g + 1 := Nat.min_eq_right c
    have e2 : min n g = g := Nat.min_eq_right (by omega)
    rw [if_pos c]
    unfold Pt.pwJ
    rw [e1, e2, List.range_succ_eq_map, List.map_cons, List.flatten_cons, List.map_map]
    congr 2
    refine List.map_congr_left fun i hi => ?_
    show (Pt.pw f (n - (g + 1 - (i + 1))) (g + 1 - (i + 1))).map _ = _
    have e3 : g + 1 - (i + 1) = g - i := by omega
    rw [e3]
  · have e1 : min n (g + 1) = n := Nat.min_eq_left (by omega)
    have e2 : min n g = n := Nat.min_eq_left (by omega)
    rw [if_neg c, List.nil_append]
    unfold Pt.pwJ
    rw [e1, e2]
section
variable (bd : Int → Int)
/-- j of g stand ahead -/
def kb (g : Int) (j : Nat) (ps : List Int) : Bool := ps.all fun p => decide (bd p = 0) || decide (((ct p ps + if p = g then j else 0 : Nat) : Int) < bd p)
def k0 (ps : List Int) : Bool := ps.all fun p => decide (bd p = 0) || decide (((ct p ps : Nat) : Int) < bd p)
theorem kb_zero (g : Int) (ps : List Int) : kb bd g 0 ps = k0 bd ps := by
  unfold kb k0
  refine congrArg (List.all ps) (funext fun p => ?_)
  rw [ite_self, Nat.add_zero]
theorem all_congr {ps : List Int} {f h : Int → Bool} (e : ∀ p ∈ ps, f p = h p) : ps.all f = ps.all h := by
  induction ps with
  | nil => rfl
  | cons x r ih => rw [List.all_cons, List.all_cons, e x List.mem_cons_self, ih fun p hp => e p (List.mem_cons_of_mem _ hp)]
theorem kb_low {g : Int} {j : Nat} {ps : List Int} (h : ∀ x ∈ ps, x < g) : kb bd g j ps = k0 bd ps := by
  unfold kb k0
  refine all_congr fun p hp => ?_
  have := h p hp
  rw [if_neg (by omega), Nat.add_zero]
theorem ct_cons (p x : Int) (r : List Int) : ct p (x :: r) = ct p r + if x = p then 1 else 0 := by
  unfold ct
  rw [List.countP_cons]
  by_cases c : x = p
  · simp [c]
  · simp [c]
theorem kb_cons (g : Int) (j : Nat) (r : List Int) : kb bd g j (g :: r) = ((decide (bd g = 0) || decide (((j + 1 : Nat) : Int) < bd g)) && kb bd g (j + 1) r) := by
  have each : ∀ p, (ct p (g :: r) + if p = g then j else 0) = ct p r + if p = g then j + 1 else 0 := fun p => by
    rw [ct_cons]
    by_cases c : p = g
    · subst c
      rw [if_pos rfl, if_pos rfl, if_pos rfl]
      omega
    · rw [if_neg c, if_neg c, if_neg (fun e => c e.symm)]
  rw [Bool.eq_iff_iff, Bool.and_eq_true]
  unfold kb
  rw [List.all_cons, Bool.and_eq_true, each g, if_pos rfl]
  have er : (r.all fun p => decide (bd p = 0) || decide (((ct p (g :: r) + if p = g then j else 0 : Nat) : Int) < bd p)) = (r.all fun p => decide (bd p = 0) || decide (((ct p r + if p = g then j + 1 else 0 : Nat) : Int) < bd p)) := all_congr fun p _ => by rw [each p]
  rw [er]
  constructor
  · rintro ⟨h1, h2⟩
    refine ⟨?_, h2⟩
    rw [Bool.or_eq_true, decide_eq_true_eq, decide_eq_true_eq] at h1 ⊢
    rcases h1 with h | h
    · exact .inl h
    · exact .inr (by omega)
  · rintro ⟨h1, h2⟩
    refine ⟨?_, h2⟩
    by_cases m : g ∈ r
    · have z := List.all_eq_true.mp h2 g m
      rw [if_pos rfl] at z
      exact z
    · rw [Bool.or_eq_true, decide_eq_true_eq, decide_eq_true_eq] at h1 ⊢
      rw [ct_zero m]
      rcases h1 with h | h
      · exact .inl h
      · exact .inr (by omega)
/-- how many -/
def cJ (f n g j : Nat) : Nat := ((Pt.pw f n g).filter (kb bd g j)).length
def c0 (f n g : Nat) : Nat := ((Pt.pw f n g).filter (k0 bd)).length
theorem cJ_zero (f n g : Nat) : cJ bd f n g 0 = c0 bd f n g := by
  unfold cJ c0
  congr 2
  exact funext fun ps => kb_zero bd _ ps
theorem filter_map_cons (g : Int) (j : Nat) (l : List (List Int)) : ((l.map fun r => g :: r).filter (kb bd g j)).length = if (decide (bd g = 0) || decide (((j + 1 : Nat) : Int) < bd g)) = true then (l.filter (kb bd g (j + 1))).length else 0 := by
  rw [List.filter_map, List.length_map]
  have e : (kb bd g j ∘ fun r => g :: r) = fun r => (decide (bd g = 0) || decide (((j + 1 : Nat) : Int) < bd g)) && kb bd g (j + 1) r := funext fun r => kb_cons bd g j r
  rw [e]
  split
  · rename_i h
    rw [h]
    simp
  · rename_i h
    rw [Bool.not_eq_true] at h
    rw [h]
    simp
theorem cJ_step (f n g j : Nat) : cJ bd (f + 1) n (g + 1) j = (if g + 1 ≤ n ∧ (decide (bd ((g + 1 : Nat) : Int) = 0) || decide (((j + 1 : Nat) : Int) < bd ((g + 1 : Nat) : Int))) = true then cJ bd f (n - (g + 1)) (g + 1) (j + 1) else 0) + c0 bd (f + 1) n g := by
  by_cases h : n = 0
  · subst h
    rw [if_neg (fun z => by omega), Nat.zero_add]
    unfold cJ c0
    rw [Pt.pw_zero, Pt.pw_zero]
    rfl
  · unfold cJ
    rw [pw_split h, List.filter_append, List.length_append]
    congr 1
    · by_cases c : g + 1 ≤ n
      · rw [if_pos c, filter_map_cons]
        by_cases d : (decide (bd ((g + 1 : Nat) : Int) = 0) || decide (((j + 1 : Nat) : Int) < bd ((g + 1 : Nat) : Int))) = true
        · rw [if_pos d, if_pos ⟨c, d⟩]
        · rw [if_neg d, if_neg (fun z => d z.2)]
      · rw [if_neg c, if_neg (fun z => c z.1)]
        rfl
    · unfold c0
      congr 1
      refine List.filter_congr fun ps hps => ?_
      refine kb_low bd fun x hx => ?_
      have := (Pt.pw_good _ _ _ ps hps).hi x hx
      omega
end
end Fm
namespace Fm
open PySem PySem.Spec PyProof.Rows L2 Dr Xv LamX Ps Gn
section
variable (bd : Int → Int)
/-- the product of the first g factors -/
def cF : Nat → S
  | 0 => one
  | g + 1 => if bd ((g + 1 : Nat) : Int) = 0 then cv (G (g + 1)) (cF g) else cv (U ((g + 1) * (bd ((g + 1 : Nat) : Int)).toNat)) (cv (G (g + 1)) (cF g))
theorem G_step {p : Nat} (hp : 0 < p) (A : S) (n : Nat) : A n = cv (G p) A n - if p ≤ n then cv (G p) A (n - p) else 0 := by
  have e : cv (U p) (cv (G p) A) = A := by rw [← cv_assoc, UG hp, one_cv]
  have z := cv_U hp (cv (G p) A)
  rw [e] at z
  exact congrFun z n
theorem cJ_eq (hb : ∀ p, 0 ≤ bd p) (g : Nat) (A : S) (hA : ∀ f n : Nat, n < f → (c0 bd f n g : Int) = A n) : ∀ f n j : Nat, n < f → (bd ((g + 1 : Nat) : Int) = 0 ∨ (j : Int) < bd ((g + 1 : Nat) : Int)) →
    (cJ bd f n (g + 1) j : Int) = if bd ((g + 1 : Nat) : Int) = 0 then cv (G (g + 1)) A n else cv (U ((g + 1) * ((bd ((g + 1 : Nat) : Int)).toNat - j))) (cv (G (g + 1)) A) n
  | 0, n, j, h, _ => absurd h (by omega)
  | f + 1, n, j, h, hj => by
    rw [cJ_step, Int.natCast_add, hA (f + 1) n h]
    have st := G_step (p := g + 1) (Nat.succ_pos g) A n
    obtain ⟨b, hb2⟩ : ∃ b : Nat, bd ((g + 1 : Nat) : Int) = (b : Int) := ⟨(bd ((g + 1 : Nat) : Int)).toNat, by
      have := hb ((g + 1 : Nat) : Int)
      omega⟩
    have ih := fun m j => cJ_eq hb g A hA f m j
    rw [hb2] at hj ih ⊢
    by_cases z : (b : Int) = 0
    · rw [if_pos z]
      by_cases c : g + 1 ≤ n
      · rw [if_pos ⟨c, by rw [decide_eq_true z]; rfl⟩, ih _ _ (by omega) (.inl z), if_pos z]
        rw [if_pos c] at st
        omega
      · rw [if_neg (fun q => c q.1)]
        rw [if_neg c] at st
        omega
    · rw [if_neg z]
      have e1 : ((b : Int)).toNat = b := by omega
      rw [e1]
      have hj2 : j < b := by omega
      rw [cv_U (Nat.mul_pos (Nat.succ_pos g) (by omega))]
      show _ = cv (G (g + 1)) A n - (if (g + 1) * (b - j) ≤ n then cv (G (g + 1)) A (n - (g + 1) * (b - j)) else 0)
      by_cases d : j + 1 < b
      · have ee : (g + 1) * (b - j) = (g + 1) * (b - (j + 1)) + (g + 1) := by
          have : b - j = b - (j + 1) + 1 := by omega
          rw [this, Nat.mul_add, Nat.mul_one]
        rw [ee]
        by_cases c : g + 1 ≤ n
        · rw [if_pos ⟨c, by rw [decide_eq_true (by omega : ((j + 1 : Nat) : Int) < (b : Int)), Bool.or_true]⟩, ih _ _ (by omega) (.inr (by omega)), if_neg z, e1, cv_U (Nat.mul_pos (Nat.succ_pos g) (by omega))]
          rw [if_pos c] at st
          show cv (G (g + 1)) A (n - (g + 1)) - (if (g + 1) * (b - (j + 1)) ≤ n - (g + 1) then cv (G (g + 1)) A (n - (g + 1) - (g + 1) * (b - (j + 1))) else 0) + A n = _
          have e2 : n - (g + 1) - (g + 1) * (b - (j + 1)) = n - ((g + 1) * (b - (j + 1)) + (g + 1)) := by omega
          rw [e2]
          by_cases w : (g + 1) * (b - (j + 1)) ≤ n - (g + 1)
          · rw [if_pos w, if_pos (by omega)]
            omega
          · rw [if_neg w, if_neg (by omega)]
            omega
        · rw [if_neg (fun q => c q.1), if_neg (by omega)]
          rw [if_neg c] at st
          omega
      · have ee : (g + 1) * (b - j) = g + 1 := by
          have : b - j = 1 := by omega
          rw [this, Nat.mul_one]
        rw [ee, if_neg (fun q => ?_)]
        · omega
        · have q2 := q.2
          rw [Bool.or_eq_true, decide_eq_true_eq, decide_eq_true_eq] at q2
          omega
theorem c0_zero (f n : Nat) (h : n < f) : (c0 bd f n 0 : Int) = one n := by
  obtain ⟨f', rfl⟩ : ∃ f', f = f' + 1 := ⟨f - 1, by omega⟩
  unfold c0
  by_cases z : n = 0
  · subst z
    rw [Pt.pw_zero]
    rfl
  · rw [Pt.pw_pos z]
    show _ = if n = 0 then (1 : Int) else 0
    rw [if_neg z]
    unfold Pt.pwJ
    rw [Nat.min_zero]
    rfl
theorem c0_eq (hb : ∀ p, 0 ≤ bd p) : ∀ g f n, n < f → (c0 bd f n g : Int) = cF bd g n
  | 0, f, n, h => c0_zero bd f n h
  | g + 1, f, n, h => by
    have z := cJ_eq bd hb g (cF bd g) (fun f n h => c0_eq hb g f n h) f n 0 h (by
      have := hb ((g + 1 : Nat) : Int)
      omega)
    rw [cJ_zero, Nat.sub_zero] at z
    rw [z]
    show _ = (if bd ((g + 1 : Nat) : Int) = 0 then cv (G (g + 1)) (cF bd g) else _) n
    split <;> rfl
/-- the exponents -/
def bx : Nat → S
  | 0 => fun _ => 0
  | g + 1 => if bd ((g + 1 : Nat) : Int) = 0 then putS (bx g) (g + 1) 1 else putS (putS (bx g) (g + 1) 1) ((g + 1) * (bd ((g + 1 : Nat) : Int)).toNat) (-1)
theorem PI.gp {M e : Nat} {b A : S} (p : PI M b A) (h : 0 < e) : PI M (putS b e 1) (cv (G e) A) := by
  obtain ⟨A', L, z, a⟩ := p
  by_cases c : e ≤ M
  · refine ⟨cv (G e) A', ?_, ?_, fun n hn => cv_congr (N := M + 1) (fun i _ => rfl) (fun i hi => a i (by omega)) n (by omega)⟩
    · rw [put_near h M c, Int.mul_one]
      exact L.pos h
    · have z2 := G_step h A' 0
      rw [if_neg (by omega)] at z2
      omega
  · refine ⟨A', by rw [put_far (by omega)]; exact L, z, fun n hn => ?_⟩
    have z2 := G_step h A n
    rw [if_neg (by omega)] at z2
    rw [a n hn]
    omega
theorem PI.un {M e : Nat} {b A : S} (p : PI M b A) (h : 0 < e) : PI M (putS b e (-1)) (cv (U e) A) := by
  have z := p.neg h
  have ep : pfS b e (-1) = putS b e (-1) := by
    unfold pfS
    rw [if_neg (by decide)]
  rw [ep, mulF_neg h] at z
  exact z
theorem bx_PI (hb : ∀ p, 0 ≤ bd p) (M : Nat) : ∀ g, PI M (bx bd g) (cF bd g)
  | 0 => PI.start M
  | g + 1 => by
    have ih := bx_PI hb M g
    show PI M (if bd ((g + 1 : Nat) : Int) = 0 then _ else _) (if bd ((g + 1 : Nat) : Int) = 0 then _ else _)
    by_cases z : bd ((g + 1 : Nat) : Int) = 0
    · rw [if_pos z, if_pos z]
      exact PI.gp ih (Nat.succ_pos g)
    · rw [if_neg z, if_neg z]
      have := hb ((g + 1 : Nat) : Int)
      exact PI.un (PI.gp ih (Nat.succ_pos g)) (Nat.mul_pos (Nat.succ_pos g) (by omega))
theorem putS_at (b : S) (p : Nat) (c : Int) (n : Nat) : putS b p c n = b n + if n = p then c else 0 := by
  show (if n = p then b n + c else b n) = _
  split
  · rfl
  · rw [Int.add_zero]
/-- n comes from p -/
def hit (n : Nat) (p : Nat) : Int := if bd ((p + 1 : Nat) : Int) ≠ 0 ∧ n = (p + 1) * (bd ((p + 1 : Nat) : Int)).toNat then 1 else 0
theorem bx_at (n : Nat) : ∀ g, bx bd g n = sm (fun p => if n = p + 1 then 1 else 0) g - sm (hit bd n) g
  | 0 => rfl
  | g + 1 => by
    have ih := bx_at n g
    show (if bd ((g + 1 : Nat) : Int) = 0 then putS (bx bd g) (g + 1) 1 else _) n = (sm (fun p => if n = p + 1 then 1 else 0) g + (if n = g + 1 then 1 else 0)) - (sm (hit bd n) g + hit bd n g)
    by_cases z : bd ((g + 1 : Nat) : Int) = 0
    · have e1 : hit bd n g = 0 := if_neg (fun q => q.1 z)
      rw [if_pos z, putS_at, ih, e1]
      omega
    · rw [if_neg z, putS_at, putS_at, ih]
      by_cases w : n = (g + 1) * (bd ((g + 1 : Nat) : Int)).toNat
      · have e1 : hit bd n g = 1 := if_pos ⟨z, w⟩
        rw [if_pos w, e1]
        omega
      · have e1 : hit bd n g = 0 := if_neg (fun q => w q.2)
        rw [if_neg w, e1]
        omega
end
end Fm
namespace Fm
open PySem PySem.Spec PyProof.Rows L2 Dr Xv LamX Ps Gn
theorem sm_swap (F : Nat → Nat → Int) (m : Nat) : ∀ n, sm (fun i => sm (fun j => F i j) m) n = sm (fun j => sm (fun i => F i j) n) m
  | 0 => (sm_zero m).symm
  | n + 1 => by
    show sm (fun i => sm (fun j => F i j) m) n + sm (fun j => F n j) m = sm (fun j => sm (fun i => F i j) n + F n j) m
    rw [sm_swap F m n, sm_add]
/-- b leads to n -/
def lead (fam : List Rule) (n b : Nat) : Int := if b ∣ n ∧ bnd fam ((n / b : Nat) : Int) = (b : Int) then 1 else 0
theorem mTest_nat (fam : List Rule) (n b : Nat) (hb : 0 < b) : mTest fam (n : Int) (b : Int) = decide (b ∣ n ∧ bnd fam ((n / b : Nat) : Int) = (b : Int)) := by
  unfold mTest
  have e1 : ((n : Int)).fmod (b : Int) = ((n % b : Nat) : Int) := by
    rw [Int.fmod_eq_emod_of_nonneg _ (by omega)]
    exact (Int.natCast_emod n b).symm
  have e2 : ((n : Int)).fdiv (b : Int) = ((n / b : Nat) : Int) := by
    rw [Int.fdiv_eq_ediv_of_nonneg _ (by omega)]
    exact (Int.natCast_ediv n b).symm
  rw [e1, e2]
  by_cases c : b ∣ n
  · have : n % b = 0 := Nat.mod_eq_zero_of_dvd c
    rw [decide_eq_true (by omega : ((n % b : Nat) : Int) = 0), Bool.true_and]
    by_cases d : bnd fam ((n / b : Nat) : Int) = (b : Int)
    · rw [decide_eq_true d, decide_eq_true ⟨c, d⟩]
    · rw [decide_eq_false d, decide_eq_false (fun q => d q.2)]
  · have : n % b ≠ 0 := fun z => c (Nat.dvd_of_mod_eq_zero z)
    rw [decide_eq_false (by omega : ¬ ((n % b : Nat) : Int) = 0), Bool.false_and, decide_eq_false (fun q => c q.1)]
theorem mates_lead (fam : List Rule) (n : Nat) : ((mates fam (n : Int)).length : Int) = sm (fun i => lead fam n (i + 1)) 9 := by
  have key : ∀ (l : List Nat), (∀ b ∈ l, 0 < b) → (((l.map fun b : Nat => (b : Int)).filter (mTest fam (n : Int))).length : Int) = (l.map (lead fam n)).sum := by
    intro l
    induction l with
    | nil => exact fun _ => rfl
    | cons b r ih =>
      intro h
      have ih' := ih fun x hx => h x (List.mem_cons_of_mem _ hx)
      rw [List.map_cons, List.map_cons, List.sum_cons, ← ih']
      have et := mTest_nat fam n b (h b List.mem_cons_self)
      by_cases c : b ∣ n ∧ bnd fam ((n / b : Nat) : Int) = (b : Int)
      · rw [decide_eq_true c] at et
        rw [List.filter_cons_of_pos et, List.length_cons]
        unfold lead
        rw [if_pos c]
        omega
      · rw [decide_eq_false c] at et
        rw [List.filter_cons_of_neg (by rw [et]; exact Bool.false_ne_true)]
        unfold lead
        rw [if_neg c]
        omega
  unfold mates
  rw [List.length_map]
  have e := key [9, 8, 7, 6, 5, 4, 3, 2, 1] (by decide)
  have e2 : ([9, 8, 7, 6, 5, 4, 3, 2, 1] : List Nat).map (fun b : Nat => (b : Int)) = nines := rfl
  rw [e2] at e
  rw [e]
  show lead fam n 9 + (lead fam n 8 + (lead fam n 7 + (lead fam n 6 + (lead fam n 5 + (lead fam n 4 + (lead fam n 3 + (lead fam n 2 + (lead fam n 1 + 0)))))))) = 0 + lead fam n 1 + lead fam n 2 + lead fam n 3 + lead fam n 4 + lead fam n 5 + lead fam n 6 + lead fam n 7 + lead fam n 8 + lead fam n 9
  omega
theorem hit_lead (fam : List Rule) (Gd : Good fam) {n M : Nat} (h1 : 1 ≤ n) (h2 : n ≤ M) : sm (hit (bnd fam) n) M = sm (fun i => lead fam n (i + 1)) 9 := by
  have e1 : ∀ p, hit (bnd fam) n p = sm (fun i => if bnd fam ((p + 1 : Nat) : Int) = ((i + 1 : Nat) : Int) ∧ n = (p + 1) * (i + 1) then 1 else 0) 9 := fun p => by
    have hb := bnd_le Gd ((p + 1 : Nat) : Int)
    obtain ⟨b, eb⟩ : ∃ b : Nat, bnd fam ((p + 1 : Nat) : Int) = (b : Int) := ⟨(bnd fam ((p + 1 : Nat) : Int)).toNat, by omega⟩
    unfold hit
    rw [eb]
    have e0 : ((b : Int)).toNat = b := by omega
    rw [e0]
    by_cases z : b = 0
    · rw [if_neg (fun q => q.1 (by omega))]
      rw [sm_congr (g := fun _ => 0) 9 (fun i _ => if_neg (fun q => by have := q.1; omega)), sm_zero]
    · have e3 := sm_one_at (fun i => if (b : Int) = ((i + 1 : Nat) : Int) ∧ n = (p + 1) * (i + 1) then (1 : Int) else 0) (m := b - 1) 9 (by omega) fun i _ hi => if_neg (fun q => by have := q.1; omega)
      rw [e3]
      have e4 : b - 1 + 1 = b := by omega
      show _ = if (b : Int) = ((b - 1 + 1 : Nat) : Int) ∧ n = (p + 1) * (b - 1 + 1) then (1 : Int) else 0
      rw [e4]
      by_cases w : n = (p + 1) * b
      · rw [if_pos ⟨by omega, w⟩, if_pos ⟨rfl, w⟩]
      · rw [if_neg (fun q => w q.2), if_neg (fun q => w q.2)]
  rw [sm_congr M fun p _ => e1 p, sm_swap]
  refine sm_congr 9 fun i _ => ?_
  unfold lead
  by_cases c : (i + 1) ∣ n
  · obtain ⟨k, hk⟩ := c
    have k1 : 1 ≤ k := Nat.pos_of_ne_zero fun z => by
      rw [z, Nat.mul_zero] at hk
      omega
    have k2 : k ≤ n := by
      rw [hk]
      exact Nat.le_mul_of_pos_left k (Nat.succ_pos i)
    have e5 : n / (i + 1) = k := by
      rw [hk]
      exact Nat.mul_div_cancel_left k (Nat.succ_pos i)
    have e3 := sm_one_at (fun p => if bnd fam ((p + 1 : Nat) : Int) = ((i + 1 : Nat) : Int) ∧ n = (p + 1) * (i + 1) then (1 : Int) else 0) (m := k - 1) M (by omega) fun p _ hp => if_neg (fun q => by
      have q2 := q.2
      rw [hk, Nat.mul_comm] at q2
      have := Nat.eq_of_mul_eq_mul_right (Nat.succ_pos i) q2
      omega)
    rw [e3, e5]
    have e6 : k - 1 + 1 = k := by omega
    show (if bnd fam ((k - 1 + 1 : Nat) : Int) = ((i + 1 : Nat) : Int) ∧ n = (k - 1 + 1) * (i + 1) then (1 : Int) else 0) = _
    rw [e6]
    by_cases w : bnd fam (k : Int) = ((i + 1 : Nat) : Int)
    · rw [if_pos ⟨w, by rw [hk, Nat.mul_comm]⟩, if_pos ⟨⟨k, hk⟩, w⟩]
    · rw [if_neg (fun q => w q.1), if_neg (fun q => w q.2)]
  · rw [if_neg (fun q => c q.1)]
    rw [sm_congr (g := fun _ => 0) M (fun p _ => if_neg (fun q => c ⟨p + 1, by rw [q.2, Nat.mul_comm]⟩)), sm_zero]
/-- the exponents are those of the family -/
theorem pS_bx (fam : List Rule) (Gd : Good fam) {M i : Nat} (h : i < M) : pS fam i = bx (bnd fam) M (i + 1) := by
  rw [bx_at]
  have e1 : sm (fun p => if i + 1 = p + 1 then (1 : Int) else 0) M = 1 := by
    rw [sm_one_at _ (m := i) M h fun p _ hp => if_neg (fun q => hp (by omega))]
    exact if_pos rfl
  rw [e1, hit_lead fam Gd (by omega) (by omega), ← mates_lead]
  show 1 - ((mates fam ((i : Int) + 1)).length : Int) = _
  rfl
/-- HEART: the row counts the partitions that keep the bounds -/
theorem row_counts (fam : List Rule) (Gd : Good fam) {M f n : Nat} (hn : n ≤ M) (hf : n < f) : prA (pS fam) M n = (c0 (bnd fam) f n n : Int) := by
  have hb : ∀ p, 0 ≤ bnd fam p := fun p => (bnd_le Gd p).1
  have e1 := (bx_PI (bnd fam) hb M M).row (q := pS fam) (fun i hi => pS_bx fam Gd hi) n hn
  have e2 := (bx_PI (bnd fam) hb n n).row (q := pS fam) (fun i hi => pS_bx fam Gd hi) n (Nat.le_refl n)
  rw [c0_eq (bnd fam) hb n f n hf, ← e2, e1]
  rw [← e1]
  exact prA_far (pS fam) M n hn
end Fm

set_option Elab.async false
set_option linter.all false
set_option maxRecDepth 100000
set_option maxHeartbeats 4000000
set_option pp.maxSteps 3000
/-! math.lcm; periods of families -/
namespace Xv
open PySem PySem.Spec PyProof.Rows L2
def rLcm : List V → Hp → VK → Prop := fun vs H Q => ∃ a b : Nat, vs = [.int (a : Int), .int (b : Int)] ∧ a < 2 ^ 64 ∧ b < 2 ^ 64 ∧ Q (.int ((Nat.lcm a b : Nat) : Int)) H
theorem cr_lcm {X : Cx} : CallR X (.builtin "math.lcm") rLcm := by
  intro pins s σ H vs us Q I r h
  obtain ⟨a, b, rfl, ha, hb, q⟩ := h
  obtain ⟨t, u, rfl⟩ := Vals.int2 r
  have e : (((Nat.lcm 1 ((a : Int)).natAbs).lcm ((b : Int)).natAbs : Nat) : Int) = ((Nat.lcm a b : Nat) : Int) := by
    rw [Int.natAbs_natCast, Int.natAbs_natCast, Nat.lcm_one_left]
  refine PySem.W.mg_lcm_v (by rw [Int.natAbs_natCast]; exact ha) (by rw [Int.natAbs_natCast]; exact hb) e ?_ ⟨.int _, H, I.tok _, ⟨_, rfl⟩, q⟩
  rw [Int.natAbs_natCast]
  have h1 : Nat.lcm a b ≤ a * b := Nat.div_le_self _ _
  have h2 : a * b ≤ 2 ^ 64 * 2 ^ 64 := Nat.mul_le_mul (Nat.le_of_lt ha) (Nat.le_of_lt hb)
  have h3 : Nat.lcm a b < 2 ^ 129 := by
    have : (2 : Nat) ^ 64 * 2 ^ 64 < 2 ^ 129 := by decide
    omega
  have h4 : (Nat.lcm a b).log2 < 129 := by
    by_cases z : Nat.lcm a b = 0
    · rw [z]
      decide
    · exact (Nat.log2_lt z).mpr h3
  have h5 : bitsLine = 134217728 := by decide
  omega
end Xv
namespace Fm
open PySem PySem.Spec PyProof.Rows L2 Dr Xv LamX Ps Gn
def lcmL (ns : List Int) : Nat := ns.foldl (fun c n => Nat.lcm c n.natAbs) 1
theorem lcmL_snoc (ns : List Int) (x : Int) : lcmL (ns ++ [x]) = Nat.lcm (lcmL ns) x.natAbs := by
  unfold lcmL
  rw [List.foldl_append]
  rfl
theorem lcmL_pos {ns : List Int} (h : ∀ x ∈ ns, 1 ≤ x) : 0 < lcmL ns := by
  have key : ∀ (l : List Int) (c : Nat), 0 < c → (∀ x ∈ l, 1 ≤ x) → 0 < l.foldl (fun c n => Nat.lcm c n.natAbs) c := by
    intro l
    induction l with
    | nil => exact fun c hc _ => hc
    | cons y r ih =>
      intro c hc hl
      have := hl y List.mem_cons_self
      exact ih _ (Nat.lcm_pos hc (by omega)) fun x hx => hl x (List.mem_cons_of_mem _ hx)
  exact key ns 1 (by decide) h
theorem lcmL_le {ns : List Int} {b : Nat} (h : ∀ x ∈ ns, 1 ≤ x ∧ x ≤ (b : Int)) : lcmL ns ≤ b ^ ns.length := by
  have key : ∀ (l : List Int) (c : Nat), (∀ x ∈ l, 1 ≤ x ∧ x ≤ (b : Int)) → l.foldl (fun c n => Nat.lcm c n.natAbs) c ≤ c * b ^ l.length := by
    intro l
    induction l with
    | nil => exact fun c _ => by show c ≤ c * b ^ 0; rw [Nat.pow_zero, Nat.mul_one]; exact Nat.le_refl _
    | cons y r ih =>
      intro c hl
      have h1 := hl y List.mem_cons_self
      refine Nat.le_trans (ih _ fun x hx => hl x (List.mem_cons_of_mem _ hx)) ?_
      have h2 : Nat.lcm c y.natAbs ≤ c * y.natAbs := Nat.div_le_self _ _
      have h3 : c * y.natAbs ≤ c * b := Nat.mul_le_mul_left c (by omega)
      rw [List.length_cons, Nat.pow_succ, Nat.mul_comm (b ^ r.length) b, ← Nat.mul_assoc]
      exact Nat.mul_le_mul_right _ (Nat.le_trans h2 h3)
  have z := key ns 1 h
  rw [Nat.one_mul] at z
  exact z
theorem lcmL_dvd {ns : List Int} {x : Int} (h : x ∈ ns) : x.natAbs ∣ lcmL ns := by
  have keep : ∀ (l : List Int) (c d : Nat), d ∣ c → d ∣ l.foldl (fun c n => Nat.lcm c n.natAbs) c := by
    intro l
    induction l with
    | nil => exact fun _ _ h => h
    | cons y r ih => exact fun c d h => ih _ _ (Nat.dvd_trans h (Nat.dvd_lcm_left _ _))
  have key : ∀ (l : List Int) (c : Nat), x ∈ l → x.natAbs ∣ l.foldl (fun c n => Nat.lcm c n.natAbs) c := by
    intro l
    induction l with
    | nil => exact fun _ h => by cases h
    | cons y r ih =>
      intro c h
      rcases List.mem_cons.mp h with rfl | h
      · exact keep r _ _ (Nat.dvd_lcm_right _ _)
      · exact ih _ h
  exact key ns 1 h
def mods (fam : List Rule) : List Int := fam.map (·.1)
def less (fam : List Rule) : List Int := fam.map (·.2.2)
def per (fam : List Rule) : Nat := lcmL (mods fam) * lcmL (less fam)
theorem mods_b {fam : List Rule} (G : Good fam) : ∀ x ∈ mods fam, 1 ≤ x ∧ x ≤ ((24 : Nat) : Int) := fun x hx => by
  obtain ⟨f, hf, rfl⟩ := List.mem_map.mp hx
  exact ⟨(G.r f hf).m1, (G.r f hf).m2⟩
theorem less_b {fam : List Rule} (G : Good fam) : ∀ x ∈ less fam, 1 ≤ x ∧ x ≤ ((24 : Nat) : Int) := fun x hx => by
  obtain ⟨f, hf, rfl⟩ := List.mem_map.mp hx
  have := (G.r f hf).l2
  exact ⟨(G.r f hf).l1, by omega⟩
theorem lcm24 {ns : List Int} (h : ∀ x ∈ ns, 1 ≤ x ∧ x ≤ ((24 : Nat) : Int)) (hl : ns.length ≤ 6) : lcmL ns ≤ 191102976 := by
  have h1 := lcmL_le h
  have h2 : 24 ^ ns.length ≤ 24 ^ 6 := Nat.pow_le_pow_right (by decide) hl
  have h3 : (24 : Nat) ^ 6 = 191102976 := by decide
  omega
theorem per_pos {fam : List Rule} (G : Good fam) : 0 < per fam := Nat.mul_pos (lcmL_pos fun x hx => (mods_b G x hx).1) (lcmL_pos fun x hx => (less_b G x hx).1)
theorem per_lt {fam : List Rule} (G : Good fam) : per fam < 2 ^ 64 := by
  have h1 := lcm24 (mods_b G) (by rw [mods, List.length_map]; exact G.ln)
  have h2 := lcm24 (less_b G) (by rw [less, List.length_map]; exact G.ln)
  have h3 : per fam ≤ 191102976 * 191102976 := Nat.mul_le_mul h1 h2
  have h4 : 191102976 * 191102976 < 2 ^ 64 := by decide
  omega
/-! what comes again -/
theorem hits_mod {fam : List Rule} {p q : Int} (h : ∀ f ∈ fam, p.fmod f.1 = q.fmod f.1) : hits fam p = hits fam q := by
  unfold hits
  congr 1
  refine List.filter_congr fun f hf => ?_
  rw [h f hf]
theorem bnd_mod {fam : List Rule} {p q : Int} (h : ∀ f ∈ fam, p.fmod f.1 = q.fmod f.1) : bnd fam p = bnd fam q := by
  unfold bnd
  rw [hits_mod h]
theorem bnd_less {fam : List Rule} {p : Int} (h : bnd fam p ≠ 0) : bnd fam p ∈ less fam := by
  have z : hits fam p ≠ [] := fun e => h (bnd_zero e)
  have m := bnd_mem z
  unfold hits at m
  obtain ⟨f, hf, e⟩ := List.mem_map.mp m
  rw [← e]
  exact List.mem_map.mpr ⟨f, (List.mem_filter.mp hf).1, rfl⟩
theorem fmod_add {p f : Int} (hf : 1 ≤ f) (t : Nat) (h : f.natAbs ∣ t) : (p + (t : Int)).fmod f = p.fmod f := by
  obtain ⟨k, rfl⟩ := h
  rw [Int.fmod_eq_emod_of_nonneg _ (by omega), Int.fmod_eq_emod_of_nonneg _ (by omega)]
  have e : ((f.natAbs * k : Nat) : Int) = f * (k : Int) := by
    rw [Int.natCast_mul]
    congr 1
    omega
  rw [e, Int.add_mul_emod_self_left]
end Fm
namespace Fm
open PySem PySem.Spec PyProof.Rows L2 Dr Xv LamX Ps Gn
theorem lead_zero {fam : List Rule} {n b : Nat} (h0 : 0 < b) (h : ((b : Nat) : Int) ∉ less fam) : lead fam n b = 0 := by
  unfold lead
  refine if_neg fun q => h ?_
  rw [← q.2]
  exact bnd_less (by rw [q.2]; omega)
theorem lead_per {fam : List Rule} (G : Good fam) {n b T : Nat} (h0 : 0 < b) (hT : per fam ∣ T) : lead fam (n + T) b = lead fam n b := by
  by_cases c : ((b : Nat) : Int) ∈ less fam
  · have hb : b ∣ lcmL (less fam) := by
      have z := lcmL_dvd c
      rwa [Int.natAbs_natCast] at z
    obtain ⟨u, hu⟩ := hb
    obtain ⟨k, hk⟩ := hT
    have eT : T = b * (lcmL (mods fam) * u * k) := by
      rw [hk]
      unfold per
      rw [hu]
      ac_rfl
    have ed : (n + T) / b = n / b + lcmL (mods fam) * u * k := by
      rw [eT, Nat.add_mul_div_left _ _ h0]
    have e1 : b ∣ n + T ↔ b ∣ n := by
      rw [eT]
      exact (Nat.dvd_add_iff_left ⟨_, rfl⟩).symm
    have e2 : bnd fam (((n + T) / b : Nat) : Int) = bnd fam ((n / b : Nat) : Int) := by
      rw [ed, Int.natCast_add]
      refine bnd_mod fun f hf => ?_
      refine fmod_add (G.r f hf).m1 _ ?_
      have z := lcmL_dvd (ns := mods fam) (x := f.1) (List.mem_map.mpr ⟨f, hf, rfl⟩)
      rw [Nat.mul_assoc]
      exact Nat.dvd_trans z ⟨_, rfl⟩
    unfold lead
    rw [e2]
    by_cases w : b ∣ n ∧ bnd fam ((n / b : Nat) : Int) = (b : Int)
    · rw [if_pos w, if_pos ⟨e1.mpr w.1, w.2⟩]
    · rw [if_neg w, if_neg (fun q => w ⟨e1.mp q.1, q.2⟩)]
  · rw [lead_zero h0 c, lead_zero h0 c]
theorem pS_per {fam : List Rule} (G : Good fam) {i T : Nat} (hT : per fam ∣ T) : pS fam (i + T) = pS fam i := by
  have e : ∀ j : Nat, pS fam j = 1 - sm (fun k => lead fam (j + 1) (k + 1)) 9 := fun j => by
    rw [← mates_lead]
    rfl
  rw [e, e]
  have e2 : i + T + 1 = i + 1 + T := by omega
  rw [e2]
  congr 1
  exact sm_congr 9 fun k _ => lead_per G (Nat.succ_pos k) hT
theorem pS_mod {fam : List Rule} (G : Good fam) {i T : Nat} (hT : per fam ∣ T) : pS fam (i % T) = pS fam i := by
  have h := Nat.mod_add_div i T
  conv => rhs; rw [← h]
  exact (pS_per G (Nat.dvd_trans hT ⟨_, rfl⟩)).symm
/-! two rows of exponents -/
theorem prA_step (p : S) (j : Nat) : prA p (j + 1) (j + 1) = prA p j (j + 1) + p j := by
  have z := lapF_self (j + 1) (Nat.succ_pos j) (p j) (prA p j) (prA_zero p j) (p j).natAbs
  show lapF (j + 1) (p j) (p j).natAbs (prA p j) (j + 1) = _
  rw [z]
  by_cases c : 0 < p j
  · rw [if_pos c]
    omega
  · rw [if_neg c]
    omega
theorem prA_low (p : S) {j k : Nat} (h : k ≤ j) : prA p (j + 1) k = prA p j k := by
  rw [prA_far p (j + 1) k (by omega), prA_far p j k h]
end Fm
namespace Fm
open PySem PySem.Spec PyProof.Rows L2 Dr Xv LamX Ps Gn
/-- where two rows of exponents part, the first such n -/
def dueN (f g : S) (N : Nat) : Option Nat := (List.range N).find? fun i => decide (f i ≠ g i)
def dueV (f g : S) (N : Nat) : V := match dueN f g N with
  | none => .non
  | some i => .int ((i : Int) + 1)
end Fm
namespace Fm
open PySem PySem.Spec PyProof.Rows L2 Dr Xv LamX Ps Gn
theorem due_some {f g : S} {N i : Nat} (h : i < N) (h1 : ∀ j, j < i → f j = g j) (h2 : f i ≠ g i) : dueN f g N = some i := by
  unfold dueN
  rw [List.find?_range_eq_some]
  refine ⟨decide_eq_true h2, List.mem_range.mpr h, fun j hj => ?_⟩
  rw [h1 j hj]
  simp
theorem due_none {f g : S} {N : Nat} (h1 : ∀ j, j < N → f j = g j) : dueN f g N = none := by
  unfold dueN
  rw [List.find?_range_eq_none]
  intro j hj
  rw [h1 j hj]
  simp
theorem due_cases (f g : S) (N : Nat) : (∃ i, i < N ∧ (∀ j, j < i → f j = g j) ∧ f i ≠ g i) ∨ ∀ j, j < N → f j = g j := by
  induction N with
  | zero => exact .inr fun j h => absurd h (Nat.not_lt_zero j)
  | succ N ih =>
    rcases ih with ⟨i, h, h1, h2⟩ | h
    · exact .inl ⟨i, by omega, h1, h2⟩
    · by_cases c : f N = g N
      · refine .inr fun j hj => ?_
        by_cases e : j = N
        · rw [e, c]
        · exact h j (by omega)
      · exact .inl ⟨N, Nat.lt_succ_self N, h, c⟩
end Fm
namespace Fm
open PySem PySem.Spec PyProof.Rows L2 Dr Xv LamX Ps Gn
theorem fam1 {H : Hp} {r t f : Addr} {m l : Int} {rs : List Int} (hr : H r = none) (ht : upd H r (.tup (rs.map V.int)) t = none) (hf : upd (upd H r (.tup (rs.map V.int))) t (.tup [.int m, .ref r, .int l]) f = none) : FamAt (upd (upd (upd H r (.tup (rs.map V.int))) t (.tup [.int m, .ref r, .int l])) f (.lst [.ref t])) f [(m, rs, l)] := by
  have e1 := same_new (o := .lst [.ref t]) hf _ _ (same_new (o := .tup [.int m, .ref r, .int l]) ht r _ upd_same)
  have e2 := same_new (o := .lst [.ref t]) hf t _ upd_same
  refine ⟨[t], [r], upd_same, rfl, rfl, fun i t' r' f' a b c => ?_⟩
  match i, a, b, c with
  | 0, a, b, c =>
    cases a
    cases b
    cases c
    exact ⟨e2, e1⟩
theorem fam2 {H H1 : Hp} {r t r1 t1 f : Addr} {m l m1 l1 : Int} {rs rs1 : List Int} (g1 : H t = some (.tup [.int m, .ref r, .int l])) (g2 : H r = some (.tup (rs.map V.int))) (g3 : H t1 = some (.tup [.int m1, .ref r1, .int l1])) (g4 : H r1 = some (.tup (rs1.map V.int))) (hf : H f = none) : FamAt (upd H f (.lst [.ref t, .ref t1])) f [(m, rs, l), (m1, rs1, l1)] := by
  have s := same_new (o := .lst [.ref t, .ref t1]) hf
  refine ⟨[t, t1], [r, r1], upd_same, rfl, rfl, fun i t' r' f' a b c => ?_⟩
  match i, a, b, c with
  | 0, a, b, c =>
    cases a
    cases b
    cases c
    exact ⟨s _ _ g1, s _ _ g2⟩
  | 1, a, b, c =>
    cases a
    cases b
    cases c
    exact ⟨s _ _ g3, s _ _ g4⟩
/-- a list of two families -/
structure Pr (S d l : Addr) (H : Hp) (p a b : Addr) (fa fb : List Rule) : Prop where
  at_ : H p = some (.lst [.ref a, .ref b])
  pS : p ≠ S
  aS : a ≠ S
  bS : b ≠ S
  pd : p ≠ d
  pl : p ≠ l
  al : a ≠ l
  bl : b ≠ l
  Fa : FamAt H a fa
  Fb : FamAt H b fb
  Ga : Good fa
  Gb : Good fb
theorem Pr.same {S d l p a b : Addr} {H H' : Hp} {fa fb : List Rule} (h : Pr S d l H p a b fa fb) (s : Same H H') : Pr S d l H' p a b fa fb := { h with at_ := s _ _ h.at_, Fa := h.Fa.same s, Fb := h.Fb.same s }
theorem Pr.put {S d l p a b : Addr} {H : Hp} {fa fb : List Rule} {ys : List V} {o : HO} (h : Pr S d l H p a b fa fb) (hS : H S = some (.lst ys)) : Pr S d l (upd H S o) p a b fa fb := { h with at_ := by rw [upd_ne h.pS]; exact h.at_, Fa := h.Fa.put hS h.aS, Fb := h.Fb.put hS h.bS }
theorem Pr.sx {S d l c p a b : Addr} {H H' : Hp} {fa fb : List Rule} (h : Pr S d l H p a b fa fb) (D : Draw H d l c) (s : SameX d l H H') : Pr S d l H' p a b fa fb := { h with at_ := s _ _ h.at_ h.pd h.pl, Fa := h.Fa.sx D h.al s, Fb := h.Fb.sx D h.bl s }
theorem Pr.to {S S' d l p a b : Addr} {H : Hp} {fa fb : List Rule} (h : Pr S d l H p a b fa fb) (n : H S' = none) : Pr S' d l H p a b fa fb := { h with pS := ne_of_none h.at_ n, aS := h.Fa.ne n, bS := h.Fb.ne n }
theorem good0 {m l : Int} (m1 : 1 ≤ m) (m2 : m ≤ 24) (l1 : 1 ≤ l) (l2 : l ≤ 9) : GoodR (m, [0], l) := ⟨m1, m2, l1, l2, (fun z => by cases z), by
  show (decide ((0 : Int) ≤ 0) && decide (0 < m) && true) = true
  rw [decide_eq_true (by omega : (0 : Int) < m)]
  rfl, rfl⟩
theorem good_one {f : Rule} (h : GoodR f) : Good [f] := ⟨by show 1 ≤ 6; decide, fun g hg => by rw [List.mem_singleton.mp hg]; exact h⟩
theorem good_two {f g : Rule} (h : GoodR f) (k : GoodR g) : Good [f, g] := ⟨by show 2 ≤ 6; decide, fun x hx => by
  rcases List.mem_cons.mp hx with rfl | hx
  · exact h
  · rw [List.mem_singleton.mp hx]
    exact k⟩
end Fm
namespace Fm
open PySem PySem.Spec PyProof.Rows L2 Dr Xv LamX Ps Gn
theorem row_take {n m : Nat} {b : S} (h : m ≤ n) : cutV (rowOf n b) none (some (m : Int)) = rowOf m b := by
  show cutV (((List.range n).map b).map V.int) none (some (m : Int)) = _
  rw [cut_head (by rw [List.length_map, List.length_range]; exact h), ← List.map_take, List.take_range, Nat.min_eq_left h]
  rfl
theorem row_drop {m n : Nat} {b : S} : cutV (rowOf (m + n) b) (some (m : Int)) none = rowOf n fun i => b (m + i) := by
  show cutV (((List.range (m + n)).map b).map V.int) (some (m : Int)) none = _
  rw [cut_tail, ← List.map_drop]
  show _ = ((List.range n).map fun i => b (m + i)).map V.int
  congr 1
  refine List.ext_getElem (by rw [List.length_map, List.length_drop, List.length_range, List.length_map, List.length_range]; omega) fun i h1 h2 => ?_
  rw [List.getElem_map, List.getElem_drop, List.getElem_range, List.getElem_map, List.getElem_range]
theorem rep_ints (ns : List Int) : ∀ k : Nat, (List.replicate k (ns.map V.int)).flatten = ((List.replicate k ns).flatten).map V.int
  | 0 => rfl
  | k + 1 => by
    rw [List.replicate_succ, List.flatten_cons, rep_ints ns k, List.replicate_succ, List.flatten_cons, List.map_append]
theorem rep_get {ns : List Int} (h : 0 < ns.length) : ∀ (k i : Nat), i < k * ns.length → (List.replicate k ns).flatten[i]? = ns[i % ns.length]?
  | 0, i, hi => by omega
  | k + 1, i, hi => by
    rw [List.replicate_succ, List.flatten_cons]
    by_cases c : i < ns.length
    · rw [List.getElem?_append_left c, Nat.mod_eq_of_lt c]
    · have e := Nat.mod_eq_sub_mod (show ns.length ≤ i by omega)
      rw [List.getElem?_append_right (by omega), rep_get h k _ (by rw [Nat.add_mul] at hi; omega), e]
theorem rep_len (ns : List Int) : ∀ k : Nat, (List.replicate k ns).flatten.length = k * ns.length
  | 0 => by
    rw [Nat.zero_mul]
    rfl
  | k + 1 => by
    rw [List.replicate_succ, List.flatten_cons, List.length_append, rep_len ns k, Nat.add_mul]
    omega
theorem rep_take {P N k : Nat} {b : S} (hP : 0 < P) (h : N ≤ k * P) (hb : ∀ i, b (i % P) = b i) : ((List.replicate k ((List.range P).map b)).flatten).take N = (List.range N).map b := by
  have hl : ((List.range P).map b).length = P := by rw [List.length_map, List.length_range]
  refine List.ext_getElem? fun i => ?_
  by_cases c : i < N
  · rw [List.getElem?_take_of_lt c, rep_get (by rw [hl]; exact hP) k i (by rw [hl]; omega), hl, List.getElem?_map, List.getElem?_map, List.getElem?_range (Nat.mod_lt _ hP), List.getElem?_range c]
    show some (b (i % P)) = some (b i)
    rw [hb]
  · rw [List.getElem?_eq_none (by rw [List.length_take]; omega), List.getElem?_eq_none (by rw [List.length_map, List.length_range]; omega)]
/-- where two rows part, counted from 1 -/
def unl (f g : S) (N : Nat) : List Int := ((List.range N).filter fun i => decide (f i ≠ g i)).map fun i : Nat => (i : Int) + 1
theorem unl_succ (f g : S) (N : Nat) : unl f g (N + 1) = unl f g N ++ if f N = g N then [] else [(N : Int) + 1] := by
  unfold unl
  rw [List.range_succ, List.filter_append, List.map_append]
  by_cases c : f N = g N
  · rw [List.filter_cons_of_neg (by simp [c]), if_pos c]
    rfl
  · rw [List.filter_cons_of_pos (by simp [c]), if_neg c]
    rfl
theorem unl_len (f g : S) (N : Nat) : (unl f g N).length ≤ N := by
  unfold unl
  rw [List.length_map]
  have := List.length_filter_le (fun i => decide (f i ≠ g i)) (List.range N)
  rw [List.length_range] at this
  exact this
theorem unl_due (f g : S) (N : Nat) : (dueN f g N = none ∧ unl f g N = []) ∨ ∃ i r, dueN f g N = some i ∧ unl f g N = ((i : Int) + 1) :: r := by
  have h := List.head?_filter (p := fun i => decide (f i ≠ g i)) (l := List.range N)
  have e : dueN f g N = (List.range N).find? fun i => decide (f i ≠ g i) := rfl
  unfold unl
  rw [e, ← h]
  cases (List.range N).filter fun i => decide (f i ≠ g i) with
  | nil => exact .inl ⟨rfl, rfl⟩
  | cons i r => exact .inr ⟨i, _, rfl, rfl⟩
theorem due_spec {f g : S} {N i : Nat} (h : dueN f g N = some i) : i < N ∧ (∀ j, j < i → f j = g j) ∧ f i ≠ g i := by
  unfold dueN at h
  rw [List.find?_range_eq_some] at h
  obtain ⟨h1, h2, h3⟩ := h
  refine ⟨List.mem_range.mp h2, fun j hj => ?_, of_decide_eq_true h1⟩
  have z := h3 j hj
  rw [Bool.not_eq_true', decide_eq_false_iff_not] at z
  exact Classical.not_not.mp z
theorem RulesAt.append {H : Hp} {ts rs ts' rs' : List Addr} {fam fam' : List Rule} (h : RulesAt H ts rs fam) (g : RulesAt H ts' rs' fam') : RulesAt H (ts ++ ts') (rs ++ rs') (fam ++ fam') := by
  refine ⟨by rw [List.length_append, List.length_append, h.l1, g.l1], by rw [List.length_append, List.length_append, h.l2, g.l2], fun i t r f a b c => ?_⟩
  by_cases hi : i < fam.length
  · rw [List.getElem?_append_left (by rw [h.l1]; exact hi)] at a
    rw [List.getElem?_append_left (by rw [h.l2]; exact hi)] at b
    rw [List.getElem?_append_left hi] at c
    exact h.at_ i t r f a b c
  · rw [List.getElem?_append_right (by rw [h.l1]; omega), h.l1] at a
    rw [List.getElem?_append_right (by rw [h.l2]; omega), h.l2] at b
    rw [List.getElem?_append_right (by omega)] at c
    exact g.at_ _ t r f a b c
theorem RulesAt.rev {H : Hp} {ts rs : List Addr} {fam : List Rule} (h : RulesAt H ts rs fam) : RulesAt H ts.reverse rs.reverse fam.reverse := by
  refine ⟨by rw [List.length_reverse, List.length_reverse, h.l1], by rw [List.length_reverse, List.length_reverse, h.l2], fun i t r f a b c => ?_⟩
  have hi : i < fam.length := by
    have := (List.getElem?_eq_some_iff.mp c).1
    rwa [List.length_reverse] at this
  rw [List.getElem?_reverse (by rw [h.l1]; exact hi), h.l1] at a
  rw [List.getElem?_reverse (by rw [h.l2]; exact hi), h.l2] at b
  rw [List.getElem?_reverse hi] at c
  exact h.at_ _ t r f a b c
theorem RulesAt.take {H : Hp} {ts rs : List Addr} {fam : List Rule} (h : RulesAt H ts rs fam) (k : Nat) : RulesAt H (ts.take k) (rs.take k) (fam.take k) := by
  refine ⟨by rw [List.length_take, List.length_take, h.l1], by rw [List.length_take, List.length_take, h.l2], fun i t r f a b c => ?_⟩
  rw [List.getElem?_take] at a b c
  by_cases hi : i < k
  · rw [if_pos hi] at a b c
    exact h.at_ i t r f a b c
  · rw [if_neg hi] at a
    cases a
theorem good_other {fam : List Rule} (G : Good fam) (h : fam.length ≤ 5) : Good (fam.reverse ++ fam.take 1) := by
  refine ⟨by rw [List.length_append, List.length_reverse, List.length_take]; omega, fun f hf => ?_⟩
  rcases List.mem_append.mp hf with hf | hf
  · exact G.r f (List.mem_reverse.mp hf)
  · exact G.r f (List.mem_of_mem_take hf)
end Fm
namespace Fm
open PySem PySem.Spec PyProof.Rows L2 Dr Xv LamX Ps Gn
/-- the coefficients: alike below the first unlike exponent, unlike there -/
theorem prA_due {f g : S} {i : Nat} (h1 : ∀ j, j < i → f j = g j) (h2 : f i ≠ g i) : (∀ k, k < i + 1 → prA f (i + 1) k = prA g (i + 1) k) ∧ prA f (i + 1) (i + 1) ≠ prA g (i + 1) (i + 1) := by
  have e : prA f i = prA g i := prA_congr i h1
  refine ⟨fun k hk => ?_, fun z => ?_⟩
  · rw [prA_low f (by omega), prA_low g (by omega), e]
  · rw [prA_step, prA_step, e] at z
    exact h2 (by omega)
end Fm

set_option Elab.async false
set_option linter.all false
set_option maxRecDepth 100000
set_option maxHeartbeats 4000000
set_option pp.maxSteps 3000
/-! signs of numbers without squares -/
namespace Qm
open Ps
def posM : Nat := 357864322797039220779004204290932500617729335688926194993959676623565202010907542622523256280188935825623498639766277664763069506
def negM : Nat := 9885086068446427339947811691217398283491973206714783879254048869444760464326975159892514373505213130355473975452025057284801046700
/-- the sign of a number without squares -/
def mu (n : Nat) : Int := if posM.testBit n then 1 else if negM.testBit n then -1 else 0
theorem mu_sum : ∀ m, m < 433 → 1 ≤ m → sm (fun t => Ev (t + 1) m * mu (t + 1)) m = if m = 1 then 1 else 0 := by decide +kernel
theorem mu_abs : ∀ c, c < 241 → 1 ≤ c → sm (fun j => ((Ev (j + 1) c * mu (c / (j + 1))).natAbs : Int)) c ≤ 16 := by decide +kernel
def dks (T i : Nat) : List Nat := ((List.range i).map (· + 1)).filter fun c => decide (c ∣ T)
theorem dks_len : ∀ T, T < 433 → (dks T T).length < 64 := by decide +kernel
end Qm

set_option Elab.async false
set_option linter.all false
set_option maxRecDepth 100000
set_option maxHeartbeats 4000000
set_option pp.maxSteps 3000
/-! exponents over divisors -/
namespace Qm
open Ps
theorem Ev_one {n k : Nat} (h : n ∣ k) (hk : 0 < k) : Ev n k = 1 := by
  unfold Ev
  rw [if_pos ⟨by omega, h⟩]
theorem Ev_no {n k : Nat} (h : ¬ n ∣ k) : Ev n k = 0 := by
  unfold Ev
  rw [if_neg fun z => h z.2]
theorem Ev_low {n k : Nat} (hk : 0 < k) (h : k < n) : Ev n k = 0 := Ev_no fun z => by
  have := Nat.le_of_dvd hk z
  omega
theorem sm_ext (f : Nat → Int) {n : Nat} : ∀ N, n ≤ N → (∀ i, n ≤ i → i < N → f i = 0) → sm f N = sm f n
  | 0, h, _ => by
    have : n = 0 := by omega
    rw [this]
  | N + 1, h, z => by
    by_cases c : n = N + 1
    · rw [c]
    · show sm f N + f N = _
      rw [sm_ext f N (by omega) (fun i h1 h2 => z i h1 (by omega)), z N (by omega) (by omega), Int.add_zero]
theorem sm_swap (f : Nat → Nat → Int) (n : Nat) : ∀ m, sm (fun i => sm (fun j => f i j) n) m = sm (fun j => sm (fun i => f i j) m) n
  | 0 => (sm_zero n).symm
  | m + 1 => by
    show sm (fun i => sm (fun j => f i j) n) m + sm (fun j => f m j) n = sm (fun j => sm (fun i => f i j) m + f m j) n
    rw [sm_swap f n m, sm_add]
/-- only each b-th counts -/
theorem sm_mult {b : Nat} (hb : 0 < b) (g : Nat → Int) : ∀ m, sm (fun i => if b ∣ i + 1 then g ((i + 1) / b) else 0) (b * m) = sm (fun t => g (t + 1)) m
  | 0 => by
    rw [Nat.mul_zero]
    rfl
  | m + 1 => by
    rw [Nat.mul_succ, sm_split, sm_mult hb g m]
    show _ = sm (fun t => g (t + 1)) m + g (m + 1)
    congr 1
    obtain ⟨k, rfl⟩ : ∃ k, b = k + 1 := ⟨b - 1, by omega⟩
    show sm _ k + _ = _
    have z : sm (fun i => if (k + 1) ∣ (k + 1) * m + i + 1 then g (((k + 1) * m + i + 1) / (k + 1)) else 0) k = 0 := by
      rw [sm_congr k fun i hi => ?_, sm_zero]
      rw [if_neg]
      intro d
      have d2 : (k + 1) ∣ i + 1 := by
        have := (Nat.dvd_add_right (Nat.dvd_mul_right (k + 1) m)).mp (by rwa [Nat.add_assoc] at d)
        exact this
      have := Nat.le_of_dvd (by omega) d2
      omega
    rw [z, Int.zero_add]
    have e : (k + 1) * m + k + 1 = (k + 1) * (m + 1) := by rw [Nat.mul_succ]; omega
    show (if (k + 1) ∣ (k + 1) * m + k + 1 then g (((k + 1) * m + k + 1) / (k + 1)) else 0) = _
    rw [e, if_pos (Nat.dvd_mul_right _ _), Nat.mul_div_cancel_left _ (by omega)]
/-- the exponent at c -/
def mo (p : S) (c : Nat) : Int := -(sm (fun j => p j * (Ev (j + 1) c * mu (c / (j + 1)))) c)
theorem inner {b d : Nat} (hb : 1 ≤ b) (hd : 1 ≤ d) (h : d < 433) : sm (fun i => Ev b (i + 1) * mu ((i + 1) / b) * Ev (i + 1) d) d = if b = d then 1 else 0 := by
  by_cases c : b ∣ d
  · obtain ⟨m, rfl⟩ := c
    have m1 : 1 ≤ m := Nat.pos_of_ne_zero fun z => by
      rw [z, Nat.mul_zero] at hd
      omega
    have mb : m ≤ b * m := Nat.le_mul_of_pos_left m hb
    have z := sm_mult hb (fun t => Ev t m * mu t) m
    rw [mu_sum m (by omega) m1] at z
    rw [← (show (if m = 1 then (1 : Int) else 0) = if b = b * m then 1 else 0 from ?_), ← z]
    · refine sm_congr _ fun i _ => ?_
      by_cases e : b ∣ i + 1
      · obtain ⟨t, et⟩ := e
        rw [if_pos ⟨t, et⟩, Ev_one ⟨t, et⟩ (by omega), et, Nat.mul_div_cancel_left t hb, Int.one_mul]
        have t1 : 0 < t := Nat.pos_of_ne_zero fun z => by
          rw [z, Nat.mul_zero] at et
          omega
        rw [Int.mul_comm]
        congr 1
        by_cases q : t ∣ m
        · rw [Ev_one q (by omega), Ev_one (Nat.mul_dvd_mul_left b q) (by omega)]
        · rw [Ev_no q, Ev_no fun z => q (Nat.dvd_of_mul_dvd_mul_left hb z)]
      · rw [if_neg e, Ev_no e, Int.zero_mul, Int.zero_mul]
    · by_cases e : m = 1
      · rw [if_pos e, if_pos (by rw [e, Nat.mul_one])]
      · rw [if_neg e, if_neg]
        intro z
        have : b * 1 = b * m := by rw [Nat.mul_one]; exact z
        exact e (Nat.eq_of_mul_eq_mul_left hb this).symm
  · rw [if_neg (fun z : b = d => c (by rw [z]; exact Nat.dvd_refl d))]
    rw [sm_congr d fun i _ => ?_, sm_zero]
    by_cases e : b ∣ i + 1
    · rw [Ev_no (n := i + 1) fun z => c (Nat.dvd_trans e z), Int.mul_zero]
    · rw [Ev_no e, Int.zero_mul, Int.zero_mul]
theorem mo_sum (p : S) {d : Nat} (hd : 1 ≤ d) (h : d < 433) : sm (fun i => mo p (i + 1) * Ev (i + 1) d) d = -p (d - 1) := by
  have e1 : ∀ i, i < d → mo p (i + 1) * Ev (i + 1) d = sm (fun j => (-p j) * (Ev (j + 1) (i + 1) * mu ((i + 1) / (j + 1)) * Ev (i + 1) d)) d := fun i hi => by
    have z := sm_ext (fun j => p j * (Ev (j + 1) (i + 1) * mu ((i + 1) / (j + 1)))) (n := i + 1) d (by omega) fun j h1 h2 => by
      rw [Ev_low (by omega) (by omega), Int.zero_mul, Int.mul_zero]
    unfold mo
    rw [← z, Int.neg_mul, ← sm_mul', ← Int.neg_one_mul, ← sm_mul]
    refine sm_congr d fun j _ => ?_
    rw [Int.neg_one_mul, Int.neg_mul, Int.mul_assoc, Int.mul_assoc]
  rw [sm_congr d e1, sm_swap (fun i j => (-p j) * (Ev (j + 1) (i + 1) * mu ((i + 1) / (j + 1)) * Ev (i + 1) d))]
  have e2 : ∀ j, j < d → sm (fun i => (-p j) * (Ev (j + 1) (i + 1) * mu ((i + 1) / (j + 1)) * Ev (i + 1) d)) d = if j + 1 = d then -p j else 0 := fun j hj => by
    rw [sm_mul, inner (by omega) hd h]
    split
    · rw [Int.mul_one]
    · rw [Int.mul_zero]
  rw [sm_congr d e2]
  obtain ⟨n, rfl⟩ : ∃ n, d = n + 1 := ⟨d - 1, by omega⟩
  show sm _ n + _ = _
  rw [sm_congr n fun j hj => if_neg (by omega), sm_zero, Int.zero_add]
  show (if n + 1 = n + 1 then -p n else 0) = _
  rw [if_pos rfl]
  rfl
theorem mo_sum' (p : S) {d N : Nat} (hd : 1 ≤ d) (h : d < 433) (hN : d ≤ N) : sm (fun i => mo p (i + 1) * Ev (i + 1) d) N = -p (d - 1) := by
  rw [sm_ext _ N hN fun i h1 _ => by rw [Ev_low (by omega) (by omega), Int.mul_zero], mo_sum p hd h]
/-- what the program does -/
theorem mo_step (p : S) {d : Nat} (h : d + 1 < 433) : -p d - sm (fun i => mo p (i + 1) * Ev (i + 1) (d + 1)) d = mo p (d + 1) := by
  have z := mo_sum p (d := d + 1) (by omega) h
  have z' : sm (fun i => mo p (i + 1) * Ev (i + 1) (d + 1)) d + mo p (d + 1) * Ev (d + 1) (d + 1) = -p d := z
  rw [Ev_one (Nat.dvd_refl _) (by omega), Int.mul_one] at z'
  omega
theorem sm_natAbs (f : Nat → Int) (g : Nat → Int) : ∀ n, (∀ i, i < n → ((f i).natAbs : Int) ≤ g i) → ((sm f n).natAbs : Int) ≤ sm g n
  | 0, _ => Int.le_refl _
  | n + 1, h => by
    show ((sm f n + f n).natAbs : Int) ≤ sm g n + g n
    have h1 := sm_natAbs f g n fun i hi => h i (by omega)
    have h2 := h n (by omega)
    have := Int.natAbs_add_le (sm f n) (f n)
    omega
theorem mo_bound {p : S} {b : Nat} (hp : ∀ i, (p i).natAbs ≤ b) {c : Nat} (h1 : 1 ≤ c) (h : c < 241) : (mo p c).natAbs ≤ b * 16 := by
  unfold mo
  rw [Int.natAbs_neg]
  have z := sm_natAbs (fun j => p j * (Ev (j + 1) c * mu (c / (j + 1)))) (fun j => (b : Int) * ((Ev (j + 1) c * mu (c / (j + 1))).natAbs : Int)) c fun i _ => by
    rw [Int.natAbs_mul]
    have := Nat.mul_le_mul_right ((Ev (i + 1) c * mu (c / (i + 1))).natAbs) (hp i)
    rw [← Int.natCast_mul]
    omega
  rw [sm_mul] at z
  have z2 := Int.mul_le_mul_of_nonneg_left (mu_abs c h h1) (Int.natCast_nonneg b)
  have e : ((b * 16 : Nat) : Int) = (b : Int) * 16 := Int.natCast_mul b 16
  omega
end Qm

set_option Elab.async false
set_option linter.all false
set_option maxRecDepth 100000
set_option maxHeartbeats 4000000
set_option pp.maxSteps 3000
/-! in how many ways a form is a number -/
namespace Th
open Ps Qm
/-- squares times a: those of the first y -/
def cx (x : Nat) : Int := if x = 0 then 1 else 2
def thp (a : Nat) : Nat → S
  | 0 => fun _ => 0
  | y + 1 => fun t => thp a y t + (if a * y * y = t then cx y else 0)
def th (a : Nat) : S := fun t => thp a (t + 1) t
theorem thp_far {a : Nat} (ha : 1 ≤ a) {t : Nat} : ∀ k, thp a (t + 1 + k) t = th a t
  | 0 => rfl
  | k + 1 => by
    show thp a (t + 1 + k) t + _ = _
    rw [thp_far ha k, if_neg, Int.add_zero]
    intro z'
    have z : a * (t + 1 + k) * (t + 1 + k) = t := z'
    have h1 : 1 * (t + 1 + k) * 1 ≤ a * (t + 1 + k) * (t + 1 + k) := Nat.mul_le_mul (Nat.mul_le_mul_right _ ha) (by omega)
    rw [z] at h1
    omega
theorem thp_ge {a y t : Nat} (ha : 1 ≤ a) (h : t < y) : thp a y t = th a t := by
  obtain ⟨k, rfl⟩ : ∃ k, y = t + 1 + k := ⟨y - (t + 1), by omega⟩
  exact thp_far ha k
theorem th_zero {a : Nat} (ha : 1 ≤ a) : th a 0 = 1 := by
  show 0 + (if a * 0 * 0 = 0 then cx 0 else 0) = 1
  rw [if_pos (by simp)]
  rfl
theorem th_big {a : Nat} {t : Nat} (h0 : 1 ≤ t) (h : t < a) : th a t = 0 := by
  have key : ∀ y, thp a y t = 0 := fun y => by
    induction y with
    | zero => rfl
    | succ y ih =>
      show thp a y t + _ = 0
      rw [ih, if_neg]
      · rfl
      · intro z
        by_cases c : y = 0
        · rw [c, Nat.mul_zero] at z
          omega
        · have h1 : a * 1 * 1 ≤ a * y * y := Nat.mul_le_mul (Nat.mul_le_mul_left _ (by omega)) (by omega)
          rw [z] at h1
          omega
  exact key _
/-- one more square -/
theorem cv_step (f : S) (a y n : Nat) : cv f (thp a (y + 1)) n = cv f (thp a y) n + (if a * y * y ≤ n then cx y * f (n - a * y * y) else 0) := by
  show sm (fun i => f i * (thp a y (n - i) + (if a * y * y = n - i then cx y else 0))) (n + 1) = sm (fun i => f i * thp a y (n - i)) (n + 1) + _
  rw [sm_congr (n + 1) (g := fun i => f i * thp a y (n - i) + (if a * y * y = n - i then cx y * f i else 0)) fun i _ => ?_, sm_add]
  · congr 1
    by_cases c : a * y * y ≤ n
    · rw [if_pos c, sm_one_at _ (m := n - a * y * y) (n + 1) (by omega) fun i hi hne => if_neg (by omega), if_pos (by omega)]
    · rw [if_neg c, sm_congr (n + 1) (g := fun _ => 0) fun i hi => if_neg (by omega), sm_zero]
  · show _ = _
    rw [Int.mul_add]
    congr 1
    split
    · exact Int.mul_comm _ _
    · exact Int.mul_zero _
/-- the ways of a form -/
def wy (form : List Nat) : S := form.foldl (fun r a => cv r (th a)) one
theorem wy_snoc (form : List Nat) (a : Nat) : wy (form ++ [a]) = cv (wy form) (th a) := by
  unfold wy
  rw [List.foldl_append]
  rfl
theorem wy_perm {f g : List Nat} (h : f.Perm g) : wy f = wy g := by
  have key : ∀ {f g : List Nat}, f.Perm g → ∀ r : S, f.foldl (fun r a => cv r (th a)) r = g.foldl (fun r a => cv r (th a)) r := by
    intro f g h
    induction h with
    | nil => exact fun _ => rfl
    | cons x _ ih => exact fun r => ih _
    | swap x y l =>
      intro r
      show l.foldl _ (cv (cv r (th y)) (th x)) = l.foldl _ (cv (cv r (th x)) (th y))
      rw [cv_assoc, cv_assoc, cv_comm (th y)]
    | trans _ _ i1 i2 => exact fun r => (i1 r).trans (i2 r)
  exact key h one
end Th

set_option Elab.async false
set_option linter.all false
set_option maxRecDepth 100000
set_option maxHeartbeats 4000000
set_option pp.maxSteps 3000
/-! a form that is 1 to 15 is each number to 120 -/
namespace Th
open Ps Qm
/-- n is told by the form -/
def Tells (f : List Nat) (n : Nat) : Prop := match f with
  | [] => n = 0
  | a :: r => ∃ x, a * x * x ≤ n ∧ Tells r (n - a * x * x)
theorem tells_zero : ∀ f : List Nat, Tells f 0
  | [] => rfl
  | a :: r => ⟨0, by simp, tells_zero r⟩
theorem tells_cons {f : List Nat} {n : Nat} (a : Nat) (h : Tells f n) : Tells (a :: f) n := ⟨0, by simp, by simpa using h⟩
theorem tells_sub {f g : List Nat} (h : f.Sublist g) : ∀ {n : Nat}, Tells f n → Tells g n := by
  induction h with
  | slnil => exact fun h => h
  | cons a _ ih => exact fun h => tells_cons a (ih h)
  | cons_cons a _ ih =>
    rintro n ⟨x, h1, h2⟩
    exact ⟨x, h1, ih h2⟩
theorem tells_perm {f g : List Nat} (h : f.Perm g) : ∀ {n : Nat}, Tells f n → Tells g n := by
  induction h with
  | nil => exact fun h => h
  | cons a _ ih =>
    rintro n ⟨x, h1, h2⟩
    exact ⟨x, h1, ih h2⟩
  | swap a b l =>
    rintro n ⟨x, h1, y, h2, h3⟩
    refine ⟨y, by omega, x, by omega, ?_⟩
    rw [show n - a * y * y - b * x * x = n - b * x * x - a * y * y by omega]
    exact h3
  | trans _ _ i1 i2 => exact fun h => i2 (i1 h)
/-- the numbers to 120 that are told, as bits -/
def bs (m a : Nat) : Nat := (List.range 11).foldl (fun acc x => acc ||| (m <<< (a * x * x))) 0 % 2 ^ 121
def bitsL : List Nat → Nat
  | [] => 1
  | a :: r => bs (bitsL r) a
theorem fold_or (m a n : Nat) : ∀ (l : List Nat) (acc : Nat), (l.foldl (fun acc x => acc ||| (m <<< (a * x * x))) acc).testBit n = (acc.testBit n || l.any fun x => decide (a * x * x ≤ n) && m.testBit (n - a * x * x))
  | [], acc => by simp
  | x :: r, acc => by
    rw [List.foldl_cons, fold_or m a n r, Nat.testBit_or, Nat.testBit_shiftLeft, List.any_cons, Bool.or_assoc]
theorem bs_bit {m a n : Nat} (h : n < 121) : (bs m a).testBit n = (List.range 11).any fun x => decide (a * x * x ≤ n) && m.testBit (n - a * x * x) := by
  unfold bs
  rw [Nat.testBit_mod_two_pow, fold_or, decide_eq_true h, Bool.true_and, Nat.zero_testBit, Bool.false_or]
theorem bits_tells : ∀ {f : List Nat} {n : Nat}, (∀ a ∈ f, 1 ≤ a) → n < 121 → ((bitsL f).testBit n = true ↔ Tells f n)
  | [], n, _, _ => by
    show (1 : Nat).testBit n = true ↔ n = 0
    rw [Nat.testBit_one_eq_true_iff_self_eq_zero]
  | a :: r, n, ha, hn => by
    show (bs (bitsL r) a).testBit n = true ↔ ∃ x, a * x * x ≤ n ∧ Tells r (n - a * x * x)
    rw [bs_bit hn, List.any_eq_true]
    have ih : ∀ {k : Nat}, k < 121 → ((bitsL r).testBit k = true ↔ Tells r k) := fun {k} hk => bits_tells (fun b hb => ha b (List.mem_cons_of_mem _ hb)) hk
    constructor
    · rintro ⟨x, _, hx⟩
      rw [Bool.and_eq_true, decide_eq_true_eq] at hx
      exact ⟨x, hx.1, (ih (by omega)).mp hx.2⟩
    · rintro ⟨x, h1, h2⟩
      refine ⟨x, List.mem_range.mpr (Nat.lt_of_not_le fun c => ?_), ?_⟩
      · have a1 := ha a List.mem_cons_self
        have q1 : 11 * 11 ≤ x * x := Nat.mul_le_mul c c
        have q2 : 1 * (x * x) ≤ a * (x * x) := Nat.mul_le_mul_right _ a1
        rw [← Nat.mul_assoc a] at q2
        omega
      · rw [Bool.and_eq_true, decide_eq_true_eq]
        exact ⟨h1, (ih (by omega)).mpr h2⟩
/-- the least that is missed, to 15 -/
def miss (f : List Nat) : Option Nat := (List.range 16).find? fun n => !(bitsL f).testBit n
def esc : Nat → List Nat → Bool
  | 0, _ => false
  | k + 1, f => match miss f with
    | none => bitsL f == 2 ^ 121 - 1
    | some t => (List.range t).all fun i => esc k ((i + 1) :: f)
theorem esc_all : esc 7 [] = true := by decide +kernel
/-- one more is needed -/
theorem need : ∀ {r s : List Nat} {n : Nat}, Tells (r ++ s) n → ¬ Tells s n → ∃ a ∈ r, a ≤ n
  | [], s, n, h, g => absurd h g
  | a :: r, s, n, ⟨x, h1, h2⟩, g => by
    by_cases c : x = 0
    · subst c
      obtain ⟨b, hb, hl⟩ := need (r := r) (by simpa using h2) g
      exact ⟨b, List.mem_cons_of_mem _ hb, hl⟩
    · refine ⟨a, List.mem_cons_self, ?_⟩
      have q1 : a * 1 * 1 ≤ a * x * x := Nat.mul_le_mul (Nat.mul_le_mul_left _ (by omega)) (by omega)
      omega
theorem esc_ok : ∀ (k : Nat) (s : List Nat), esc k s = true → (∀ a ∈ s, 1 ≤ a) → ∀ r : List Nat, (∀ a ∈ r, 1 ≤ a) → (∀ n, n < 16 → Tells (r ++ s) n) → ∀ n, n < 121 → Tells (r ++ s) n
  | 0, s, h, _, _, _, _, _, _ => by cases h
  | k + 1, s, h, hs, r, hr, h15, n, hn => by
    unfold esc at h
    cases e : miss s with
    | none =>
      rw [e] at h
      have h' : bitsL s = 2 ^ 121 - 1 := by simpa using h
      refine tells_sub (List.sublist_append_right r s) ((bits_tells hs hn).mp ?_)
      rw [h', Nat.testBit_two_pow_sub_one]
      exact decide_eq_true hn
    | some t =>
      rw [e] at h
      have ht := List.find?_some e
      have tm := List.mem_range.mp (List.mem_of_find?_eq_some e)
      have nt : ¬ Tells s t := fun z => by
        rw [(bits_tells hs (by omega)).mpr z] at ht
        cases ht
      obtain ⟨a, ha, hl⟩ := need (h15 t tm) nt
      have a1 := hr a ha
      have h2 := List.all_eq_true.mp h (a - 1) (List.mem_range.mpr (by omega))
      rw [show a - 1 + 1 = a by omega] at h2
      have pm : (r ++ s).Perm (r.erase a ++ (a :: s)) := by
        refine ((List.perm_cons_erase ha).append_right s).trans ?_
        exact List.perm_middle.symm
      refine tells_perm pm.symm (esc_ok k (a :: s) h2 (fun b hb => ?_) (r.erase a) (fun b hb => hr b (List.mem_of_mem_erase hb)) (fun m hm => tells_perm pm (h15 m hm)) n hn)
      rcases List.mem_cons.mp hb with rfl | hb
      · exact a1
      · exact hs b hb
theorem fifteen {f : List Nat} (h1 : ∀ a ∈ f, 1 ≤ a) (h : ∀ n, n < 16 → Tells f n) : ∀ n, n < 121 → Tells f n := fun n hn => by
  have z := esc_ok 7 [] esc_all (fun a h => by cases h) f h1 (fun m hm => by rw [List.append_nil]; exact h m hm) n hn
  rwa [List.append_nil] at z
end Th

set_option Elab.async false
set_option linter.all false
set_option maxRecDepth 100000
set_option maxHeartbeats 4000000
set_option pp.maxSteps 3000
/-! ways and what is told -/
namespace Th
open Ps Qm
theorem thp_nn (a t : Nat) : ∀ y, 0 ≤ thp a y t
  | 0 => Int.le_refl _
  | y + 1 => by
    show 0 ≤ thp a y t + (if a * y * y = t then cx y else 0)
    have h := thp_nn a t y
    have c0 : 0 ≤ cx y := by
      unfold cx
      split <;> decide
    by_cases c : a * y * y = t
    · rw [if_pos c]
      omega
    · rw [if_neg c, Int.add_zero]
      exact h
theorem thp_pos (a t : Nat) : ∀ y, 0 < thp a y t ↔ ∃ x, x < y ∧ a * x * x = t
  | 0 => ⟨fun h => absurd h (Int.lt_irrefl 0), fun ⟨x, h, _⟩ => absurd h (Nat.not_lt_zero x)⟩
  | y + 1 => by
    show 0 < thp a y t + (if a * y * y = t then cx y else 0) ↔ _
    have n := thp_nn a t y
    have ih := thp_pos a t y
    have c0 : 0 < cx y := by
      unfold cx
      split <;> decide
    constructor
    · intro h
      by_cases c : a * y * y = t
      · exact ⟨y, by omega, c⟩
      · rw [if_neg c, Int.add_zero] at h
        obtain ⟨x, h1, h2⟩ := ih.mp h
        exact ⟨x, by omega, h2⟩
    · rintro ⟨x, h1, h2⟩
      by_cases c : a * y * y = t
      · rw [if_pos c]
        omega
      · rw [if_neg c, Int.add_zero]
        refine ih.mpr ⟨x, ?_, h2⟩
        by_cases e : x = y
        · exact absurd (e ▸ h2) c
        · omega
theorem th_pos {a t : Nat} (ha : 1 ≤ a) : 0 < th a t ↔ ∃ x, a * x * x = t := by
  show 0 < thp a (t + 1) t ↔ _
  rw [thp_pos]
  constructor
  · rintro ⟨x, _, h⟩
    exact ⟨x, h⟩
  · rintro ⟨x, h⟩
    refine ⟨x, ?_, h⟩
    by_cases c : x = 0
    · omega
    · have h1 : 1 * x * 1 ≤ a * x * x := Nat.mul_le_mul (Nat.mul_le_mul_right _ ha) (by omega)
      rw [h] at h1
      omega
theorem th_nn (a t : Nat) : 0 ≤ th a t := thp_nn a t _
theorem sm_nn {f : Nat → Int} : ∀ n, (∀ i, i < n → 0 ≤ f i) → 0 ≤ sm f n ∧ (0 < sm f n ↔ ∃ i, i < n ∧ 0 < f i)
  | 0, _ => ⟨Int.le_refl _, fun h => absurd h (Int.lt_irrefl 0), fun ⟨i, h, _⟩ => absurd h (Nat.not_lt_zero i)⟩
  | n + 1, h => by
    obtain ⟨h1, h2⟩ := sm_nn (f := f) n fun i hi => h i (by omega)
    have h3 := h n (by omega)
    show 0 ≤ sm f n + f n ∧ (0 < sm f n + f n ↔ _)
    refine ⟨by omega, fun p => ?_, fun ⟨i, hi, p⟩ => ?_⟩
    · by_cases c : 0 < f n
      · exact ⟨n, by omega, c⟩
      · obtain ⟨i, hi, q⟩ := h2.mp (by omega)
        exact ⟨i, by omega, q⟩
    · by_cases c : i = n
      · rw [c] at p
        omega
      · have := h2.mpr ⟨i, by omega, p⟩
        omega
theorem wy_nn : ∀ (f : List Nat) (n : Nat), 0 ≤ wy f n := by
  have key : ∀ (f : List Nat) (r : S), (∀ n, 0 ≤ r n) → ∀ n, 0 ≤ f.foldl (fun r a => cv r (th a)) r n := by
    intro f
    induction f with
    | nil => exact fun r h n => h n
    | cons a f ih =>
      intro r h n
      refine ih _ (fun m => ?_) n
      exact (sm_nn (m + 1) fun i _ => Int.mul_nonneg (h i) (th_nn a _)).1
  intro f n
  refine key f one (fun m => ?_) n
  unfold one
  split <;> decide
theorem wy_cons (a : Nat) (f : List Nat) : wy (a :: f) = cv (wy f) (th a) := by
  have h : (a :: f).Perm (f ++ [a]) := (List.perm_append_singleton a f).symm
  rw [wy_perm h, wy_snoc]
/-- there is a way exactly if it is told -/
theorem wy_tells : ∀ {f : List Nat} {n : Nat}, (∀ a ∈ f, 1 ≤ a) → (0 < wy f n ↔ Tells f n)
  | [], n, _ => by
    show 0 < one n ↔ n = 0
    unfold one
    split
    · exact ⟨fun _ => ‹_›, fun _ => by decide⟩
    · exact ⟨fun h => absurd h (Int.lt_irrefl 0), fun h => absurd h ‹_›⟩
  | a :: f, n, h => by
    rw [wy_cons]
    have a1 := h a List.mem_cons_self
    have ih : ∀ {m : Nat}, 0 < wy f m ↔ Tells f m := wy_tells fun b hb => h b (List.mem_cons_of_mem _ hb)
    have z := (sm_nn (f := fun i => wy f i * th a (n - i)) (n + 1) fun i _ => Int.mul_nonneg (wy_nn f i) (th_nn a _)).2
    show 0 < sm (fun i => wy f i * th a (n - i)) (n + 1) ↔ ∃ x, a * x * x ≤ n ∧ Tells f (n - a * x * x)
    rw [z]
    constructor
    · rintro ⟨i, hi, p⟩
      have p1 : 0 < wy f i := by
        have := wy_nn f i
        by_cases c : wy f i = 0
        · rw [c, Int.zero_mul] at p
          exact absurd p (Int.lt_irrefl 0)
        · omega
      have p2 : 0 < th a (n - i) := by
        have := th_nn a (n - i)
        by_cases c : th a (n - i) = 0
        · rw [c, Int.mul_zero] at p
          exact absurd p (Int.lt_irrefl 0)
        · omega
      obtain ⟨x, hx⟩ := (th_pos a1).mp p2
      refine ⟨x, by omega, ?_⟩
      rw [hx, show n - (n - i) = i by omega]
      exact ih.mp p1
    · rintro ⟨x, h1, h2⟩
      refine ⟨n - a * x * x, by omega, Int.mul_pos (ih.mpr h2) ((th_pos a1).mpr ⟨x, by omega⟩)⟩
end Th

set_option Elab.async false
set_option linter.all false
set_option maxRecDepth 100000
set_option maxHeartbeats 4000000
set_option pp.maxSteps 3000
namespace Xv
open PySem PySem.Spec PyProof.Rows L2
/-! ### x *= e, isqrt -/
def ipIc (c : Int → Int → Prop) (f : Int → Int → Int) : TIp := fun x y H Q => ∃ i j, x = .int i ∧ y = .int j ∧ c i j ∧ Q (.int (f i j)) H
theorem ip_mulW {X : Cx} : PIp X .Mult (ipIc CMulW fun i j => i * j) := by
  intro pins s σ H x y v u Q I r1 r2 h
  obtain ⟨i, j, e1, e2, c, q⟩ := h
  subst e1; subst e2
  obtain ⟨t, rfl⟩ := r1
  obtain ⟨t', rfl⟩ := r2
  exact imul_int ⟨.int _, H, I.tok _, ⟨_, rfl⟩, q⟩ c.ok
def rIsqrt : List V → Hp → VK → Prop := fun vs H Q => ∃ a : Nat, vs = [.int (a : Int)] ∧ a < 2 ^ 64 ∧ ∀ r : Nat, r * r ≤ a → a < (r + 1) * (r + 1) → Q (.int (r : Int)) H
theorem cr_isqrt {X : Cx} : CallR X (.builtin "math.isqrt") rIsqrt := by
  intro pins s σ H vs us Q I r h
  obtain ⟨a, rfl, h1, q⟩ := h
  cases r with
  | cons r rr =>
    cases rr
    obtain ⟨t, rfl⟩ := r
    refine PySem.W.mg_isqrt (by omega) (by exact_mod_cast h1) ?_
    have sp := Float64.isqrt_spec ((a : Int)).toNat
    rw [Int.toNat_natCast] at sp ⊢
    exact ⟨.int _, H, I.tok _, ⟨_, rfl⟩, q _ sp.1 sp.2⟩
/-! ### a written dict from numbers to numbers -/
def ent1 (h : Int) (k v : Int) : Value → Value → Bool
  | .int k' _, .int v' _ => decide (k' = k) && (decide (v' = v) && decide (h = hashInt k))
  | _, _ => false
theorem ent1_ok {h k v : Int} {a b : Value} (e : ent1 h k v a b = true) : ∃ t u, a = .int k t ∧ b = .int v u ∧ h = hashInt k := by
  unfold ent1 at e
  split at e
  · rename_i k' t v' u
    rw [Bool.and_eq_true, Bool.and_eq_true, decide_eq_true_eq, decide_eq_true_eq, decide_eq_true_eq] at e
    obtain ⟨rfl, rfl, e3⟩ := e
    exact ⟨t, u, rfl, rfl, e3⟩
  · cases e
def entB : List DictEntry → List (Int × Int) → Bool
  | [], [] => true
  | e :: es, (k, v) :: r => ent1 e.hash k v e.key e.val && entB es r
  | _, _ => false
structure KDI (K : PySem.W.Frag) (a : Addr) (kvs : List (Int × Int)) : Prop where
  at_ : ∃ es n, K.lookup a = some ⟨.type "dict", none, .dict es n, #[]⟩ ∧ entB es.toList kvs = true
  nd : (kvs.map (·.1)).Nodup
  low : (a == sysModules) = false
def kdiB (K : PySem.W.Frag) (a : Addr) (kvs : List (Int × Int)) : Bool := (match K.lookup a with
  | some ⟨.type "dict", none, .dict es n, sl⟩ => decide (sl.toList = []) && entB es.toList kvs
  | _ => false) && (decide (kvs.map (·.1)).Nodup && !(a == sysModules))
theorem kdiB_ok {K : PySem.W.Frag} {a : Addr} {kvs : List (Int × Int)} (h : kdiB K a kvs = true) : KDI K a kvs := by
  unfold kdiB at h
  rw [Bool.and_eq_true, Bool.and_eq_true] at h
  obtain ⟨h1, h2, h3⟩ := h
  refine ⟨?_, of_decide_eq_true h2, by cases e : (a == sysModules) with
    | false => rfl
    | true => rw [e] at h3; cases h3⟩
  split at h1
  · rename_i es n sl e
    rw [Bool.and_eq_true, decide_eq_true_eq] at h1
    obtain ⟨l⟩ := sl
    obtain ⟨h4, h5⟩ := h1
    have h4' : l = [] := h4
    subst h4'
    exact ⟨es, n, e, h5⟩
  · cases h1
def valI (kvs : List (Int × Int)) (k : Int) : Option Int := (kvs.find? fun kv => kv.1 = k).map (·.2)
theorem ent_pairs {P : Program} {w : World} : ∀ {es : List DictEntry} {kvs : List (Int × Int)}, entB es kvs = true → ∃ vs : List (Key × Value), Pairs (mixKind P w) es vs ∧ vs.map (·.1) = kvs.map (fun kv => Sum.inl kv.1) ∧ (∀ e ∈ es, ∃ k, (mixKind P w).is k e.key = true ∧ e.hash = (mixKind P w).hash k) ∧
    ∀ k : Int, (valueAt vs (Sum.inl k) = none ∧ valI kvs k = none) ∨ ∃ t v, valueAt vs (Sum.inl k) = some (.int v t) ∧ valI kvs k = some v
  | [], [], _ => ⟨[], .nil, rfl, fun e he => (nomatch he), fun k => .inl ⟨rfl, rfl⟩⟩
  | [], _ :: _, h => by cases h
  | e :: es, [], h => by cases h
  | e :: es, (k, v) :: r, h => by
    obtain ⟨eh, ek, ev⟩ := e
    have h' : (ent1 eh k v ek ev && entB es r) = true := h
    rw [Bool.and_eq_true] at h'
    obtain ⟨h1, h2⟩ := h'
    obtain ⟨vs, p1, p2, p3, p4⟩ := ent_pairs (P := P) (w := w) h2
    obtain ⟨t', u', rfl, rfl, rfl⟩ := ent1_ok h1
    refine ⟨(Sum.inl k, .int v u') :: vs, .cons (mixKind_int P w _ _) rfl p1, by rw [List.map_cons, List.map_cons, p2], fun e he => ?_, fun k2 => ?_⟩
    · rcases List.mem_cons.mp he with rfl | he
      · exact ⟨Sum.inl k, mixKind_int P w _ _, rfl⟩
      · exact p3 e he
    · by_cases c : k = k2
      · subst c
        refine .inr ⟨u', v, ?_, ?_⟩
        · simp [valueAt]
        · simp [valI]
      · have c2 : ¬ (Sum.inl k : Key) = Sum.inl k2 := fun z => c (Sum.inl.inj z)
        have e1 : valueAt ((Sum.inl k, Value.int v u') :: vs) (Sum.inl k2) = valueAt vs (Sum.inl k2) := by simp [valueAt, List.find?_cons, c]
        have e2 : valI ((k, v) :: r) k2 = valI r k2 := by simp [valI, List.find?_cons, c]
        rw [e1, e2]
        exact p4 k2
theorem kdi_dict {X : Cx} {pins : List (Addr × Obj)} {σ : L2.St} {H : Hp} {s : Shared} {a : Addr} {kvs : List (Int × Int)} (I : Inv X pins σ H s) (D : KDI X.K a kvs) : ∃ vs : List (Key × Value), s.heap.DictOf (mixKind X.prog X.w) a vs ∧
    ∀ k : Int, (valueAt vs (Sum.inl k) = none ∧ valI kvs k = none) ∨ ∃ t v, valueAt vs (Sum.inl k) = some (.int v t) ∧ valI kvs k = some v := by
  obtain ⟨⟨es, n, hl, he⟩, nd, _⟩ := D
  obtain ⟨vs, p1, p2, p3, p4⟩ := ent_pairs (P := X.prog) (w := X.w) he
  refine ⟨vs, ⟨_, es, n, I.kIn _ _ hl, ⟨rfl, rfl, rfl⟩, rfl, fun e he => p3 e (Array.mem_toList_iff.mpr he), p1, ?_⟩, p4⟩
  rw [p2]
  have e : kvs.map (fun kv => (Sum.inl kv.1 : Key)) = (kvs.map (·.1)).map Sum.inl := by rw [List.map_map]; rfl
  rw [e]
  exact List.Pairwise.map Sum.inl (fun a b h z => h (Sum.inl.inj z)) nd
def rNotInKDI (K : PySem.W.Frag) : R2 := fun x y H Q => ∃ p kvs k, x = .int k ∧ y = .ref p ∧ KDI K p kvs ∧ Q (.bl (!(valI kvs k).isSome)) H
theorem op_notIn_kdi {X : Cx} : OpR X (compareOp .NotIn) (rNotInKDI X.K) := by
  intro pins s σ H x y v u Q I rx ry h
  obtain ⟨p, kvs, k, rfl, rfl, D, q⟩ := h
  obtain ⟨t, rfl⟩ := rx
  obtain rfl : u = Value.ref p := ry
  obtain ⟨vs, dd, hv⟩ := kdi_dict I D
  refine wpAny_notIn_of (mixKind_int X.prog X.w k t) D.low dd.mapOf ?_
  have e : (valueAt vs (Sum.inl k)).isSome = (valI kvs k).isSome := by
    rcases hv k with ⟨h1, h2⟩ | ⟨t, v, h1, h2⟩ <;> rw [h1, h2] <;> rfl
  rw [e]
  exact ⟨.bl _, H, I.tok _, rfl, q⟩
def rIxKDI (K : PySem.W.Frag) : R2 := fun x y H Q => ∃ p kvs k v, x = .ref p ∧ y = .int k ∧ KDI K p kvs ∧ valI kvs k = some v ∧ Q (.int v) H
theorem ix_kdi {X : Cx} : IxR X (rIxKDI X.K) := by
  intro value slice pins s σ H x y v u Q I rx ry h hs
  obtain ⟨p, kvs, k, z, rfl, rfl, D, e, q⟩ := h
  obtain rfl : v = Value.ref p := rx
  obtain ⟨t, rfl⟩ := ry
  obtain ⟨vs, dd, hv⟩ := kdi_dict I D
  rcases hv k with ⟨_, h2⟩ | ⟨t', v', h1, h2⟩
  · rw [h2] at e
    cases e
  · rw [h2] at e
    cases e
    exact tail_any dd.mapOf.typeIs slot_dict_getitem.lookup (wpAny_getItem_of (mixKind_int X.prog X.w k t) dd.mapOf h1 ⟨.int _, H, I.tok _, ⟨_, rfl⟩, q⟩) hs
end Xv

set_option Elab.async false
set_option linter.all false
set_option maxRecDepth 100000
set_option maxHeartbeats 4000000
set_option pp.maxSteps 3000
/-! squares that are enough; how great the ways are -/
namespace Th
open Ps Qm
theorem thp_more {a y t : Nat} (ha : 1 ≤ a) (h : t < a * y * y) : ∀ k, thp a (y + k) t = thp a y t
  | 0 => rfl
  | k + 1 => by
    show thp a (y + k) t + _ = _
    rw [thp_more ha h k, if_neg, Int.add_zero]
    intro z'
    have z : a * (y + k) * (y + k) = t := z'
    have h1 : a * y * y ≤ a * (y + k) * (y + k) := Nat.mul_le_mul (Nat.mul_le_mul_left _ (by omega)) (by omega)
    omega
theorem thp_sq {a y t : Nat} (ha : 1 ≤ a) (h : t < a * y * y) : thp a y t = th a t := by
  by_cases c : t < y
  · exact thp_ge ha c
  · obtain ⟨k, ek⟩ : ∃ k, t + 1 = y + k := ⟨t + 1 - y, by omega⟩
    show _ = thp a (t + 1) t
    rw [ek, thp_more ha h]
theorem cv_enough {f : S} {a y n : Nat} (ha : 1 ≤ a) (h : n < a * y * y) : cv f (thp a y) n = cv f (th a) n :=
  sm_congr (n + 1) fun i hi => by
    rw [thp_sq ha (by omega)]
theorem cv_none (f : S) (a n : Nat) : cv f (thp a 0) n = 0 := by
  show sm (fun i => f i * 0) (n + 1) = 0
  rw [sm_congr (n + 1) (g := fun _ => 0) fun i _ => Int.mul_zero _, sm_zero]
theorem cv_first (f : S) (a n : Nat) : cv f (thp a 1) n = f n := by
  rw [cv_step, cv_none, if_pos (by simp)]
  show 0 + 1 * f (n - a * 0 * 0) = _
  rw [Int.zero_add, Int.one_mul, Nat.mul_zero, Nat.sub_zero]
theorem cv_next (f : S) (a y n : Nat) : cv f (thp a (y + 2)) n = cv f (thp a (y + 1)) n + (if a * (y + 1) * (y + 1) ≤ n then 2 * f (n - a * (y + 1) * (y + 1)) else 0) := cv_step f a (y + 1) n
theorem cv_bound {f : S} {n B : Nat} (a : Nat) (h : ∀ i, i ≤ n → (f i).natAbs ≤ B) : ∀ y, (cv f (thp a y) n).natAbs ≤ 2 * y * B
  | 0 => by
    rw [cv_none]
    exact Nat.zero_le _
  | y + 1 => by
    rw [cv_step]
    have ih := cv_bound a h y
    have e : 2 * (y + 1) * B = 2 * y * B + 2 * B := by
      rw [Nat.mul_add, Nat.add_mul]
    rw [e]
    refine Nat.le_trans (Int.natAbs_add_le _ _) (Nat.add_le_add ih ?_)
    split
    · rw [Int.natAbs_mul]
      refine Nat.mul_le_mul ?_ (h _ (Nat.sub_le _ _))
      unfold cx
      split <;> decide
    · exact Nat.zero_le _
theorem wy_bound : ∀ {form : List Nat}, (∀ a ∈ form, 1 ≤ a) → ∀ n, n ≤ 120 → (wy form n).natAbs ≤ 22 ^ form.length
  | [], _, n, _ => by
    show (one n).natAbs ≤ 1
    unfold one
    split <;> decide
  | a :: f, h, n, hn => by
    rw [wy_cons, List.length_cons, Nat.pow_succ]
    have a1 := h a List.mem_cons_self
    have ih := wy_bound (form := f) fun b hb => h b (List.mem_cons_of_mem _ hb)
    rw [← cv_enough (y := 11) a1 (Nat.lt_of_lt_of_le (by omega : n < 1 * 11 * 11) (Nat.mul_le_mul_right _ (Nat.mul_le_mul_right _ a1)))]
    have := cv_bound (f := wy f) a (n := n) (B := 22 ^ f.length) (fun i hi => ih i (by omega)) 11
    omega
theorem wy_lt {form : List Nat} (h : ∀ a ∈ form, 1 ≤ a) (hl : form.length ≤ 12) {n : Nat} (hn : n ≤ 120) : wy form n < 2 ^ 60 := by
  have h1 := wy_bound h n hn
  have h2 : (22 : Nat) ^ form.length ≤ 22 ^ 12 := Nat.pow_le_pow_right (by decide) hl
  have h3 : (22 : Nat) ^ 12 < 2 ^ 60 := by decide
  omega
end Th

set_option Elab.async false
set_option linter.all false
set_option maxRecDepth 100000
set_option maxHeartbeats 4000000
set_option pp.maxSteps 3000
/-! a range that is kept, walked -/
namespace Gn
open PySem PySem.Spec PyProof.Rows L2 Dr Xv LamX Ps
def iRgv (tl : TE) : TI := fun σ H R => tl σ H fun x H1 => ∃ a i j c n, x = .ref a ∧ H1 a = some (RgX a i j c) ∧ RgC i j c n ∧ R (Itc i c n) H1
theorem pi_rgv {X : Cx} {tg l : Expr} {tl : TE} (hl : PE X l tl) : PI X tg l (iRgv tl) := by
  refine ⟨fun pins s σ H R I h => ?_⟩
  refine thn (hl.run pins s σ H _ I h) fun v s1 ⟨x, H1, I1, r1, q1⟩ => ?_
  obtain ⟨a, i, j, c, n, rfl, ha, hr, q⟩ := q1
  cases r1
  have ho : ObjOk X.prog X.w H1 s1.heap a (RgX a i j c) := I1.hok a _ ha
  obtain ⟨⟨t, u, v, e⟩, _⟩ := ho
  refine wpAny_pyIter_range e hr.2.2.1 ?_
  refine pi_one (tk := s1.toks) I1 _ (turn_rangeC _ i c n) ?_ q
  have e1 : i + ((0 : Nat) : Int) * c = i := by simp
  have e2 : (n : Int) - ((0 : Nat) : Int) = Builtin.Range.rangeSize i j c := by rw [hr.2.2.2]; simp
  show IsRangeIter _ _ (i + ((0 : Nat) : Int) * c) ((n : Int) - ((0 : Nat) : Int)) c
  rw [e1, e2]
  exact Heap.get?_push_size _ rfl

end Gn

set_option Elab.async false
set_option linter.all false
set_option maxRecDepth 100000
set_option maxHeartbeats 4000000
set_option pp.maxSteps 3000
/-! changing parts until none is full: however they are taken, the end is the same -/
namespace Pg
/-- how often each part stands -/
abbrev X : Type := Int → Nat
/-- bound (0: none), mate, what the mate gets -/
structure Gm where
  b : Int → Nat
  m : Int → Int
  g : Int → Nat
def Gm.ok (G : Gm) (x : X) (p : Int) : Prop := 0 < G.b p ∧ G.b p ≤ x p
def Gm.fire (G : Gm) (x : X) (p : Int) : X := fun r => x r - (if r = p then G.b p else 0) + (if r = G.m p then G.g p else 0)
def Gm.stable (G : Gm) (x : X) : Prop := ∀ p, 0 < G.b p → x p < G.b p
inductive Gm.Run (G : Gm) : Nat → X → X → Prop
  | nil (x : X) : G.Run 0 x x
  | cons {n : Nat} {x y : X} (p : Int) : G.ok x p → G.Run n (G.fire x p) y → G.Run (n + 1) x y
theorem ok_other {G : Gm} {x : X} {p q : Int} (n : p ≠ q) (h : G.ok x p) : G.ok (G.fire x q) p := by
  refine ⟨h.1, Nat.le_trans h.2 ?_⟩
  show x p ≤ x p - (if p = q then G.b q else 0) + _
  rw [if_neg n]
  omega
theorem fire_comm {G : Gm} {x : X} {p q : Int} (n : p ≠ q) (hp : G.ok x p) (hq : G.ok x q) : G.fire (G.fire x p) q = G.fire (G.fire x q) p := by
  funext r
  show x r - (if r = p then G.b p else 0) + (if r = G.m p then G.g p else 0) - (if r = q then G.b q else 0) + (if r = G.m q then G.g q else 0) = x r - (if r = q then G.b q else 0) + (if r = G.m q then G.g q else 0) - (if r = p then G.b p else 0) + (if r = G.m p then G.g p else 0)
  have h1 := hp.2
  have h2 := hq.2
  by_cases a : r = p
  · subst a
    rw [if_pos rfl, if_neg n]
    omega
  · rw [if_neg a]
    by_cases b : r = q
    · subst b
      rw [if_pos rfl]
      omega
    · rw [if_neg b]
      omega
/-- a part that is full is changed sooner or later -/
theorem Run.push {G : Gm} : ∀ {n : Nat} {x z : X} {p : Int}, G.Run n x z → G.stable z → G.ok x p → ∃ k, n = k + 1 ∧ G.Run k (G.fire x p) z
  | _, _, _, p, .nil x, hs, h => by
    have := hs p h.1
    have := h.2
    omega
  | _, x, z, p, .cons (n := n) q hq r, hs, h => by
    by_cases e : q = p
    · subst e
      exact ⟨n, rfl, r⟩
    · obtain ⟨k, rfl, r2⟩ := Run.push r hs (ok_other (fun z => e z.symm) h)
      refine ⟨k + 1, rfl, .cons q (ok_other e hq) ?_⟩
      rw [fire_comm (fun z => e z.symm) h hq]
      exact r2
theorem Run.diamond {G : Gm} : ∀ {a b : Nat} {x y z : X}, G.Run a x y → G.Run b x z → G.stable z → ∃ k, b = a + k ∧ G.Run k y z
  | _, b, _, _, z, .nil x, r, _ => ⟨b, (Nat.zero_add b).symm, r⟩
  | _, b, x, y, z, .cons (n := n) p hp r1, r, hs => by
    obtain ⟨k, rfl, r2⟩ := Run.push r hs hp
    obtain ⟨j, rfl, r3⟩ := Run.diamond r1 r2 hs
    exact ⟨j, by omega, r3⟩
theorem Run.same {G : Gm} {a b : Nat} {x y z : X} (h1 : G.Run a x y) (h2 : G.Run b x z) (s1 : G.stable y) (s2 : G.stable z) : y = z := by
  obtain ⟨k, _, r⟩ := Run.diamond h1 h2 s2
  cases r with
  | nil => rfl
  | cons p hp _ =>
    have := s1 p hp.1
    have := hp.2
    omega
theorem Run.trans {G : Gm} : ∀ {a b : Nat} {x y z : X}, G.Run a x y → G.Run b y z → G.Run (a + b) x z
  | _, b, _, _, _, .nil _, r => by
    rw [Nat.zero_add]
    exact r
  | _, b, _, _, _, .cons (n := n) p hp r1, r => by
    rw [Nat.add_right_comm]
    exact .cons p hp (Run.trans r1 r)
/-- the way back -/
structure Back (G G' : Gm) : Prop where
  b : ∀ p, 0 < G.b p → 0 < G.g p ∧ G'.b (G.m p) = G.g p ∧ G'.m (G.m p) = p ∧ G'.g (G.m p) = G.b p
theorem back_one {G G' : Gm} (B : Back G G') {x : X} {p : Int} (h : G.ok x p) : G'.ok (G.fire x p) (G.m p) ∧ G'.fire (G.fire x p) (G.m p) = x := by
  obtain ⟨h1, h2, h3, h4⟩ := B.b p h.1
  refine ⟨⟨by omega, ?_⟩, ?_⟩
  · rw [h2]
    show G.g p ≤ _ + (if G.m p = G.m p then G.g p else 0)
    rw [if_pos rfl]
    omega
  · funext r
    show x r - (if r = p then G.b p else 0) + (if r = G.m p then G.g p else 0) - (if r = G.m p then G'.b (G.m p) else 0) + (if r = G'.m (G.m p) then G'.g (G.m p) else 0) = x r
    rw [h2, h3, h4]
    have := h.2
    by_cases a : r = G.m p
    · rw [if_pos a]
      by_cases c : r = p
      · rw [if_pos c, c]
        omega
      · rw [if_neg c]
        omega
    · rw [if_neg a]
      by_cases c : r = p
      · rw [if_pos c, c]
        omega
      · rw [if_neg c]
        omega
theorem Run.back {G G' : Gm} (B : Back G G') : ∀ {n : Nat} {x y : X}, G.Run n x y → G'.Run n y x
  | _, _, _, .nil x => .nil x
  | _, x, y, .cons (n := n) p hp r => by
    obtain ⟨h1, h2⟩ := back_one B hp
    have r1 := Run.back B r
    have r2 : G'.Run 1 (G.fire x p) x := by
      refine .cons _ h1 ?_
      rw [h2]
      exact .nil x
    exact Run.trans r1 r2
/-- there is an end where something falls -/
theorem Run.ends {G : Gm} (I : X → Prop) (μ : X → Nat) (hI : ∀ x p, I x → G.ok x p → I (G.fire x p) ∧ μ (G.fire x p) < μ x) : ∀ (n : Nat) (x : X), I x → μ x ≤ n → ∃ k z, G.Run k x z ∧ G.stable z ∧ I z := by
  intro n
  induction n with
  | zero =>
    intro x hx hm
    by_cases s : G.stable x
    · exact ⟨0, x, .nil x, s, hx⟩
    · obtain ⟨p, hp⟩ := Classical.not_forall.mp s
      obtain ⟨h1, h2⟩ := Classical.not_imp.mp hp
      have := (hI x p hx ⟨h1, by omega⟩).2
      omega
  | succ n ih =>
    intro x hx hm
    by_cases s : G.stable x
    · exact ⟨0, x, .nil x, s, hx⟩
    · obtain ⟨p, hp⟩ := Classical.not_forall.mp s
      obtain ⟨h1, h2⟩ := Classical.not_imp.mp hp
      have ok : G.ok x p := ⟨h1, by omega⟩
      obtain ⟨h3, h4⟩ := hI x p hx ok
      obtain ⟨k, z, r, hz, hiz⟩ := ih _ h3 (by omega)
      exact ⟨k + 1, z, .cons p ok r, hz, hiz⟩
end Pg

set_option Elab.async false
set_option linter.all false
set_option maxRecDepth 100000
set_option maxHeartbeats 4000000
set_option pp.maxSteps 3000
/-! the game of two families -/
namespace Pg
open Fm
/-- how often one of 1 .. N, weighed -/
def tot (f : Nat → Nat) (x : X) : Nat → Nat
  | 0 => 0
  | n + 1 => tot f x n + f (n + 1) * x ((n + 1 : Nat) : Int)
theorem tot_congr {f : Nat → Nat} {x y : X} : ∀ n : Nat, (∀ i : Nat, i < n → x ((i + 1 : Nat) : Int) = y ((i + 1 : Nat) : Int)) → tot f x n = tot f y n
  | 0, _ => rfl
  | n + 1, h => by
    show tot f x n + _ = tot f y n + _
    rw [tot_congr n (fun i hi => h i (by omega)), h n (by omega)]
theorem tot_one {f : Nat → Nat} {x : X} {p : Nat} : ∀ n : Nat, 1 ≤ p → p ≤ n → f p * x (p : Int) ≤ tot f x n
  | 0, h, h2 => by omega
  | n + 1, h, h2 => by
    show _ ≤ tot f x n + f (n + 1) * x ((n + 1 : Nat) : Int)
    by_cases e : p = n + 1
    · subst e
      omega
    · have := tot_one (f := f) (x := x) n h (by omega)
      omega
/-- one place changed -/
theorem tot_set {f : Nat → Nat} {x y : X} {p : Nat} : ∀ n : Nat, 1 ≤ p → p ≤ n → (∀ r : Int, r ≠ (p : Int) → y r = x r) → tot f y n + f p * x (p : Int) = tot f x n + f p * y (p : Int)
  | 0, h, h2, _ => by omega
  | n + 1, h, h2, hy => by
    show tot f y n + f (n + 1) * y ((n + 1 : Nat) : Int) + _ = tot f x n + f (n + 1) * x ((n + 1 : Nat) : Int) + _
    by_cases e : p = n + 1
    · subst e
      have z : tot f y n = tot f x n := tot_congr n fun i hi => hy _ (by omega)
      rw [z]
      omega
    · have z := tot_set (f := f) n h (by omega) hy
      rw [hy ((n + 1 : Nat) : Int) (by omega)]
      omega
theorem tot_fire {G : Gm} {f : Nat → Nat} {x : X} {p q n : Nat} (p1 : 1 ≤ p) (p2 : p ≤ n) (q1 : 1 ≤ q) (q2 : q ≤ n) (h : G.ok x (p : Int)) (hm : G.m (p : Int) = (q : Int)) : tot f (G.fire x (p : Int)) n + f p * G.b (p : Int) = tot f x n + f q * G.g (p : Int) := by
  -- first the part itself, then its mate
  obtain ⟨y, hy⟩ : ∃ y : X, y = fun r => x r - (if r = (p : Int) then G.b (p : Int) else 0) := ⟨_, rfl⟩
  have e1 := tot_set (f := f) (x := x) (y := y) n p1 p2 (fun r hr => by
    rw [hy]
    show x r - (if r = (p : Int) then _ else 0) = x r
    rw [if_neg hr]
    rfl)
  have e2 := tot_set (f := f) (x := y) (y := G.fire x (p : Int)) n q1 q2 (fun r hr => by
    rw [hy]
    show x r - _ + (if r = G.m (p : Int) then _ else 0) = x r - _
    rw [hm, if_neg hr]
    rfl)
  have v1 : y (p : Int) = x (p : Int) - G.b (p : Int) := by
    rw [hy]
    show x (p : Int) - (if (p : Int) = (p : Int) then _ else 0) = _
    rw [if_pos rfl]
  have v2 : G.fire x (p : Int) (q : Int) = y (q : Int) + G.g (p : Int) := by
    rw [hy]
    show x (q : Int) - _ + (if (q : Int) = G.m (p : Int) then _ else 0) = x (q : Int) - _ + _
    rw [hm, if_pos rfl]
  have hb := h.2
  have m1 : f p * x (p : Int) = f p * (x (p : Int) - G.b (p : Int)) + f p * G.b (p : Int) := by
    rw [← Nat.mul_add]
    congr 1
    omega
  have m2 : f q * (y (q : Int) + G.g (p : Int)) = f q * y (q : Int) + f q * G.g (p : Int) := Nat.mul_add ..
  rw [v1] at e1
  rw [v2, m2] at e2
  omega
/-- what changes and what comes for it weigh the same -/
structure Fair (G : Gm) : Prop where
  f : ∀ p, 0 < G.b p → 1 ≤ p ∧ 1 ≤ G.m p ∧ 0 < G.g p ∧ p * (G.b p : Int) = G.m p * (G.g p : Int)
  inj : ∀ p q, 0 < G.b p → 0 < G.b q → G.m p = G.m q → p = q
/-- all of it within N, and what is its own mate is not full -/
structure Inv (G : Gm) (N : Nat) (x : X) : Prop where
  rg : ∀ r, x r ≠ 0 → 1 ≤ r ∧ r ≤ (N : Int)
  wt : tot (fun i => i) x N ≤ N
  own : ∀ p, 0 < G.b p → G.m p = p → x p < G.b p
theorem Inv.at_ {G : Gm} (F : Fair G) {N : Nat} {x : X} (I : Inv G N x) {p : Int} (h : G.ok x p) : ∃ i j : Nat, p = (i : Int) ∧ G.m p = (j : Int) ∧ 1 ≤ i ∧ i ≤ N ∧ 1 ≤ j ∧ j ≤ N ∧ i * G.b p = j * G.g p ∧ i ≠ j := by
  obtain ⟨f1, f2, f3, f4⟩ := F.f p h.1
  have hx : x p ≠ 0 := by
    have h1 := h.1
    have h2 := h.2
    omega
  obtain ⟨r1, r2⟩ := I.rg p hx
  obtain ⟨i, rfl⟩ : ∃ i : Nat, p = (i : Int) := ⟨p.toNat, by omega⟩
  obtain ⟨j, hj⟩ : ∃ j : Nat, G.m (i : Int) = (j : Int) := ⟨(G.m (i : Int)).toNat, by omega⟩
  rw [hj] at f2 f4
  have f5 : i * G.b (i : Int) = j * G.g (i : Int) := by
    have : ((i * G.b (i : Int) : Nat) : Int) = ((j * G.g (i : Int) : Nat) : Int) := by
      rw [Int.natCast_mul, Int.natCast_mul]
      exact f4
    omega
  have w1 := tot_one (f := fun i => i) (x := x) N (p := i) (by omega) (by omega)
  have w2 : i * G.b (i : Int) ≤ i * x (i : Int) := Nat.mul_le_mul_left _ h.2
  have w3 : j * 1 ≤ j * G.g (i : Int) := Nat.mul_le_mul_left _ f3
  have w4 := I.wt
  have w1' : i * x (i : Int) ≤ tot (fun i => i) x N := w1
  refine ⟨i, j, rfl, hj, by omega, by omega, by omega, by omega, f5, fun e => ?_⟩
  have o := I.own (i : Int) h.1 (by rw [hj, e])
  have := h.2
  omega
theorem Inv.fire {G : Gm} (F : Fair G) {N : Nat} {x : X} (I : Inv G N x) {p : Int} (h : G.ok x p) : Inv G N (G.fire x p) := by
  obtain ⟨i, j, rfl, hj, i1, i2, j1, j2, hw, hne⟩ := I.at_ F h
  refine ⟨fun r hr => ?_, ?_, fun q hq hm => ?_⟩
  · by_cases e : r = (j : Int)
    · subst e
      omega
    · refine I.rg r fun z => hr ?_
      show x r - _ + (if r = G.m (i : Int) then _ else 0) = 0
      rw [hj, if_neg e, z]
      omega
  · have z := tot_fire (f := fun i => i) i1 i2 j1 j2 h hj
    have w := I.wt
    have z' : tot (fun i => i) (G.fire x (i : Int)) N + i * G.b (i : Int) = tot (fun i => i) x N + j * G.g (i : Int) := z
    omega
  · have o := I.own q hq hm
    show x q - _ + (if q = G.m (i : Int) then _ else 0) < _
    have n : q ≠ G.m (i : Int) := fun e => by
      have z := F.inj q (i : Int) hq h.1 (by rw [hm]; exact e)
      rw [z] at hm
      rw [hj] at hm
      exact hne (by omega)
    rw [if_neg n]
    omega
/-- it ends: fewer parts each time -/
theorem ends_down {G : Gm} (F : Fair G) (hd : ∀ p, 0 < G.b p → G.g p ≤ 1) {N : Nat} {x : X} (I : Inv G N x) : ∃ k z, G.Run k x z ∧ G.stable z ∧ Inv G N z := by
  refine Run.ends (Inv G N) (fun x => tot (fun _ => 1) x N) (fun x p hx hp => ⟨hx.fire F hp, ?_⟩) _ x I (Nat.le_refl _)
  obtain ⟨i, j, rfl, hj, i1, i2, j1, j2, hw, hne⟩ := hx.at_ F hp
  have z := tot_fire (f := fun _ => 1) i1 i2 j1 j2 hp hj
  have z' : tot (fun _ => 1) (G.fire x (i : Int)) N + 1 * G.b (i : Int) = tot (fun _ => 1) x N + 1 * G.g (i : Int) := z
  have h1 := hd (i : Int) hp.1
  have h2 := hp.1
  have h3 : G.b (i : Int) ≠ 1 := fun e => by
    have h4 := (F.f (i : Int) hp.1).2.2.1
    have h5 : G.g (i : Int) = 1 := by omega
    rw [e, h5, Nat.mul_one, Nat.mul_one] at hw
    exact hne hw
  show tot (fun _ => 1) (G.fire x (i : Int)) N < tot (fun _ => 1) x N
  omega
theorem tot_le {x : X} : ∀ n : Nat, tot (fun _ => 1) x n ≤ tot (fun i => i) x n
  | 0 => Nat.le_refl _
  | n + 1 => by
    show tot (fun _ => 1) x n + 1 * x ((n + 1 : Nat) : Int) ≤ tot (fun i => i) x n + (n + 1) * x ((n + 1 : Nat) : Int)
    have h1 := tot_le (x := x) n
    have h2 : 1 * x ((n + 1 : Nat) : Int) ≤ (n + 1) * x ((n + 1 : Nat) : Int) := Nat.mul_le_mul_right _ (by omega)
    omega
/-- it ends: more parts each time -/
theorem ends_up {G : Gm} (F : Fair G) (hd : ∀ p, 0 < G.b p → G.b p ≤ 1) {N : Nat} {x : X} (I : Inv G N x) : ∃ k z, G.Run k x z ∧ G.stable z ∧ Inv G N z := by
  refine Run.ends (Inv G N) (fun x => N - tot (fun _ => 1) x N) (fun x p hx hp => ⟨hx.fire F hp, ?_⟩) _ x I (Nat.le_refl _)
  obtain ⟨i, j, rfl, hj, i1, i2, j1, j2, hw, hne⟩ := hx.at_ F hp
  have I2 := hx.fire F hp
  have z := tot_fire (f := fun _ => 1) i1 i2 j1 j2 hp hj
  have z' : tot (fun _ => 1) (G.fire x (i : Int)) N + 1 * G.b (i : Int) = tot (fun _ => 1) x N + 1 * G.g (i : Int) := z
  have h1 := hd (i : Int) hp.1
  have h2 := hp.1
  have h4 := (F.f (i : Int) hp.1).2.2.1
  have h3 : G.g (i : Int) ≠ 1 := fun e => by
    have h5 : G.b (i : Int) = 1 := by omega
    rw [e, h5, Nat.mul_one, Nat.mul_one] at hw
    exact hne hw
  have h6 := tot_le (x := G.fire x (i : Int)) N
  have h7 := I2.wt
  show N - tot (fun _ => 1) (G.fire x (i : Int)) N < N - tot (fun _ => 1) x N
  omega
/-- it ends at once: each is its own mate -/
theorem ends_own {G : Gm} (F : Fair G) (hd : ∀ p, 0 < G.b p → G.m p = p) {N : Nat} {x : X} (I : Inv G N x) : ∃ k z, G.Run k x z ∧ G.stable z ∧ Inv G N z :=
  ⟨0, x, .nil x, fun p hp => I.own p hp (hd p hp), I⟩
end Pg

set_option Elab.async false
set_option linter.all false
set_option maxRecDepth 100000
set_option maxHeartbeats 4000000
set_option pp.maxSteps 3000
namespace Pg
open Fm
theorem mem_mates {fam : List Rule} {n : Nat} {q : Int} (h1 : 1 ≤ n) (h : q ∈ mates fam (n : Int)) : ∃ a b : Nat, q = (a : Int) ∧ bnd fam q = (b : Int) ∧ a * b = n ∧ 1 ≤ a ∧ 1 ≤ b := by
  unfold mates at h
  obtain ⟨z, hz, rfl⟩ := List.mem_map.mp h
  obtain ⟨hz1, hz2⟩ := List.mem_filter.mp hz
  have zb : 1 ≤ z ∧ z ≤ 9 := by
    have : ∀ z ∈ nines, 1 ≤ z ∧ z ≤ 9 := by decide
    exact this z hz1
  obtain ⟨b, rfl⟩ : ∃ b : Nat, z = (b : Int) := ⟨z.toNat, by omega⟩
  rw [mTest_nat fam n b (by omega), decide_eq_true_eq] at hz2
  obtain ⟨⟨k, hk⟩, hb⟩ := hz2
  have e2 : ((n : Int)).fdiv (b : Int) = ((n / b : Nat) : Int) := by
    rw [Int.fdiv_eq_ediv_of_nonneg _ (by omega)]
    exact (Int.natCast_ediv n b).symm
  have e3 : n / b = k := by
    rw [hk]
    exact Nat.mul_div_cancel_left k (by omega)
  rw [e2, e3]
  rw [e3] at hb
  refine ⟨k, b, rfl, hb, by rw [hk, Nat.mul_comm], Nat.pos_of_ne_zero fun z => ?_, by omega⟩
  rw [z, Nat.mul_zero] at hk
  omega
theorem in_mates {fam : List Rule} (G : Good fam) {a b : Nat} (ha : 1 ≤ a) (hb : 1 ≤ b) (h : bnd fam (a : Int) = (b : Int)) : (a : Int) ∈ mates fam ((a * b : Nat) : Int) := by
  have hb9 := (bnd_le G (a : Int)).2
  unfold mates
  refine List.mem_map.mpr ⟨(b : Int), List.mem_filter.mpr ⟨?_, ?_⟩, ?_⟩
  · have : ∀ b : Nat, 1 ≤ b → b ≤ 9 → ((b : Nat) : Int) ∈ nines := by
      intro b h1 h2
      rcases (by omega : b = 1 ∨ b = 2 ∨ b = 3 ∨ b = 4 ∨ b = 5 ∨ b = 6 ∨ b = 7 ∨ b = 8 ∨ b = 9) with rfl | rfl | rfl | rfl | rfl | rfl | rfl | rfl | rfl <;> decide
    exact this b hb (by omega)
  · rw [mTest_nat fam _ b (by omega), decide_eq_true_eq]
    refine ⟨⟨a, Nat.mul_comm a b⟩, ?_⟩
    rw [Nat.mul_div_cancel a (by omega)]
    exact h
  · rw [Int.fdiv_eq_ediv_of_nonneg _ (by omega)]
    show ((a * b : Nat) : Int) / (b : Int) = _
    rw [← Int.natCast_ediv, Nat.mul_div_cancel a (by omega)]
theorem nodup_map {α β : Type} {f : α → β} : ∀ {l : List α}, l.Nodup → (∀ a ∈ l, ∀ b ∈ l, f a = f b → a = b) → (l.map f).Nodup
  | [], _, _ => .nil
  | x :: r, h, hf => by
    have h' := List.nodup_cons.mp h
    rw [List.map_cons]
    refine List.nodup_cons.mpr ⟨fun z => ?_, nodup_map h'.2 fun a ha b hb => hf a (List.mem_cons_of_mem _ ha) b (List.mem_cons_of_mem _ hb)⟩
    obtain ⟨y, hy, e⟩ := List.mem_map.mp z
    have := hf y (List.mem_cons_of_mem _ hy) x List.mem_cons_self e
    exact h'.1 (this ▸ hy)
theorem mates_nodup (fam : List Rule) (n : Int) : (mates fam n).Nodup := by
  unfold mates
  refine nodup_map (List.Pairwise.filter _ (by decide : nines.Nodup)) fun a ha b hb e => ?_
  have h1 := (List.mem_filter.mp ha).2
  have h2 := (List.mem_filter.mp hb).2
  unfold mTest at h1 h2
  rw [Bool.and_eq_true, decide_eq_true_eq, decide_eq_true_eq] at h1 h2
  rw [← h1.2, ← h2.2, e]
def mateF (one other : List Rule) (p : Int) : Int := (mates one (p * bnd other p)).getD ((mates other (p * bnd other p)).idxOf p) 0
def gm (one other : List Rule) : Gm := ⟨fun p => if 1 ≤ p then (bnd other p).toNat else 0, mateF one other, fun p => (bnd one (mateF one other p)).toNat⟩
/-- equally many for all n -/
def EqF (one other : List Rule) : Prop := ∀ n : Nat, 1 ≤ n → (mates one (n : Int)).length = (mates other (n : Int)).length
theorem EqF.symm {one other : List Rule} (h : EqF one other) : EqF other one := fun n hn => (h n hn).symm
/-- the mate -/
theorem mate_at {one other : List Rule} (G1 : Good one) (G2 : Good other) (E : EqF one other) {a b : Nat} (ha : 1 ≤ a) (hb : 1 ≤ b) (h : bnd other (a : Int) = (b : Int)) :
    ∃ (i c g : Nat), (mates other ((a * b : Nat) : Int))[i]? = some (a : Int) ∧ (mates one ((a * b : Nat) : Int))[i]? = some (c : Int) ∧ mateF one other (a : Int) = (c : Int) ∧ bnd one (c : Int) = (g : Int) ∧ c * g = a * b ∧ 1 ≤ c ∧ 1 ≤ g ∧ (mates other ((a * b : Nat) : Int)).idxOf (a : Int) = i := by
  have n1 : 1 ≤ a * b := Nat.mul_pos ha hb
  have m1 := in_mates G2 ha hb h
  have hi := List.idxOf_lt_length_of_mem m1
  obtain ⟨i, ei⟩ : ∃ i, i = (mates other ((a * b : Nat) : Int)).idxOf (a : Int) := ⟨_, rfl⟩
  have hi1 : i < (mates one ((a * b : Nat) : Int)).length := by
    rw [E (a * b) n1, ei]
    exact hi
  have e1 : (mates other ((a * b : Nat) : Int))[i]? = some (a : Int) := by
    rw [ei, List.getElem?_eq_getElem hi, List.getElem_idxOf]
  have m2 : (mates one ((a * b : Nat) : Int))[i] ∈ mates one ((a * b : Nat) : Int) := List.getElem_mem hi1
  obtain ⟨c, g, ec, eg, hcg, c1, g1⟩ := mem_mates n1 m2
  refine ⟨i, c, g, e1, by rw [List.getElem?_eq_getElem hi1, ec], ?_, by rw [← ec]; exact eg, hcg, c1, g1, ei.symm⟩
  unfold mateF
  have en : (a : Int) * bnd other (a : Int) = ((a * b : Nat) : Int) := by
    rw [h, Int.natCast_mul]
  rw [en, ← ei, List.getD_eq_getElem?_getD, List.getElem?_eq_getElem hi1, ec]
  rfl
theorem gm_b {one other : List Rule} (G : Good other) {p : Int} (h : 0 < (gm one other).b p) : ∃ a b : Nat, p = (a : Int) ∧ 1 ≤ a ∧ 1 ≤ b ∧ bnd other (a : Int) = (b : Int) ∧ (gm one other).b p = b := by
  have h' : 0 < (if 1 ≤ p then (bnd other p).toNat else 0) := h
  by_cases c : 1 ≤ p
  · rw [if_pos c] at h'
    have := bnd_le G p
    refine ⟨p.toNat, (bnd other p).toNat, by omega, by omega, by omega, ?_, ?_⟩
    · have e : ((p.toNat : Nat) : Int) = p := by omega
      rw [e]
      omega
    · show (if 1 ≤ p then (bnd other p).toNat else 0) = _
      rw [if_pos c]
  · rw [if_neg c] at h'
    omega
theorem gm_nat (one other : List Rule) {a b : Nat} (ha : 1 ≤ a) (h : bnd other (a : Int) = (b : Int)) : (gm one other).b (a : Int) = b := by
  show (if 1 ≤ (a : Int) then (bnd other (a : Int)).toNat else 0) = b
  rw [if_pos (by omega), h]
  rfl
theorem gm_back {one other : List Rule} (G1 : Good one) (G2 : Good other) (E : EqF one other) : Back (gm one other) (gm other one) := by
  refine ⟨fun p hp => ?_⟩
  obtain ⟨a, b, rfl, ha, hb, h, eb⟩ := gm_b G2 hp
  obtain ⟨i, c, g, e1, e2, em, eg, hw, c1, g1, _⟩ := mate_at G1 G2 E ha hb h
  have hm : (gm one other).m (a : Int) = (c : Int) := em
  have hg : (gm one other).g (a : Int) = g := by
    show (bnd one (mateF one other (a : Int))).toNat = g
    rw [em, eg]
    rfl
  have em2 : mateF other one (c : Int) = (a : Int) := by
    obtain ⟨j, a', b', f1, f2, fm, _, _, _, _, fj⟩ := mate_at G2 G1 E.symm c1 g1 eg
    rw [hw] at f1 f2 fj
    have hj : j = i := by
      have hil := (List.getElem?_eq_some_iff.mp e2)
      obtain ⟨hi, hc⟩ := hil
      rw [← fj, ← hc]
      exact (mates_nodup one _).idxOf_getElem i hi
    rw [hj, e1] at f2
    rw [fm]
    exact (Option.some.inj f2).symm
  rw [hm, hg]
  refine ⟨by omega, gm_nat other one c1 eg, em2, ?_⟩
  show (bnd other (mateF other one (c : Int))).toNat = (gm one other).b (a : Int)
  rw [em2, h, eb]
  rfl
theorem gm_fair {one other : List Rule} (G1 : Good one) (G2 : Good other) (E : EqF one other) : Fair (gm one other) := by
  refine ⟨fun p hp => ?_, fun p q hp hq e => ?_⟩
  · obtain ⟨a, b, rfl, ha, hb, h, eb⟩ := gm_b G2 hp
    obtain ⟨i, c, g, e1, e2, em, eg, hw, c1, g1, _⟩ := mate_at G1 G2 E ha hb h
    have hm : (gm one other).m (a : Int) = (c : Int) := em
    have hg : (gm one other).g (a : Int) = g := by
      show (bnd one (mateF one other (a : Int))).toNat = g
      rw [em, eg]
      rfl
    rw [hm, hg, eb]
    refine ⟨by omega, by omega, by omega, ?_⟩
    rw [← Int.natCast_mul, ← Int.natCast_mul, hw]
  · have B := gm_back G1 G2 E
    have h1 := (B.b p hp).2.2.1
    have h2 := (B.b q hq).2.2.1
    rw [← h1, ← h2, e]
end Pg

set_option Elab.async false
set_option linter.all false
set_option maxRecDepth 100000
set_option maxHeartbeats 4000000
set_option pp.maxSteps 3000
namespace Pg
open Fm
def ctx (ns : List Int) : X := fun p => ct p ns
theorem ctx_cons (x : Int) (r : List Int) (p : Int) : ctx (x :: r) p = ctx r p + if p = x then 1 else 0 := by
  unfold ctx ct
  rw [List.countP_cons]
  by_cases c : p = x
  · simp [c]
  · rw [if_neg c]
    have : ¬ (x == p) = true := fun e => c (beq_iff_eq.mp e).symm
    rw [if_neg this]
theorem ctx_mem {ns : List Int} {p : Int} : ctx ns p ≠ 0 ↔ p ∈ ns := by
  unfold ctx ct
  constructor
  · intro h
    obtain ⟨x, hx, e⟩ := List.countP_pos_iff.mp (Nat.pos_of_ne_zero h)
    have : x = p := by simpa using e
    exact this ▸ hx
  · intro h z
    rw [List.countP_eq_zero] at z
    exact z p h (by simp)
theorem tot_ctx : ∀ (ns : List Int) (N : Nat), (∀ x ∈ ns, 1 ≤ x ∧ x ≤ (N : Int)) → (tot (fun i => i) (ctx ns) N : Int) = ns.sum
  | [], N, _ => by
    have z : ∀ n, tot (fun i => i) (ctx []) n = 0 := fun n => by
      induction n with
      | zero => rfl
      | succ n ih =>
        show tot (fun i => i) (ctx []) n + (n + 1) * 0 = 0
        rw [ih, Nat.mul_zero]
    rw [z]
    rfl
  | x :: r, N, h => by
    have hx := h x List.mem_cons_self
    obtain ⟨a, rfl⟩ : ∃ a : Nat, x = (a : Int) := ⟨x.toNat, by omega⟩
    have ih := tot_ctx r N fun y hy => h y (List.mem_cons_of_mem _ hy)
    have z := tot_set (f := fun i => i) (x := ctx r) (y := ctx ((a : Int) :: r)) (p := a) N (by omega) (by omega) fun p hp => by
      rw [ctx_cons, if_neg hp, Nat.add_zero]
    have z' : tot (fun i => i) (ctx ((a : Int) :: r)) N + a * ctx r (a : Int) = tot (fun i => i) (ctx r) N + a * ctx ((a : Int) :: r) (a : Int) := z
    have e : ctx ((a : Int) :: r) (a : Int) = ctx r (a : Int) + 1 := by rw [ctx_cons, if_pos rfl]
    have e2 : a * (ctx r (a : Int) + 1) = a * ctx r (a : Int) + a := Nat.mul_succ ..
    rw [e, e2] at z'
    rw [List.sum_cons, ← ih]
    omega
theorem ctx_inj {ns ys : List Int} (h1 : ns.Pairwise (fun x y => y ≤ x)) (h2 : ys.Pairwise (fun x y => y ≤ x)) (h : ctx ns = ctx ys) : ns = ys := by
  refine List.Perm.eq_of_pairwise (fun a b _ _ x y => by omega) h1 h2 (List.perm_iff_count.mpr fun a => ?_)
  exact congrFun h a
/-- all of z, from N down -/
def lst (z : X) : Nat → List Int
  | 0 => []
  | n + 1 => List.replicate (z ((n + 1 : Nat) : Int)) ((n + 1 : Nat) : Int) ++ lst z n
theorem lst_mem {z : X} : ∀ {n : Nat} {x : Int}, x ∈ lst z n → 1 ≤ x ∧ x ≤ (n : Int)
  | 0, x, h => by cases h
  | n + 1, x, h => by
    rcases List.mem_append.mp h with h | h
    · have := (List.mem_replicate.mp h).2
      omega
    · have := lst_mem h
      omega
theorem lst_desc {z : X} : ∀ n : Nat, (lst z n).Pairwise (fun x y => y ≤ x)
  | 0 => .nil
  | n + 1 => by
    refine List.pairwise_append.mpr ⟨?_, lst_desc n, fun x hx y hy => ?_⟩
    · exact List.pairwise_replicate.mpr (.inr (Int.le_refl _))
    · have e := (List.mem_replicate.mp hx).2
      have := lst_mem hy
      omega
theorem lst_ct {z : X} : ∀ (n : Nat) (p : Int), ct p (lst z n) = if 1 ≤ p ∧ p ≤ (n : Int) then z p else 0
  | 0, p => by
    rw [if_neg (by omega)]
    rfl
  | n + 1, p => by
    show ct p (List.replicate (z ((n + 1 : Nat) : Int)) ((n + 1 : Nat) : Int) ++ lst z n) = _
    have ih := lst_ct (z := z) n p
    unfold ct at ih ⊢
    rw [List.countP_append, ih, List.countP_replicate]
    by_cases c : p = ((n + 1 : Nat) : Int)
    · subst c
      rw [if_pos (by simp), if_neg (by omega), if_pos (by omega)]
      rfl
    · have c2 : ¬ (((n + 1 : Nat) : Int) == p) = true := fun e => c (beq_iff_eq.mp e).symm
      rw [if_neg c2]
      by_cases d : 1 ≤ p ∧ p ≤ (n : Int)
      · rw [if_pos d, if_pos (by omega)]
        omega
      · rw [if_neg d, if_neg (by omega)]
theorem ctx_lst {G : Gm} {z : X} {N : Nat} (I : Inv G N z) : ctx (lst z N) = z := by
  funext p
  show ct p (lst z N) = z p
  rw [lst_ct]
  by_cases c : 1 ≤ p ∧ p ≤ (N : Int)
  · rw [if_pos c]
  · rw [if_neg c]
    by_cases e : z p = 0
    · exact e.symm
    · exact absurd (I.rg p e) c
theorem Run.inv {G : Gm} (F : Fair G) {N : Nat} {k : Nat} {x y : X} (I : Inv G N x) (r : G.Run k x y) : Inv G N y ∧ tot (fun i => i) y N = tot (fun i => i) x N := by
  induction r with
  | nil x => exact ⟨I, rfl⟩
  | cons p hp r ih =>
    obtain ⟨h1, h2⟩ := ih (I.fire F hp)
    refine ⟨h1, h2.trans ?_⟩
    obtain ⟨i, j, rfl, hj, i1, i2, j1, j2, hw, _⟩ := I.at_ F hp
    have z := tot_fire (f := fun i => i) i1 i2 j1 j2 hp hj
    have z' : _ + i * G.b (i : Int) = _ + j * G.g (i : Int) := z
    omega
/-- each kept partition stands at a beginning -/
theorem inv_of {one other : List Rule} (G1 : Good one) (G2 : Good other) (E : EqF one other) {ns : List Int} {N : Nat} (h1 : ∀ x ∈ ns, 1 ≤ x) (hs : ns.sum ≤ (N : Int)) (hk : kp one ns = true) : Inv (gm one other) N (ctx ns) := by
  have le : ∀ x ∈ ns, x ≤ (N : Int) := fun x hx => by
    have key : ∀ (l : List Int), (∀ y ∈ l, 1 ≤ y) → ∀ y ∈ l, y ≤ l.sum ∧ 0 ≤ l.sum := by
      intro l
      induction l with
      | nil => exact fun _ y h => by cases h
      | cons a r ih =>
        intro h y hy
        have ha := h a List.mem_cons_self
        have hr : 0 ≤ r.sum := by
          cases r with
          | nil => exact Int.le_refl _
          | cons b t => exact (ih (fun z hz => h z (List.mem_cons_of_mem _ hz)) b List.mem_cons_self).2
        rw [List.sum_cons]
        rcases List.mem_cons.mp hy with rfl | hy
        · omega
        · have := (ih (fun z hz => h z (List.mem_cons_of_mem _ hz)) y hy).1
          omega
    have := (key ns h1 x hx).1
    omega
  refine ⟨fun r hr => ?_, ?_, fun p hp hm => ?_⟩
  · have m := ctx_mem.mp hr
    exact ⟨h1 r m, le r m⟩
  · have z := tot_ctx ns N fun x hx => ⟨h1 x hx, le x hx⟩
    omega
  · obtain ⟨a, b, rfl, ha, hb, h, eb⟩ := gm_b G2 hp
    obtain ⟨f1, f2, f3, f4⟩ := (gm_fair G1 G2 E).f (a : Int) hp
    rw [hm, eb] at f4
    have eg : (gm one other).g (a : Int) = (bnd one (a : Int)).toNat := by
      show (bnd one (mateF one other (a : Int))).toNat = _
      have : mateF one other (a : Int) = (a : Int) := hm
      rw [this]
    have e : (b : Int) = ((gm one other).g (a : Int) : Int) := Int.eq_of_mul_eq_mul_left (by omega) f4
    rw [eb]
    have hb2 := bnd_le G1 (a : Int)
    by_cases m : (a : Int) ∈ ns
    · have z := List.all_eq_true.mp hk _ m
      unfold kpT at z
      rw [Bool.or_eq_true, decide_eq_true_eq, decide_eq_true_eq] at z
      show ct (a : Int) ns < b
      rcases z with z | z
      · omega
      · omega
    · have : ctx ns (a : Int) = 0 := Classical.not_not.mp fun q => m (ctx_mem.mp q)
      omega
theorem stable_of {one other : List Rule} (G2 : Good other) {ys : List Int} (hk : kp other ys = true) : (gm one other).stable (ctx ys) := fun p hp => by
  obtain ⟨a, b, rfl, ha, hb, h, eb⟩ := gm_b G2 hp
  rw [eb]
  by_cases m : (a : Int) ∈ ys
  · have z := List.all_eq_true.mp hk _ m
    unfold kpT at z
    rw [Bool.or_eq_true, decide_eq_true_eq, decide_eq_true_eq] at z
    show ct (a : Int) ys < b
    rcases z with z | z
    · omega
    · omega
  · have : ctx ys (a : Int) = 0 := Classical.not_not.mp fun q => m (ctx_mem.mp q)
    omega
theorem kp_of {one other : List Rule} (G2 : Good other) {ys : List Int} (h1 : ∀ x ∈ ys, 1 ≤ x) (hs : (gm one other).stable (ctx ys)) : kp other ys = true := by
  refine List.all_eq_true.mpr fun p hp => ?_
  unfold kpT
  rw [Bool.or_eq_true, decide_eq_true_eq, decide_eq_true_eq]
  have p1 := h1 p hp
  have hb := bnd_le G2 p
  by_cases c : bnd other p = 0
  · exact .inl c
  · refine .inr ?_
    have eb : (gm one other).b p = (bnd other p).toNat := by
      show (if 1 ≤ p then (bnd other p).toNat else 0) = _
      rw [if_pos p1]
    have z := hs p (by omega)
    have z' : ct p ys < (gm one other).b p := z
    omega
/-- one leads to the other -/
structure PairR (one other : List Rule) (ns ys : List Int) : Prop where
  ds : ys.Pairwise (fun x y => y ≤ x)
  lo : ∀ y ∈ ys, 1 ≤ y
  run : ∃ k, (gm one other).Run k (ctx ns) (ctx ys)
  st : (gm one other).stable (ctx ys)
theorem PairR.uniq {one other : List Rule} {ns ys zs : List Int} (h : PairR one other ns ys) (g : PairR one other ns zs) : ys = zs := by
  obtain ⟨k, r⟩ := h.run
  obtain ⟨j, t⟩ := g.run
  exact ctx_inj h.ds g.ds (Run.same r t h.st g.st)
theorem PairR.back {one other : List Rule} (G1 : Good one) (G2 : Good other) (E : EqF one other) {ns ys : List Int} (h : PairR one other ns ys) (hd : ns.Pairwise (fun x y => y ≤ x)) (h1 : ∀ x ∈ ns, 1 ≤ x) (hk : kp one ns = true) : PairR other one ys ns := by
  obtain ⟨k, r⟩ := h.run
  exact ⟨hd, h1, ⟨k, Run.back (gm_back G1 G2 E) r⟩, stable_of G1 hk⟩
/-- the three ways families stand to one another here -/
def Cl (one other : List Rule) : Prop := (∀ p, bnd one p ≤ 1) ∨ (∀ p, bnd other p ≤ 1) ∨ ∀ p, bnd one p = bnd other p
theorem Cl.symm {one other : List Rule} (h : Cl one other) : Cl other one := by
  rcases h with h | h | h
  · exact .inr (.inl h)
  · exact .inl h
  · exact .inr (.inr fun p => (h p).symm)
theorem ends {one other : List Rule} (G1 : Good one) (G2 : Good other) (E : EqF one other) (C : Cl one other) {N : Nat} {x : X} (I : Inv (gm one other) N x) : ∃ k z, (gm one other).Run k x z ∧ (gm one other).stable z ∧ Inv (gm one other) N z := by
  have F := gm_fair G1 G2 E
  rcases C with h | h | h
  · refine ends_down F (fun p hp => ?_) I
    show (bnd one (mateF one other p)).toNat ≤ 1
    have := h (mateF one other p)
    omega
  · refine ends_up F (fun p hp => ?_) I
    obtain ⟨a, b, rfl, ha, hb, e, eb⟩ := gm_b G2 hp
    have := h (a : Int)
    omega
  · refine ends_own F (fun p hp => ?_) I
    obtain ⟨a, b, rfl, ha, hb, e, eb⟩ := gm_b G2 hp
    obtain ⟨i, c, g, e1, e2, em, eg, hw, c1, g1, _⟩ := mate_at G1 G2 E ha hb e
    have hm : mates one ((a * b : Nat) : Int) = mates other ((a * b : Nat) : Int) := by
      unfold mates mTest
      have : bnd one = bnd other := funext h
      rw [this]
    rw [hm, e1] at e2
    show mateF one other (a : Int) = (a : Int)
    rw [em]
    exact (Option.some.inj e2).symm
theorem pair_ex {one other : List Rule} (G1 : Good one) (G2 : Good other) (E : EqF one other) (C : Cl one other) {ns : List Int} (h1 : ∀ x ∈ ns, 1 ≤ x) (hk : kp one ns = true) : ∃ ys, PairR one other ns ys ∧ ys.sum = ns.sum := by
  obtain ⟨N, hN⟩ : ∃ N : Nat, ns.sum ≤ (N : Int) := ⟨ns.sum.toNat, by omega⟩
  have I := inv_of G1 G2 E h1 hN hk
  obtain ⟨k, z, r, s, Iz⟩ := ends G1 G2 E C I
  have ez := ctx_lst Iz
  refine ⟨lst z N, ⟨lst_desc N, fun y hy => (lst_mem hy).1, ⟨k, by rw [ez]; exact r⟩, by rw [ez]; exact s⟩, ?_⟩
  have t := (Run.inv (gm_fair G1 G2 E) I r).2
  have t1 := tot_ctx (lst z N) N fun x hx => lst_mem hx
  have t2 := tot_ctx ns N fun x hx => I.rg x (ctx_mem.mpr hx)
  rw [ez, t, t2] at t1
  exact t1.symm
end Pg

set_option Elab.async false
set_option linter.all false
set_option maxRecDepth 100000
set_option maxHeartbeats 4000000
set_option pp.maxSteps 3000
/-! the dict of how often each part occurs, while it changes -/
namespace Pg
open PySem PySem.Spec PyProof.Rows L2 Dr Xv LamX Ps Gn Fm
structure DX (kvs : List (Key × V)) (ks : List Int) (N : Nat) (x : X) : Prop where
  km : kvs.map (·.1) = ks.map Sum.inl
  nd : ks.Nodup
  rg : ∀ p ∈ ks, 1 ≤ p ∧ p ≤ (N : Int)
  at_ : ∀ p ∈ ks, valV kvs (kI p) = some (.int (x p))
  no : ∀ p, p ∉ ks → valV kvs (kI p) = none ∧ x p = 0
theorem nodup_len : ∀ (N : Nat) (ks : List Int), ks.Nodup → (∀ p ∈ ks, 1 ≤ p ∧ p ≤ (N : Int)) → ks.length ≤ N
  | 0, ks, _, h => by
    cases ks with
    | nil => exact Nat.le_refl _
    | cons p r =>
      have := h p List.mem_cons_self
      omega
  | N + 1, ks, hn, h => by
    have ih := nodup_len N (ks.erase ((N + 1 : Nat) : Int)) (hn.erase _) fun p hp => by
      have h1 := h p (List.mem_of_mem_erase hp)
      have h2 : p ≠ ((N + 1 : Nat) : Int) := fun e => by
        rw [e] at hp
        exact hn.not_mem_erase hp
      omega
    have e := List.length_erase (l := ks) (a := ((N + 1 : Nat) : Int))
    split at e <;> omega
theorem DX.len {kvs : List (Key × V)} {ks : List Int} {N : Nat} {x : X} (D : DX kvs ks N x) : ks.length ≤ N := nodup_len N ks D.nd D.rg
theorem DX.of {kvs : List (Key × V)} {ns : List Int} {N : Nat} (T : TimesOf kvs ns) (h : ∀ p ∈ ns, 1 ≤ p ∧ p ≤ (N : Int)) : ∃ ks, DX kvs ks N (ctx ns) := by
  have key : ∀ l : List (Key × V), (∀ kv ∈ l, ∃ p ∈ ns, kv.1 = kI p) → ∃ ks : List Int, l.map (·.1) = ks.map Sum.inl ∧ ∀ p ∈ ks, p ∈ ns := by
    intro l
    induction l with
    | nil => exact fun _ => ⟨[], rfl, fun p h => by cases h⟩
    | cons kv r ih =>
      intro hl
      obtain ⟨p, hp, e⟩ := hl kv List.mem_cons_self
      obtain ⟨ks, e2, hk⟩ := ih fun kv' h' => hl kv' (List.mem_cons_of_mem _ h')
      refine ⟨p :: ks, ?_, fun q hq => ?_⟩
      · rw [List.map_cons, e2, e]
        rfl
      · rcases List.mem_cons.mp hq with rfl | hq
        · exact hp
        · exact hk q hq
  obtain ⟨ks, e, hk⟩ := key kvs T.ks
  have hin : ∀ p, p ∈ ns → p ∈ ks := fun p hp => by
    have h1 := T.at_ p
    rw [if_pos hp] at h1
    have h2 : (kvs.any fun kv => decide (kv.1 = kI p)) = true := by
      rw [valV_any, h1]
      rfl
    have h3 := (keys_any kvs (kI p)).mp h2
    rw [e] at h3
    obtain ⟨q, hq, eq⟩ := List.mem_map.mp h3
    have : q = p := by
      unfold kI at eq
      injection eq
    exact this ▸ hq
  refine ⟨ks, e, ?_, fun p hp => h p (hk p hp), fun p hp => ?_, fun p hp => ?_⟩
  · have z := T.nd
    rw [e] at z
    rw [List.nodup_iff_pairwise_ne, List.pairwise_map] at z
    exact List.nodup_iff_pairwise_ne.mpr (z.imp fun h1 e1 => h1 (by rw [e1]))
  · rw [T.at_, if_pos (hk p hp)]
    rfl
  · have n1 : p ∉ ns := fun z => hp (hin p z)
    refine ⟨by rw [T.at_, if_neg n1], Classical.not_not.mp fun z => n1 (ctx_mem.mp z)⟩
/-- one place written -/
theorem DX.put {kvs : List (Key × V)} {ks : List Int} {N : Nat} {x y : X} {p : Int} {v : Nat} (D : DX kvs ks N x) (h : 1 ≤ p ∧ p ≤ (N : Int)) (h1 : y p = v) (h2 : ∀ r, r ≠ p → y r = x r) : ∃ ks', DX (putK kvs (kI p) (.int (v : Int))) ks' N y := by
  have hk : kI p ∈ kvs.map (·.1) ↔ p ∈ ks := by
    rw [D.km]
    constructor
    · intro z
      obtain ⟨q, hq, eq⟩ := List.mem_map.mp z
      have : q = p := by
        unfold kI at eq
        injection eq
      exact this ▸ hq
    · exact fun z => List.mem_map.mpr ⟨p, z, rfl⟩
  by_cases c : p ∈ ks
  · refine ⟨ks, ?_, D.nd, D.rg, fun q hq => ?_, fun q hq => ?_⟩
    · rw [keys_put_in (hk.mpr c), D.km]
    · rw [valV_put]
      by_cases e : q = p
      · rw [if_pos (by rw [e]), e, h1]
      · rw [if_neg (fun z => e (kI_inj.mp z)), D.at_ q hq, h2 q e]
    · have e : q ≠ p := fun z => hq (z ▸ c)
      rw [valV_put, if_neg (fun z => e (kI_inj.mp z)), h2 q e]
      exact D.no q hq
  · refine ⟨ks ++ [p], ?_, ?_, fun q hq => ?_, fun q hq => ?_, fun q hq => ?_⟩
    · rw [keys_put_new (fun z => c (hk.mp z)), D.km, List.map_append]
      rfl
    · refine List.nodup_append.mpr ⟨D.nd, List.nodup_cons.mpr ⟨List.not_mem_nil, .nil⟩, fun a ha b hb e => ?_⟩
      rw [List.mem_singleton.mp hb] at e
      exact c (e ▸ ha)
    · rcases List.mem_append.mp hq with hq | hq
      · exact D.rg q hq
      · rw [List.mem_singleton.mp hq]
        exact h
    · rw [valV_put]
      by_cases e : q = p
      · rw [if_pos (by rw [e]), e, h1]
      · rw [if_neg (fun z => e (kI_inj.mp z)), h2 q e]
        rcases List.mem_append.mp hq with hq | hq
        · exact D.at_ q hq
        · exact absurd (List.mem_singleton.mp hq) e
    · have e : q ≠ p := fun z => hq (List.mem_append_right _ (List.mem_singleton.mpr z))
      rw [valV_put, if_neg (fun z => e (kI_inj.mp z)), h2 q e]
      exact D.no q fun z => hq (List.mem_append_left _ z)
theorem DX.getD {kvs : List (Key × V)} {ks : List Int} {N : Nat} {x : X} (D : DX kvs ks N x) (p : Int) : (valV kvs (kI p)).getD (.int 0) = .int (x p) := by
  by_cases c : p ∈ ks
  · rw [D.at_ p c]
    rfl
  · rw [(D.no p c).1, (D.no p c).2]
    rfl
theorem DX.stable {kvs : List (Key × V)} {ks : List Int} {N : Nat} {x : X} {one other : List Rule} (D : DX kvs ks N x) (G2 : Good other) (h : ∀ p ∈ ks, bnd other p = 0 ∨ (x p : Int) < bnd other p) : (gm one other).stable x := fun p hp => by
  obtain ⟨a, b, rfl, ha, hb, e, eb⟩ := gm_b G2 hp
  rw [eb]
  by_cases c : (a : Int) ∈ ks
  · rcases h _ c with z | z
    · omega
    · omega
  · rw [(D.no _ c).2]
    omega
/-- what is told of the parts that come as often as their bound -/
def PtC (other : List Rule) (ks : List Int) (x : X) (v : V) : Prop := (∃ p, v = .int p ∧ p ∈ ks ∧ bnd other p ≠ 0 ∧ bnd other p ≤ (x p : Int)) ∨ (v = .non ∧ ∀ p ∈ ks, bnd other p = 0 ∨ (x p : Int) < bnd other p)
end Pg

set_option Elab.async false
set_option linter.all false
set_option maxRecDepth 100000
set_option maxHeartbeats 4000000
set_option pp.maxSteps 3000
/-! where no count is unlike; all of what stands in the dict, from the greatest part down -/
namespace Pg
open PySem PySem.Spec PyProof.Rows L2 Dr Xv LamX Ps Gn Fm
theorem due_all {f g : S} {N : Nat} (h : dueN f g N = none) : ∀ j, j < N → f j = g j := by
  rcases due_cases f g N with ⟨i, h1, h2, h3⟩ | z
  · rw [due_some h1 h2 h3] at h
    cases h
  · exact z
theorem eqF_of {one other : List Rule} (G1 : Good one) (G2 : Good other) (h : dueN (pS one) (pS other) (Nat.lcm (per one) (per other)) = none) : EqF one other := by
  intro n hn
  obtain ⟨i, rfl⟩ : ∃ i, n = i + 1 := ⟨n - 1, by omega⟩
  have z := due_all h (i % Nat.lcm (per one) (per other)) (Nat.mod_lt _ (Nat.lcm_pos (per_pos G1) (per_pos G2)))
  rw [pS_mod G1 (Nat.dvd_lcm_left _ _), pS_mod G2 (Nat.dvd_lcm_right _ _)] at z
  have z' : 1 - ((mates one ((i : Int) + 1)).length : Int) = 1 - ((mates other ((i : Int) + 1)).length : Int) := z
  have e : ((i + 1 : Nat) : Int) = (i : Int) + 1 := by omega
  rw [e]
  omega
def outL (x : X) (ks : List Int) : List Int := (ks.map fun p => List.replicate (x p) p).flatten
theorem outL_snoc (x : X) (ks : List Int) (p : Int) : outL x (ks ++ [p]) = outL x ks ++ List.replicate (x p) p := by
  unfold outL
  rw [List.map_append, List.flatten_append]
  simp
theorem outL_mem {x : X} {ks : List Int} {q : Int} (h : q ∈ outL x ks) : q ∈ ks := by
  obtain ⟨l, hl, hq⟩ := List.mem_flatten.mp h
  obtain ⟨p, hp, rfl⟩ := List.mem_map.mp hl
  rw [(List.mem_replicate.mp hq).2]
  exact hp
theorem outL_desc {x : X} : ∀ {ks : List Int}, ks.Pairwise (fun x y => y ≤ x) → (outL x ks).Pairwise (fun x y => y ≤ x)
  | [], _ => .nil
  | p :: ks, h => by
    obtain ⟨h1, h2⟩ := List.pairwise_cons.mp h
    show (List.replicate (x p) p ++ outL x ks).Pairwise _
    refine List.pairwise_append.mpr ⟨List.pairwise_replicate.mpr (.inr (Int.le_refl _)), outL_desc h2, fun a ha b hb => ?_⟩
    rw [(List.mem_replicate.mp ha).2]
    exact h1 b (outL_mem hb)
theorem outL_ct {x : X} : ∀ {ks : List Int} (q : Int), ks.Nodup → ct q (outL x ks) = if q ∈ ks then x q else 0
  | [], q, _ => rfl
  | p :: ks, q, h => by
    obtain ⟨h1, h2⟩ := List.nodup_cons.mp h
    have ih := outL_ct (x := x) q h2
    show ct q (List.replicate (x p) p ++ outL x ks) = _
    unfold ct at ih ⊢
    rw [List.countP_append, ih, List.countP_replicate]
    by_cases c : q = p
    · subst c
      rw [if_pos (by simp), if_neg h1, if_pos List.mem_cons_self]
      omega
    · have c2 : ¬ (p == q) = true := fun e => c (beq_iff_eq.mp e).symm
      rw [if_neg c2]
      by_cases d : q ∈ ks
      · rw [if_pos d, if_pos (List.mem_cons_of_mem _ d)]
        omega
      · rw [if_neg d, if_neg fun z => by
          rcases List.mem_cons.mp z with z | z
          · exact c z
          · exact d z]
theorem outL_ctx {kvs : List (Key × V)} {ks ds : List Int} {N : Nat} {x : X} (D : DX kvs ks N x) (h : ds.Perm ks) : ctx (outL x ds) = x := by
  funext q
  show ct q (outL x ds) = x q
  rw [outL_ct q (h.nodup_iff.mpr D.nd)]
  by_cases c : q ∈ ds
  · rw [if_pos c]
  · rw [if_neg c, (D.no q fun z => c (h.mem_iff.mpr z)).2]
theorem outL_len {x : X} {N : Nat} : ∀ {ks : List Int}, (∀ p ∈ ks, x p ≤ N) → (outL x ks).length ≤ ks.length * N
  | [], _ => Nat.zero_le _
  | p :: ks, h => by
    have ih := outL_len (x := x) (N := N) (ks := ks) fun q hq => h q (List.mem_cons_of_mem _ hq)
    have h1 := h p List.mem_cons_self
    show (List.replicate (x p) p ++ outL x ks).length ≤ (ks.length + 1) * N
    rw [List.length_append, List.length_replicate, Nat.succ_mul]
    omega
theorem Inv.le {G : Gm} {N : Nat} {x : X} (I : Inv G N x) (p : Int) : x p ≤ N := by
  by_cases c : x p = 0
  · omega
  · obtain ⟨h1, h2⟩ := I.rg p c
    obtain ⟨i, rfl⟩ : ∃ i : Nat, p = (i : Int) := ⟨p.toNat, by omega⟩
    have w1 := tot_one (f := fun i => i) (x := x) N (p := i) (by omega) (by omega)
    have w1' : i * x (i : Int) ≤ tot (fun i => i) x N := w1
    have w2 : 1 * x (i : Int) ≤ i * x (i : Int) := Nat.mul_le_mul_right _ (by omega)
    have := I.wt
    omega
theorem part_le {ns : List Int} (h : ∀ x ∈ ns, 1 ≤ x) {N : Nat} (hs : ns.sum ≤ (N : Int)) : ∀ p ∈ ns, 1 ≤ p ∧ p ≤ (N : Int) := by
  have key : ∀ (l : List Int), (∀ y ∈ l, 1 ≤ y) → 0 ≤ l.sum ∧ ∀ y ∈ l, y ≤ l.sum := by
    intro l
    induction l with
    | nil => exact fun _ => ⟨Int.le_refl _, fun y h => by cases h⟩
    | cons a r ih =>
      intro h
      have ha := h a List.mem_cons_self
      obtain ⟨h1, h2⟩ := ih fun z hz => h z (List.mem_cons_of_mem _ hz)
      rw [List.sum_cons]
      refine ⟨by omega, fun y hy => ?_⟩
      rcases List.mem_cons.mp hy with rfl | hy
      · omega
      · have := h2 y hy
        omega
  intro p hp
  have := (key ns h).2 p hp
  exact ⟨h p hp, by omega⟩
end Pg

set_option Elab.async false
set_option linter.all false
set_option maxRecDepth 100000
set_option maxHeartbeats 4000000
set_option pp.maxSteps 3000
/-! families with equally many, and how they are tied -/
namespace Pg
open PySem PySem.Spec PyProof.Rows L2 Dr Xv LamX Ps Gn Fm
structure Tied (one other : List Rule) : Prop where
  du : dueN (pS one) (pS other) (Nat.lcm (per one) (per other)) = none
  lc : Nat.lcm (per one) (per other) ≤ 5040
  cl : Cl one other
theorem Tied.symm {one other : List Rule} (h : Tied one other) : Tied other one := by
  refine ⟨due_none fun j hj => ?_, by rw [Nat.lcm_comm]; exact h.lc, h.cl.symm⟩
  rw [Nat.lcm_comm] at hj
  exact (due_all h.du j hj).symm
theorem bnd_one {fam : List Rule} (h : ∀ r ∈ fam, r.2.2 ≤ 1) (p : Int) : bnd fam p ≤ 1 := by
  by_cases c : hits fam p = []
  · rw [bnd_zero c]
    decide
  · have z := bnd_mem c
    obtain ⟨r, hr, e⟩ := List.mem_map.mp z
    rw [← e]
    exact h r (List.mem_filter.mp hr).1
theorem cl_one {r : Rule} {other : List Rule} (h : r.2.2 ≤ 1) : Cl [r] other := .inl (bnd_one fun q hq => by
  rw [List.mem_singleton.mp hq]
  exact h)
theorem bnd_swap (r q : Rule) (p : Int) : bnd [r, q] p = bnd [q, r] p := by
  have e1 : hits [r, q] p = hits [r] p ++ hits [q] p := by
    unfold hits
    rw [← List.map_append, ← List.filter_append]
    rfl
  have e2 : hits [q, r] p = hits [q] p ++ hits [r] p := by
    unfold hits
    rw [← List.map_append, ← List.filter_append]
    rfl
  by_cases c : hits [r, q] p = []
  · have c2 : hits [q, r] p = [] := by
      rw [e1, List.append_eq_nil_iff] at c
      rw [e2, c.1, c.2]
      rfl
    rw [bnd_zero c, bnd_zero c2]
  · have m := bnd_mem c
    refine (bnd_eq (by rw [e2]; rw [e1] at m; exact List.mem_append.mpr (List.mem_append.mp m).symm) fun y hy => ?_).symm
    have hy' : y ∈ hits [r, q] p := by
      rw [e1]
      rw [e2] at hy
      exact List.mem_append.mpr (List.mem_append.mp hy).symm
    unfold bnd
    cases e : hits [r, q] p with
    | nil => exact absurd e c
    | cons a t =>
      rw [e] at hy'
      exact (foldl_min t a).2 y hy'
theorem tied1 {x : Int} (h : 2 ≤ x ∧ x ≤ 4) : Tied [(x, [0], 1)] [(1, [0], x)] := by
  have : x = 2 ∨ x = 3 ∨ x = 4 := by omega
  rcases this with rfl | rfl | rfl
  · exact ⟨by decide +kernel, by decide +kernel, cl_one (Int.le_refl _)⟩
  · exact ⟨by decide +kernel, by decide +kernel, cl_one (Int.le_refl _)⟩
  · exact ⟨by decide +kernel, by decide +kernel, cl_one (Int.le_refl _)⟩
theorem tied2 : Tied [(6, [0, 2, 3, 4], 1)] [(3, [0], 1), (1, [0], 2)] := ⟨by decide +kernel, by decide +kernel, cl_one (Int.le_refl _)⟩
theorem tied3 : Tied [(4, [2], 1)] [(2, [1], 2)] := ⟨by decide +kernel, by decide +kernel, cl_one (Int.le_refl _)⟩
theorem tied4 {x y : Int} (h : 2 ≤ x ∧ x ≤ 4) (g : 1 ≤ y ∧ y ≤ 3) : Tied [(x * y, [0], 1)] [(y, [0], x)] := by
  have h1 : x = 2 ∨ x = 3 ∨ x = 4 := by omega
  have h2 : y = 1 ∨ y = 2 ∨ y = 3 := by omega
  rcases h1 with rfl | rfl | rfl <;> rcases h2 with rfl | rfl | rfl <;> exact ⟨by decide +kernel, by decide +kernel, cl_one (Int.le_refl _)⟩
theorem tied5 : Tied [(4, [0], 1), (4, [2], 2)] [(4, [2], 2), (4, [0], 1)] := ⟨by decide +kernel, by decide +kernel, .inr (.inr fun p => bnd_swap _ _ p)⟩
end Pg

set_option Elab.async false
set_option linter.all false
set_option maxRecDepth 100000
set_option maxHeartbeats 4000000
set_option pp.maxSteps 3000
namespace Pg
open PySem PySem.Spec PyProof.Rows L2 Dr Xv LamX Ps Gn Fm
theorem kp_perm {fam : List Rule} {ns ys : List Int} (h : ys.Perm ns) (k : kp fam ns = true) : kp fam ys = true := by
  refine List.all_eq_true.mpr fun p hp => ?_
  have z := List.all_eq_true.mp k p (h.mem_iff.mp hp)
  have e : ct p ys = ct p ns := h.countP_eq _
  unfold kpT at z ⊢
  rw [e]
  exact z
theorem sum_perm {ns ys : List Int} (h : ys.Perm ns) : ys.sum = ns.sum := by
  induction h with
  | nil => rfl
  | cons x _ ih => rw [List.sum_cons, List.sum_cons, ih]
  | swap x y l =>
    rw [List.sum_cons, List.sum_cons, List.sum_cons, List.sum_cons]
    omega
  | trans _ _ i1 i2 => rw [i1, i2]
end Pg

set_option Elab.async false
set_option linter.all false
set_option maxRecDepth 100000
set_option maxHeartbeats 4000000
set_option pp.maxSteps 3000
namespace Pg
open PySem PySem.Spec PyProof.Rows L2 Dr Xv LamX Ps Gn Fm
theorem ct_count (p : Int) (ns : List Int) : ct p ns = ns.count p := rfl
theorem rem_at {ns : List Int} {k : Int} (h : 0 < ct k ns) : ∃ j : Nat, ns[j]? = some k ∧ (∀ m : Nat, m < j → ns[m]? ≠ some k) ∧ ∀ r, ct r (ns.eraseIdx j) = ct r ns - if r = k then 1 else 0 := by
  have hm : k ∈ ns := List.count_pos_iff.mp h
  have hi := List.idxOf_lt_length_of_mem hm
  refine ⟨ns.idxOf k, ?_, fun m hm2 e => ?_, fun r => ?_⟩
  · rw [List.getElem?_eq_getElem hi, List.getElem_idxOf]
  · obtain ⟨h1, h2⟩ := List.getElem?_eq_some_iff.mp e
    have := List.not_of_lt_findIdx (p := (· == k)) (xs := ns) (i := m) hm2
    simp [h2] at this
  · have e : ns.eraseIdx (ns.idxOf k) = ns.erase k := by
      rw [List.erase_eq_eraseIdx_of_idxOf rfl]
    rw [e, ct_count, ct_count, List.count_erase]
    by_cases c : r = k
    · rw [if_pos c, if_pos (by rw [c]; simp)]
    · rw [if_neg c, if_neg (by simpa using fun z => c z.symm)]
theorem fire_list {G : Gm} {hs hs' : List Int} {p c : Int} {b g : Nat} (hb : G.b p = b) (hm : G.m p = c) (hg : G.g p = g) (h : ∀ r, ct r hs' = ct r hs - if r = p then b else 0) : ctx (hs' ++ List.replicate g c) = G.fire (ctx hs) p := by
  funext r
  show ct r (hs' ++ List.replicate g c) = ct r hs - (if r = p then G.b p else 0) + (if r = G.m p then G.g p else 0)
  rw [hb, hm, hg, ← h r]
  have e : ct r (hs' ++ List.replicate g c) = ct r hs' + ct r (List.replicate g c) := by
    unfold ct
    rw [List.countP_append]
  rw [e]
  congr 1
  unfold ct
  rw [List.countP_replicate]
  by_cases q : r = c
  · rw [if_pos q, if_pos (by rw [q]; simp)]
  · rw [if_neg q, if_neg (by simpa using fun z => q z.symm)]
theorem sum_len : ∀ {l : List Int}, (∀ y ∈ l, 1 ≤ y) → (l.length : Int) ≤ l.sum
  | [], _ => Int.le_refl _
  | a :: r, h => by
    have ha := h a List.mem_cons_self
    have := sum_len (l := r) fun z hz => h z (List.mem_cons_of_mem _ hz)
    rw [List.sum_cons, List.length_cons]
    omega
theorem len_of {G : Gm} {N : Nat} {hs : List Int} (I : Inv G N (ctx hs)) : (∀ x ∈ hs, 1 ≤ x ∧ x ≤ (N : Int)) ∧ hs.length ≤ N := by
  have h1 : ∀ x ∈ hs, 1 ≤ x ∧ x ≤ (N : Int) := fun x hx => I.rg x (ctx_mem.mpr hx)
  refine ⟨h1, ?_⟩
  have t := tot_ctx hs N h1
  have w := I.wt
  have := sum_len fun y hy => (h1 y hy).1
  omega
theorem len_fire {hs hs' : List Int} {p : Int} {b : Nat} (h : ∀ r, ct r hs' = ct r hs - if r = p then b else 0) {N : Nat} (hl : hs'.length ≤ N) : hs'.length ≤ N := hl
theorem ctx_perm {ns ys : List Int} (h : ys.Perm ns) : ctx ys = ctx ns := by
  funext r
  exact h.countP_eq _
/-- parts that are full -/
def fulT (other : List Rule) (hs : List Int) (p : Int) : Bool := decide (0 < bnd other p) && decide (bnd other p ≤ (ct p hs : Int))
theorem full_none {one other : List Rule} (G2 : Good other) {hs qs : List Int} (h : ∀ k, k ∈ qs ↔ k ∈ hs) (e : qs.filter (fulT other hs) = []) : (gm one other).stable (ctx hs) := fun p hp => by
  obtain ⟨a, b, rfl, ha, hb, e1, eb⟩ := gm_b G2 hp
  rw [eb]
  by_cases m : (a : Int) ∈ hs
  · have z := List.filter_eq_nil_iff.mp e _ ((h _).mpr m)
    unfold fulT at z
    rw [Bool.and_eq_true, decide_eq_true_eq, decide_eq_true_eq, e1] at z
    show ct (a : Int) hs < b
    omega
  · have : ctx hs (a : Int) = 0 := Classical.not_not.mp fun q => m (ctx_mem.mp q)
    omega
theorem full_ok {one other : List Rule} {hs qs : List Int} {p : Int} (h1 : 1 ≤ p) (h : p ∈ qs.filter (fulT other hs)) : ∃ a b : Nat, p = (a : Int) ∧ bnd other p = (b : Int) ∧ 1 ≤ a ∧ 1 ≤ b ∧ b ≤ ct p hs ∧ (gm one other).ok (ctx hs) p := by
  have z := (List.mem_filter.mp h).2
  unfold fulT at z
  rw [Bool.and_eq_true, decide_eq_true_eq, decide_eq_true_eq] at z
  obtain ⟨b, eb⟩ : ∃ b : Nat, bnd other p = (b : Int) := ⟨(bnd other p).toNat, by omega⟩
  obtain ⟨a, rfl⟩ : ∃ a : Nat, p = (a : Int) := ⟨p.toNat, by omega⟩
  have g := gm_nat one other (a := a) (by omega) eb
  refine ⟨a, b, rfl, eb, by omega, by omega, by omega, ?_, ?_⟩
  · rw [g]
    omega
  · rw [g]
    show b ≤ ct (a : Int) hs
    omega
end Pg

set_option Elab.async false
set_option linter.all false
set_option maxRecDepth 100000
set_option maxHeartbeats 4000000
set_option pp.maxSteps 3000
/-! all partitions: each once, descending -/
namespace Pg
open PySem PySem.Spec PyProof.Rows L2 Dr Xv LamX Ps Gn Fm
theorem pw_all : ∀ (f n g : Nat) (ns : List Int), n < f → ns.Pairwise (fun x y => y ≤ x) → (∀ x ∈ ns, 1 ≤ x) → (∀ x ∈ ns, x ≤ (g : Int)) → ns.sum = (n : Int) → ns ∈ Pt.pw f n g
  | 0, n, g, ns, h, _, _, _, _ => by omega
  | f + 1, n, g, ns, h, hd, lo, hi, hs => by
    by_cases z : n = 0
    · subst z
      rw [Pt.pw_zero]
      cases ns with
      | nil => exact List.mem_singleton.mpr rfl
      | cons x r =>
        have := sum_len lo
        rw [List.length_cons] at this
        omega
    · rw [Pt.pw_pos z]
      cases ns with
      | nil =>
        rw [List.sum_nil] at hs
        omega
      | cons x r =>
        have x1 := lo x List.mem_cons_self
        have x2 := hi x List.mem_cons_self
        obtain ⟨a, rfl⟩ : ∃ a : Nat, x = (a : Int) := ⟨x.toNat, by omega⟩
        obtain ⟨h1, h2⟩ := List.pairwise_cons.mp hd
        have r1 : ∀ y ∈ r, 1 ≤ y := fun y hy => lo y (List.mem_cons_of_mem _ hy)
        have r0 := sum_len r1
        rw [List.sum_cons] at hs
        have ih := pw_all f (n - a) a r (by omega) h2 r1 h1 (by omega)
        refine List.mem_flatten.mpr ⟨_, List.mem_map.mpr ⟨min n g - a, List.mem_range.mpr (by omega), rfl⟩, ?_⟩
        have ea : min n g - (min n g - a) = a := by omega
        rw [ea]
        exact List.mem_map.mpr ⟨r, ih, rfl⟩
theorem pw_sum : ∀ (f n g : Nat) (ns : List Int), ns ∈ Pt.pw f n g → ns.sum = (n : Int)
  | 0, n, g, ns, h => by cases h
  | f + 1, n, g, ns, h => by
    by_cases z : n = 0
    · subst z
      rw [Pt.pw_zero] at h
      rw [List.mem_singleton.mp h]
      rfl
    · rw [Pt.pw_pos z] at h
      obtain ⟨l, hl, hns⟩ := List.mem_flatten.mp h
      obtain ⟨i, hi, rfl⟩ := List.mem_map.mp hl
      obtain ⟨r, hr, rfl⟩ := List.mem_map.mp hns
      have hi' := List.mem_range.mp hi
      have ih := pw_sum f _ _ r hr
      rw [List.sum_cons, ih]
      omega
theorem pw_desc : ∀ (f n g : Nat), (Pt.pw f n g).Pairwise (fun x y => y < x)
  | 0, n, g => .nil
  | f + 1, n, g => by
    by_cases z : n = 0
    · subst z
      rw [Pt.pw_zero]
      exact List.pairwise_singleton _ _
    · rw [Pt.pw_pos z]
      refine List.pairwise_flatten.mpr ⟨fun l hl => ?_, ?_⟩
      · obtain ⟨i, hi, rfl⟩ := List.mem_map.mp hl
        rw [List.pairwise_map]
        exact (pw_desc f _ _).imp fun h => List.cons_lt_cons_iff.mpr (.inr ⟨rfl, h⟩)
      · rw [List.pairwise_map]
        refine List.Pairwise.imp_of_mem (fun {i j} hi hj hij => ?_) List.pairwise_lt_range
        intro x hx y hy
        obtain ⟨r, _, rfl⟩ := List.mem_map.mp hx
        obtain ⟨s, _, rfl⟩ := List.mem_map.mp hy
        have h1 := List.mem_range.mp hi
        have h2 := List.mem_range.mp hj
        exact List.cons_lt_cons_iff.mpr (.inl (by omega))
/-- those of n that one keeps -/
def fam (f : List Rule) (n : Nat) : List (List Int) := (Pt.pw 16 n n).filter (kp f)
theorem fam_mem {f : List Rule} {n : Nat} (hn : n < 16) {ns : List Int} : ns ∈ fam f n ↔ ns.Pairwise (fun x y => y ≤ x) ∧ (∀ x ∈ ns, 1 ≤ x) ∧ ns.sum = (n : Int) ∧ kp f ns = true := by
  unfold fam
  rw [List.mem_filter]
  constructor
  · rintro ⟨h1, h2⟩
    have g := Pt.pw_good _ _ _ _ h1
    exact ⟨g.ds, g.lo, pw_sum _ _ _ _ h1, h2⟩
  · rintro ⟨h1, h2, h3, h4⟩
    exact ⟨pw_all 16 n n ns hn h1 h2 (fun x hx => (part_le h2 (N := n) (by omega) x hx).2) h3, h4⟩
theorem fam_desc (f : List Rule) (n : Nat) : (fam f n).Pairwise (fun x y => y < x) := (pw_desc 16 n n).filter _
theorem fam_nodup (f : List Rule) (n : Nat) : (fam f n).Nodup := by
  rw [List.nodup_iff_pairwise_ne]
  exact (fam_desc f n).imp fun h e => by
    rw [e] at h
    exact List.lt_irrefl _ h
/-- each leads to one, and back -/
structure Told (one other : List Rule) (l m : List (List Int)) : Prop where
  ln : l.length = m.length
  at_ : ∀ (i : Nat) (x y : List Int), l[i]? = some x → m[i]? = some y → PairR one other x y
theorem Told.nil {one other : List Rule} : Told one other [] [] := ⟨rfl, fun i x y h => by cases h⟩
theorem Told.snoc {one other : List Rule} {l m : List (List Int)} (T : Told one other l m) {x y : List Int} (h : PairR one other x y) : Told one other (l ++ [x]) (m ++ [y]) := by
  refine ⟨by rw [List.length_append, List.length_append, T.ln]; rfl, fun i x' y' e1 e2 => ?_⟩
  by_cases c : i < l.length
  · rw [List.getElem?_append_left c] at e1
    rw [List.getElem?_append_left (by rw [← T.ln]; exact c)] at e2
    exact T.at_ i x' y' e1 e2
  · rw [List.getElem?_append_right (by omega)] at e1
    rw [List.getElem?_append_right (by rw [← T.ln]; omega), ← T.ln] at e2
    cases h0 : i - l.length with
    | zero =>
      rw [h0] at e1 e2
      cases e1
      cases e2
      exact h
    | succ k =>
      rw [h0] at e1
      cases e1
theorem PairR.sum {one other : List Rule} (G1 : Good one) (G2 : Good other) (E : EqF one other) {ns ys : List Int} (h1 : ∀ x ∈ ns, 1 ≤ x) (hk : kp one ns = true) (h : PairR one other ns ys) : ys.sum = ns.sum ∧ kp other ys = true := by
  obtain ⟨N, hN⟩ : ∃ N : Nat, ns.sum ≤ (N : Int) := ⟨ns.sum.toNat, by omega⟩
  have I := inv_of G1 G2 E h1 hN hk
  obtain ⟨k, r⟩ := h.run
  obtain ⟨Iy, t⟩ := Run.inv (gm_fair G1 G2 E) I r
  have t1 := tot_ctx ys N fun x hx => Iy.rg x (ctx_mem.mpr hx)
  have t2 := tot_ctx ns N fun x hx => I.rg x (ctx_mem.mpr hx)
  exact ⟨by rw [← t1, ← t2, t], kp_of G2 h.lo h.st⟩
theorem told_perm {one other : List Rule} (G1 : Good one) (G2 : Good other) (E : EqF one other) (C : Cl one other) {n : Nat} (hn : n < 16) {m : List (List Int)} (T : Told one other (fam one n) m) : m.Perm (fam other n) := by
  refine (List.perm_ext_iff_of_nodup ?_ (fam_nodup other n)).mpr fun ys => ⟨fun h => ?_, fun h => ?_⟩
  · refine List.nodup_iff_pairwise_ne.mpr (List.pairwise_iff_getElem.mpr fun i j hi hj hij e0 => ?_)
    obtain ⟨y, hy⟩ : ∃ y, m[j]? = some y := ⟨_, List.getElem?_eq_getElem hj⟩
    have e : m[i]? = some y := by rw [List.getElem?_eq_getElem hi, e0, ← List.getElem?_eq_getElem hj, hy]
    obtain ⟨x, hx⟩ : ∃ x, (fam one n)[j]? = some x := ⟨_, List.getElem?_eq_getElem (by rw [T.ln]; exact hj)⟩
    obtain ⟨x', hx'⟩ : ∃ x, (fam one n)[i]? = some x := ⟨_, List.getElem?_eq_getElem (by rw [T.ln]; omega)⟩
    have p1 := T.at_ j x y hx hy
    have p2 := T.at_ i x' y hx' e
    obtain ⟨a1, a2, a3, a4⟩ := (fam_mem hn).mp (List.mem_of_getElem? hx)
    obtain ⟨b1, b2, b3, b4⟩ := (fam_mem hn).mp (List.mem_of_getElem? hx')
    have q1 := p1.back G1 G2 E a1 a2 a4
    have q2 := p2.back G1 G2 E b1 b2 b4
    have ex := q1.uniq q2
    rw [ex, ← hx'] at hx
    have := List.getElem?_inj (by rw [T.ln]; exact hj) (fam_nodup one n) |>.mp hx
    omega
  · obtain ⟨i, hi⟩ := List.mem_iff_getElem?.mp h
    obtain ⟨x, hx⟩ : ∃ x, (fam one n)[i]? = some x := ⟨_, List.getElem?_eq_getElem (by rw [T.ln]; exact (List.getElem?_eq_some_iff.mp hi).1)⟩
    have p := T.at_ i x ys hx hi
    obtain ⟨a1, a2, a3, a4⟩ := (fam_mem hn).mp (List.mem_of_getElem? hx)
    obtain ⟨s1, s2⟩ := p.sum G1 G2 E a2 a4
    exact (fam_mem hn).mpr ⟨p.ds, p.lo, by rw [s1, a3], s2⟩
  · obtain ⟨a1, a2, a3, a4⟩ := (fam_mem hn).mp h
    obtain ⟨xs, p, s⟩ := pair_ex G2 G1 E.symm C.symm a2 a4
    obtain ⟨s1, s2⟩ := p.sum G2 G1 E.symm a2 a4
    have hx : xs ∈ fam one n := (fam_mem hn).mpr ⟨p.ds, p.lo, by rw [s, a3], s2⟩
    have b := p.back G2 G1 E.symm a1 a2 a4
    obtain ⟨i, hi⟩ := List.mem_iff_getElem?.mp hx
    obtain ⟨y, hy⟩ : ∃ y, m[i]? = some y := ⟨_, List.getElem?_eq_getElem (by rw [← T.ln]; exact (List.getElem?_eq_some_iff.mp hi).1)⟩
    have p2 := T.at_ i xs y hi hy
    rw [b.uniq p2]
    exact List.mem_of_getElem? hy
theorem told_sorted {one other : List Rule} (G1 : Good one) (G2 : Good other) (E : EqF one other) (C : Cl one other) {n : Nat} (hn : n < 16) {m bs : List (List Int)} (T : Told one other (fam one n) m) (hp : bs.Perm m) (hd : bs.Pairwise (fun x y => y ≤ x)) : bs = fam other n := by
  refine List.Perm.eq_of_pairwise (fun a b _ _ h1 h2 => List.le_antisymm h2 h1) hd ((fam_desc other n).imp fun h => List.le_of_lt h) (hp.trans (told_perm G1 G2 E C hn T))
end Pg

set_option Elab.async false
set_option linter.all false
set_option maxRecDepth 100000
set_option maxHeartbeats 4000000
set_option pp.maxSteps 3000
namespace Pg
open PySem PySem.Spec PyProof.Rows L2 Dr Xv LamX Ps Gn Fm
theorem DX.keys {kvs kvs' : List (Key × V)} {ks ks' : List Int} {N : Nat} {x y : X} {k : Key} {v : V} (D : DX kvs ks N x) (D' : DX kvs' ks' N y) (e : kvs' = putK kvs k v) : ks'.length ≤ ks.length + 1 ∧ (k ∈ kvs.map (·.1) → ks'.length = ks.length) := by
  have h1 : kvs.length = ks.length := by
    have z := congrArg List.length D.km
    rwa [List.length_map, List.length_map] at z
  have h2 : kvs'.length = ks'.length := by
    have z := congrArg List.length D'.km
    rwa [List.length_map, List.length_map] at z
  have h3 := length_putK kvs k v
  rw [← e, h2, h1] at h3
  refine ⟨h3, fun c => ?_⟩
  have z := congrArg List.length (keys_put_in (v := v) c)
  rw [List.length_map, List.length_map, ← e, h1, h2] at z
  exact z
theorem DX.key_in {kvs : List (Key × V)} {ks : List Int} {N : Nat} {x : X} (D : DX kvs ks N x) {p : Int} (h : p ∈ ks) : kI p ∈ kvs.map (·.1) := by
  rw [D.km]
  exact List.mem_map.mpr ⟨p, h, rfl⟩
end Pg

set_option Elab.async false
set_option linter.all false
set_option maxRecDepth 100000
set_option maxHeartbeats 4000000
set_option pp.maxSteps 3000
namespace L2
open PySem PySem.Spec PyProof.Rows
section
variable {X : Cx}
/-- sorted(d, reverse=b) of a dict of fewer than 64 whole numbers -/
def rSortRevD (b : Bool) : List V → List V → Hp → VK → Prop := fun xs zs H Q => ∃ (a : Addr) (kvs : List (Key × V)) (ks : List Int), xs = [.ref a] ∧ zs = [.bl b] ∧ Rd H a (.dK kvs) ∧ kvs.map (·.1) = ks.map Sum.inl ∧ ks.length < 64 ∧
  ∀ (ys : List Int) (p : Addr), ys.Perm ks → OrdB b ys → H p = none → Q (.ref p) (upd H p (.lst (ys.map V.int)))
theorem cr_sortedRevD (hcalm : X.calm = true) {b : Bool} : CallRK X (.builtin "sorted") [Str.ofString "reverse"] (rSortRevD b) := by
  intro pins s σ H xs zs us ws Q I r rz q
  obtain ⟨a, kvs, ks, rfl, rfl, hd, hks, h64, q⟩ := q
  obtain rfl := Vals.ref1 r
  obtain ⟨w1, rfl, e1⟩ := vals1 rz
  obtain rfl : w1 = Value.bool b := e1
  obtain ⟨z, lo, vs, rel, dd⟩ := dk_rd I.hok hd
  obtain ⟨ep, hat⟩ := dd.dictAt
  have hkeys : vs.map (·.1) = ks.map Sum.inl := rel.keys.symm.trans hks
  have hl : vs.length = ks.length := by
    have e := congrArg List.length hkeys
    rwa [List.length_map, List.length_map] at e
  have h16 : vs.length ≤ sizeLine := by rw [hl, sizeLine_eq]; omega
  show wpAny _ _ (call (.builtin "sorted") [.ref a] [(Str.ofString "reverse", Value.bool b)]) _ _ _
  refine call_function_entry_kw kind_sorted plain_sorted entry_sorted (PyProof.Rows.args_sorted_rev _ _) ?_
  unfold Builtin.«sorted»
  refine wpAny_bind (m := checkCount "sorted" 1 1 _) (wpAny_pure ?_)
  refine wpAny_bind (PySem.W.kdu_collect (A := X.A.in1) (PySem.W.kdl_dict (knd := mixKind X.prog X.w) (kvs := vs) (ep := ep) lo) (I.ok.hd hcalm) hat h16 fun h' tk acc hk hacc => ?_)
  have hal : acc.toList.length = ks.length := by rw [Array.length_toList, hacc.1, hl]
  have hS : IntsAre acc.toList ks := ints_each hal fun j v e => by
    obtain ⟨k, x, e1, e2⟩ := hacc.2 j v (by rw [← Array.getElem?_toList]; exact e)
    have e3 : (vs.map (·.1))[j]? = some k := by rw [List.getElem?_map, e1]; rfl
    rw [hkeys, List.getElem?_map] at e3
    cases e4 : ks[j]? with
    | none => rw [e4] at e3; cases e3
    | some y =>
      rw [e4] at e3
      obtain rfl : Sum.inl y = k := Option.some.inj e3
      rcases keyIs_shape (show keyIs (Sum.inl y) v = true from e2) with ⟨i, t, ek, ev⟩ | ⟨z, t, ek, ev⟩
      · cases ek
        exact ⟨y, t, rfl, ev⟩
      · cases ek
  have I1 : Inv X pins σ H { s with heap := h', toks := tk } := I.kept hk
  have hz : acc.toList.length ≤ sizeLine := by rw [hal, sizeLine_eq]; omega
  refine wpAny_bind (wpAny_newList ?_ hz)
  have hoL : (h'.push (seqObj "list" acc.toList.toArray 0)).get? h'.objs.size = some (seqObj "list" acc.toList.toArray 0) := Heap.get?_push_size _ rfl
  show wpAny _ _ _ _ _ { s with heap := h'.push (seqObj "list" acc.toList.toArray 0), toks := tk }
  refine wpAny_bind (wpAny_holding (wpAny_call_entry_kw slot_list_sort ⟨_, hoL, rfl⟩ entry_list_sort ?_ (PyProof.Rows.args_list_sort_rev _ _)))
  refine SrtR.list_sort_ordR SrtO.swo_int hoL hz (fun h2 => SrtO.ints_sortable hS h2) fun out h1 h2 => ⟨_, rfl, ?_⟩
  obtain ⟨ns', k1, k2, k3⟩ := SrtR.ints_outR hS h1 h2
  obtain ⟨e', he'⟩ := PyProof.Rows.sortedHeap_at (vs := acc.toList) (out := if b = true then out.toArray.reverse else out.toArray) hoL
  have hlen : (ns'.map V.int).length ≤ sizeLine := by
    rw [List.length_map, k2.length_eq, sizeLine_eq]
    omega
  refine wpAny_pure ⟨_, rfl, .ref h'.objs.size, upd H h'.objs.size (.lst (ns'.map V.int)), I1.laid (t' := tk) (fun b2 u e => ?_) (Nat.le_refl _)
    (show ObjOk X.prog X.w _ _ _ (.lst (ns'.map V.int)) from ⟨hlen, _, e', vals_of_ints k1, by rw [Array.toArray_toList]; exact he'⟩), rfl, q ns' _ k2 k3 (I1.hok.fresh (Nat.le_refl _))⟩
  have hb : b2 < h'.objs.size := Heap.lt_size e
  rw [PyProof.Rows.sortedHeap_old (Nat.ne_of_lt hb) (by rw [size_push']; exact Nat.lt_succ_of_lt hb)]
  exact Heap.get?_push_of_some _ e
end
/-! ### set(xs) of a list of whole numbers, one that can be walked -/
abbrev eSet (w : World) : Obj := { cls := .type "set", dict := none, data := .set #[] 0 (.fresh 0 0 (!w.params.followText "set-order")) }
section
variable {P : Program} {w : World} {A : Around} {E : Value → Shared → Prop} {s : Shared}
/-- a set of these numbers in place of the next object -/
def Filled (w : World) (s : Shared) (ns : List Int) (r : Value) (s2 : Shared) : Prop := r = Value.none ∧ ∃ (h' : Heap) (tk c : Nat), s2 = { s with heap := h', toks := tk } ∧ SetR w h' s.heap.objs.size (fun j => decide (j ∈ ns)) c ∧ c ≤ ns.length ∧ ∀ b o, s.heap.get? b = some o → h'.get? b = some o
set_option maxHeartbeats 3200000 in
theorem set_of_list {l : Addr} {items : Array Value} (ns : List Int) {Q : Value → Shared → Prop} (hh : A.handled = none) (hl : s.heap.IsList l items) (hit : IntsAre items.toList ns) (hb : ns.length + 1 < scanBound)
    (h : ∀ s2, Filled w s ns .none s2 → Q (.ref s.heap.objs.size) s2) : wpAny (model P w) A (call (.type "set") [.ref l]) Q E s := by
  have hn : items.size = ns.length := (Array.length_toList).symm.trans (IntsAre.length hit)
  obtain ⟨c0, tl, hmro⟩ := F.called_set.mro
  have m1 := F.called_set.made
  have m2 := F.called_set.sub
  refine wpAny_call (codeAny_of_tree ?_)
  show wpAny _ _ (callAny (.type "set") _) _ _ _
  refine wpAny_pure ⟨Code.quiet_builtin _ (by decide +kernel), codeAny_builtin F.entry_type_call ?_⟩
  rw [Around.under_plain (weight_type_call_type "set" [.ref l] []) rfl]
  have m3 := F.called_set.notType
  have m4 := F.called_set.canCreate
  have m5 := F.typeCall_set_1 (.ref l)
  repeat (any_goals (first | assumption | wp_step))
  refine codeAny_mono (code_set_led1 (w := w) (.ref l) (E := E) (Q₁ := fun r s1 => r = .ref s.heap.objs.size ∧ s1 = { s with heap := s.heap.push (eSet w) }) ⟨rfl, rfl⟩) fun r s1 hr => ?_
  match r, hr with
  | .error e, hr => exact hr
  | .ok (.ret _), ⟨e1, e2⟩ =>
    subst e1
    subst e2
    have hS : (s.heap.push (eSet w)).get? s.heap.objs.size = some (eSet w) := Heap.get?_push_size _ rfl
    have hT : Shared.TypeIs { s with heap := s.heap.push (eSet w) } (.ref s.heap.objs.size) "set" := ⟨_, hS, rfl⟩
    have m6 := F.called_set.init.lookup
    have m7 := F.called_set.init.bind (.ref s.heap.objs.size)
    repeat (any_goals (first | assumption | wp_step))
    refine codeAny_mono (codeAny_call_builtin (R := wants (Filled w s ns) E) F.called_set.init.plain F.entry_set_init (check_set_init_1 hT ?_)) fun r2 s2 hr2 => ?_
    · obtain ⟨⟨oc, od, odt, osl⟩, hol, hcl, nl, hdl⟩ := hl
      simp only at hcl hdl
      subst hcl
      subst hdl
      have hl1 : (s.heap.push (eSet w)).IsList l items := ⟨_, Heap.get?_push_of_some _ hol, rfl, nl, rfl⟩
      have hol' : (s.heap.push (eSet w)).get? l = some { cls := .type "list", dict := od, data := .seq items nl, slots := osl } := Heap.get?_push_of_some _ hol
      have t1 := F.sub_list_set
      have t2 := F.sub_list_frozenset
      have t3 : (Value.type "list" == Value.type "dict") = false := by decide
      unfold Builtin.«set.__init__» noKeywords Builtin.Frozenset.updateFrom
      generalize hPI : pyIter = PI
      wp_walk
      subst hPI
      refine wpAny_pyIter_list hl1 ?_
      refine wpAny_bind (wpAny_runValue ?_)
      have lt := Heap.lt_size hol
      have hA : A.in1.in1.in1.handled = none := by simp [hh]
      have sz : (s.heap.push (eSet w)).objs.size = s.heap.objs.size + 1 := Heap.size_push ..
      have n1 : l ≠ (s.heap.push (eSet w)).objs.size := by
        rw [sz]
        exact Nat.ne_of_lt (Nat.lt_succ_of_lt lt)
      have n2 : s.heap.objs.size ∉ [(s.heap.push (eSet w)).objs.size, l] := by
        rw [List.mem_cons, List.mem_singleton, sz]
        rintro (z | z)
        · exact absurd z (Nat.ne_of_lt (Nat.lt_succ_self _))
        · exact absurd z (Nat.ne_of_gt lt)
      refine set_update_ints ((Walks.list hA _ l n1 items).toS) s.heap.objs.size n2 ns hn hb (fun i v hv => ?_) (items.size - 0) 0 _ (by omega) (Nat.zero_le _) ⟨⟨_, Heap.get?_push_size _ rfl, rfl, rfl⟩, hl1.push _⟩ ⟨0, Nat.le_refl 0, setR_new_at (Heap.get?_push_of_some _ hS)⟩ ?_
      · have hi : i < ns.length := by rw [← hn]; exact (Array.getElem?_eq_some_iff.mp hv).1
        obtain ⟨t, e⟩ := PyProof.Rows.IntsAre.int_at hit i v (by rw [Array.getElem?_toList]; exact hv)
        rw [List.getD_eq_getElem?_getD, List.getElem?_eq_getElem hi] at e
        exact ⟨_, t, List.getElem?_eq_getElem hi, e⟩
      · rintro ⟨h', g2, d2, t2, o2⟩ c hm hc hS2
        obtain rfl : g2 = s.gens := hm.gens
        obtain rfl : d2 = s.drawn := hm.drawn
        obtain rfl : o2 = s.os := hm.os
        show wpAny _ _ _ _ _ _
        refine wpAny_pure ?_
        show wpAny _ _ (ret Value.none) _ _ _
        refine wpAny_pure ⟨rfl, h', t2, c, rfl, hS2, by omega, fun b o e => ?_⟩
        have lb := Heap.lt_size e
        refine hm.heap b o ?_ (Heap.get?_push_of_some _ (Heap.get?_push_of_some _ e))
        rw [List.mem_cons, List.mem_singleton, sz]
        rintro (z | z)
        · exact absurd z (Nat.ne_of_lt lb)
        · exact absurd z (Nat.ne_of_lt (Nat.lt_succ_of_lt lb))
    · match r2, hr2 with
      | .error e, hr2 => exact hr2
      | .ok (.ret _), ⟨e1, F2⟩ =>
        subst e1
        repeat (any_goals (first | assumption | wp_step))
        exact h _ ⟨rfl, F2⟩
end
/-- set(xs) -/
def rSetLI (K : PySem.W.Frag) (w : World) : List V → Hp → VK → Prop := fun xs H Q => ∃ (l : Addr) (ns : List Int), xs = [.ref l] ∧ SqL K H l (ns.map V.int) ∧ ns.length ≤ 1000 ∧ ∀ (p : Addr) (c : Nat), H p = none → c ≤ ns.length → Q (.ref p) (upd H p (SetO w p (fun j => decide (j ∈ ns)) c))
theorem cr_setLI {X : Cx} (hc : X.calm = true) : CallR X (.type "set") (rSetLI X.K X.w) := by
  intro pins s σ H xs us Q I r h
  obtain ⟨l, ns, rfl, hs, hn, q⟩ := h
  rw [Vals.ref1 r]
  obtain ⟨its, rv, pl, hz⟩ := I.list hs
  refine set_of_list ns (I.ok.hd hc) pl.isList (by simpa using rv.ints) (by unfold scanBound; omega) ?_
  rintro s2 ⟨_, h', tk, c, rfl, R, hc2, k⟩
  exact ⟨.ref _, upd H s.heap.objs.size (SetO X.w s.heap.objs.size (fun j => decide (j ∈ ns)) c), I.laid (t' := tk) k (Nat.le_refl _) (setO_new R), rfl, q _ c (I.hok.fresh (Nat.le_refl _)) hc2⟩
end L2

set_option Elab.async false
set_option linter.all false
set_option maxRecDepth 100000
set_option maxHeartbeats 4000000
set_option pp.maxSteps 3000
/-! sorted(.., reverse=True) of a list of tuples of whole numbers -/
namespace Gn
open PySem PySem.Spec PyProof.Rows L2 Dr Xv LamX Ps
def encT (b : Addr × List Int) : PyData := tupD b.2
theorem intsD_map : ∀ ns : List Int, intsD ns = ns.map PyData.int
  | [] => rfl
  | z :: r => congrArg (PyData.int z :: ·) (intsD_map r)
theorem encT_alike (x y : Addr × List Int) : PySem.W.alike (encT x) (encT y) = true := by
  have e := PySem.W.alike_ints x.2 y.2
  show PySem.W.alike (.tuple (intsD x.2)) (.tuple (intsD y.2)) = true
  rw [intsD_map, intsD_map]
  simpa [PySem.W.alike] using e
theorem encT_le {x y : Addr × List Int} (h : PySem.W.dataLe true encT x y = true) : y.2 ≤ x.2 := by
  rw [PySem.W.dataLe_eq] at h
  have h' : (!PySem.W.dataLt (.tuple (intsD x.2)) (.tuple (intsD y.2))) = true := h
  rw [PySem.W.dataLt_tuple] at h'
  have h2 : (!PySem.W.rowLt (intsD x.2) (intsD y.2)) = true := h'
  rw [intsD_map, intsD_map, PySem.W.dataLt_ints, Bool.not_eq_true', decide_eq_false_iff_not] at h2
  exact List.not_lt.mp h2
theorem each_fst {R : Value → Addr × List Int → Prop} : ∀ (ts : List Addr) (ps : List (List Int)), ts.length = ps.length → (∀ (i : Nat) (t : Addr) (p : List Int), ts[i]? = some t → ps[i]? = some p → R (.ref t) (t, p)) → PySem.W.EachIs R (ts.map Value.ref) (ts.zip ps)
  | [], [], _, _ => .nil
  | t :: ts, p :: ps, hl, h => .cons (h 0 t p rfl rfl) (each_fst ts ps (Nat.succ.inj hl) fun i t' p' e1 e2 => h (i + 1) t' p' e1 e2)
  | [], _ :: _, hl, _ => by cases hl
  | _ :: _, [], hl, _ => by cases hl
theorem vals_refs : ∀ {ts : List Addr} {its : List Value}, Vals (ts.map V.ref) its → its = ts.map Value.ref
  | [], _, h => by
    cases h
    rfl
  | t :: ts, _, h => by
    cases h with
    | cons r h =>
      cases r
      rw [vals_refs h]
      rfl
theorem refs_vals : ∀ ts : List Addr, Vals (ts.map V.ref) (ts.map Value.ref)
  | [] => .nil
  | t :: ts => .cons rfl (refs_vals ts)
theorem each_refs : ∀ {out : List Value} {bs : List (Addr × List Int)}, PySem.W.EachIs (fun v b => v = Value.ref b.1) out bs → out = (bs.map (·.1)).map Value.ref
  | _, _, .nil => rfl
  | _, _, .cons h t => by
    rw [each_refs t, h]
    rfl
def rSortTR (K : PySem.W.Frag) : List V → List V → Hp → VK → Prop := fun xs zs H Q => ∃ (a : Addr) (ts : List Addr) (ps : List (List Int)), xs = [.ref a] ∧ zs = [.bl true] ∧ SqL K H a (ts.map V.ref) ∧ TupI H ts ps ∧ ((∀ p ∈ ps, p ≠ []) ∨ ps.length ≤ 1) ∧
  ∀ (bs : List (Addr × List Int)) (p : Addr), bs.Perm (ts.zip ps) → (bs.map (·.2)).Pairwise (fun x y => y ≤ x) → H p = none → Q (.ref p) (upd H p (.lst ((bs.map (·.1)).map V.ref)))
theorem zip_fst : ∀ (ts : List Addr) (ps : List (List Int)), ts.length = ps.length → (ts.zip ps).map (·.1) = ts
  | [], [], _ => rfl
  | t :: ts, p :: ps, h => congrArg (t :: ·) (zip_fst ts ps (Nat.succ.inj h))
  | [], _ :: _, h => by cases h
  | _ :: _, [], h => by cases h
theorem cr_sortTR {X : Cx} (hu : X.A.units + 64 < cLine) : CallRK X (.builtin "sorted") [Str.ofString "reverse"] (rSortTR X.K) := by
  intro pins s σ H xs zs us ws Q I r rz h
  obtain ⟨a, ts, ps, rfl, rfl, hs, T, hp, q⟩ := h
  obtain rfl := Vals.ref1 r
  obtain ⟨w1, rfl, e1⟩ := vals1 rz
  obtain rfl : w1 = Value.bool true := e1
  obtain ⟨its, rv, hl, hz⟩ := I.list hs
  obtain rfl := vals_refs rv
  have hlen : (ts.zip ps).length = ts.length := by
    rw [List.length_zip, T.1, Nat.min_self]
  rw [List.length_map] at hz
  have fin : ∀ (out : List Value) (bs : List (Addr × List Int)), out = (bs.map (·.1)).map Value.ref → bs.Perm (ts.zip ps) → (bs.map (·.2)).Pairwise (fun x y => y ≤ x) → EP X pins σ Q (.ref (s.heap.objs.size + 1)) { s with heap := sortedAll s.heap (ts.map Value.ref) (List.toArray out) } := by
    intro out bs eo hb hd
    obtain ⟨ep, he'⟩ := PyProof.Rows.sortedAll_at s.heap (ts.map Value.ref) out.toArray
    have hlen2 : ((bs.map (·.1)).map V.ref).length ≤ sizeLine := by
      rw [List.length_map, List.length_map, hb.length_eq, hlen]
      exact hz
    exact ⟨.ref _, upd H (s.heap.objs.size + 1) (.lst ((bs.map (·.1)).map V.ref)), I.laid (t' := s.toks) (fun _ _ => PyProof.Rows.sortedAll_old) (Nat.le_succ _) ⟨hlen2, out, ep, by rw [eo]; exact refs_vals _, by simpa using he'⟩, rfl, q bs _ hb hd (I.hok.fresh (Nat.le_succ _))⟩
  rcases hp with hp | hp
  · have hmem : ∀ b ∈ ts.zip ps, b.2 ≠ [] := fun b hb => by
      obtain ⟨b1, b2⟩ := b
      exact hp _ (List.of_mem_zip hb).2
    refine PySem.W.sorted_rev_data (R := fun v b => v = Value.ref b.1) (bs := ts.zip ps) (enc := encT) hl.isList (each_fst ts ps T.1 fun _ _ _ _ _ => rfl) (each_fst ts ps T.1 fun i t p e1 e2 => Dp.reads I _ _ _ (tup_dp (T.2 i t p e1 e2)) rfl) (PySem.W.AllAlike.of encT_alike) (.inl fun d hd => ?_) (by rw [hlen]; exact hz) (fun b _ => ?_) fun out ho eo => ?_
    · obtain ⟨b, hb, rfl⟩ := List.mem_map.mp hd
      have z := hmem b hb
      cases e : b.2 with
      | nil => exact absurd e z
      | cons x r => exact ⟨.int x, intsD r, by show tupD b.2 = _; rw [e]; rfl⟩
    · have := tup_depth b.2
      show _ + (tupD b.2).depth < _
      omega
    · refine fin out _ (each_refs eo) (List.mergeSort_perm _ _) ?_
      have hsp := PySem.W.sort_pairwise (le := PySem.W.dataLe true encT) (PySem.W.sortLe_total _ _ _) (ts.zip ps)
      rw [List.pairwise_map]
      exact hsp.imp fun h => encT_le h
  · refine SrtR.sorted_ordK (ltv := SrtO.ltIv) (b := true) (fun _ => rfl) (PyProof.Rows.args_sorted_rev _ _) (fun _ => PyProof.Rows.args_list_sort_rev _ _) SrtO.swo_int hl.isList (by rw [List.length_map]; exact hz) (fun h2 => ?_) fun out h1 h2 => ?_
    · rw [List.length_map, T.1] at h2
      omega
    · have hpm : out.Perm ((ts.map Value.ref).reverse) := h2.perm
      obtain ⟨ht, hps⟩ : (ts = [] ∨ ∃ t, ts = [t]) ∧ (ps = [] ∨ ∃ p, ps = [p]) := by
        have l2 : ts.length ≤ 1 := by
          rw [T.1]
          exact hp
        refine ⟨?_, ?_⟩
        · match ts, l2 with
          | [], _ => exact .inl rfl
          | [t], _ => exact .inr ⟨t, rfl⟩
          | _ :: _ :: _, z =>
            simp at z
        · match ps, hp with
          | [], _ => exact .inl rfl
          | [t], _ => exact .inr ⟨t, rfl⟩
          | _ :: _ :: _, z =>
            simp at z
      have e1 : out = ts.map Value.ref := by
        rcases ht with rfl | ⟨t, rfl⟩
        · exact List.perm_nil.mp hpm
        · exact List.perm_singleton.mp hpm
      subst e1
      have er : (if true = true then (ts.map Value.ref).toArray.reverse else (ts.map Value.ref).toArray) = (ts.map Value.ref).toArray := by
        rw [if_pos rfl]
        rcases ht with rfl | ⟨t, rfl⟩ <;> rfl
      rw [er]
      refine fin _ (ts.zip ps) (by rw [zip_fst _ _ T.1]) (.refl _) ?_
      rcases ht with rfl | ⟨t, rfl⟩
      · exact .nil
      · rcases hps with rfl | ⟨p, rfl⟩
        · exact .nil
        · exact List.pairwise_singleton _ _
theorem TupI.perm {H : Hp} {ts : List Addr} {ps : List (List Int)} {bs : List (Addr × List Int)} (T : TupI H ts ps) (h : bs.Perm (ts.zip ps)) : TupI H (bs.map (·.1)) (bs.map (·.2)) := by
  refine ⟨by rw [List.length_map, List.length_map], fun i t p e1 e2 => ?_⟩
  rw [List.getElem?_map] at e1 e2
  cases e : bs[i]? with
  | none =>
    rw [e] at e1
    cases e1
  | some b =>
    rw [e] at e1 e2
    cases e1
    cases e2
    have hb : b ∈ ts.zip ps := h.mem_iff.mp (List.mem_of_getElem? e)
    obtain ⟨j, hj⟩ := List.mem_iff_getElem?.mp hb
    obtain ⟨b1, b2⟩ := b
    obtain ⟨h1, h2⟩ := List.getElem?_zip_eq_some.mp hj
    exact T.2 j b1 b2 h1 h2
end Gn

set_option Elab.async false
set_option linter.all false
set_option maxRecDepth 100000
set_option maxHeartbeats 4000000
set_option pp.maxSteps 3000
/-! list(d.values()); a != b of two dicts that are equal -/
namespace L2
open PySem PySem.Spec PyProof.Rows
section
variable {X : Cx}
theorem vals_at : ∀ {xs : List V} {us : List Value}, us.length = xs.length → (∀ (j : Nat) (v : Value), us[j]? = some v → ∃ x, xs[j]? = some x ∧ RelV x v) → Vals xs us
  | [], [], _, _ => .nil
  | x :: xs, u :: us, hl, h => by
    obtain ⟨y, e, r⟩ := h 0 u rfl
    obtain rfl : x = y := Option.some.inj e
    exact .cons r (vals_at (by simpa using hl) fun j v e => by
      obtain ⟨y, a, b⟩ := h (j + 1) v (by simpa using e)
      exact ⟨y, by simpa using a, b⟩)
  | [], _ :: _, hl, _ => by simp at hl
  | _ :: _, [], hl, _ => by simp at hl
/-- list(o.values()) -/
def tListVals (td : TE) : TE := fun σ H Q => td σ H fun x H1 => ∃ (a : Addr) (kvs : List (Key × V)), x = V.ref a ∧ H1 a = some (.dK kvs) ∧ ∀ p, H1 p = none → Q (.ref p) (upd H1 p (.lst (kvs.map (·.2))))
variable {o : Expr} {p pos apos mpos : Pos} {td : TE}
theorem pe_listVals (hc : X.calm = true) (hg : Gl X "list") (hm : X.mg "list" = none) (hd : PE X o td) (hbase : attributeBase o "values" X.env (eval o X.env) = eval o X.env := by rfl) (hline : (apos.endLine == mpos.line) = true := by rfl)
    (hse : starEach [Expr.Call (.Attribute o "values" apos) [] [] mpos] X.env = [(false, eval (Expr.Call (.Attribute o "values" apos) [] [] mpos) X.env)] := by rfl) :
    PE X (.Call (.Name "list" p) [.Call (.Attribute o "values" apos) [] [] mpos] [] pos) (tListVals td) := by
  refine ⟨fun pins s σ H Q I h => ?_⟩
  refine wpAny_Call_Name_kw (ld_blt I hg hm (u := .type "list") (by first | rfl | decide +kernel) ?_ (by first | decide +kernel | decide) (by first | decide +kernel | decide))
  rw [hse]
  refine PySem.callWith_type1 (wpAny_Call_method0_late hbase hline (thn (hd.run pins s σ H _ I h) fun v s1 ⟨x, H1, I1, r1, a, kvs, ex, ha, q⟩ => ?_))
  subst ex
  obtain rfl : v = Value.ref a := r1
  obtain ⟨hz, hsys, vs, rel, dof⟩ := dk_of I1.hok ha
  obtain ⟨ep, dat⟩ := dof.dictAt
  have dat' := dat
  obtain ⟨ob, es, ho, ex, hdat, hko, hpr, hnd⟩ := dat'
  refine ⟨"dict", "dict.values", F.plainAttrs_dict, F.slot_dict_values, F.type_dict_values, ⟨ob, ho, ex.1⟩, fun b e => ?_, Calls.callWith_builtin rfl (PySem.evalArgs_none ?_)⟩
  · cases e
    exact ⟨ob, ho, ex.2.1⟩
  refine call_meetsIn F.slot_dict_values ⟨ob, ho, ex.1⟩ F.entry_dict_values (F.args_dict_values_1 _) (meets_dict_values (mixKind X.prog X.w) a hsys) ⟨⟨vs, dof⟩, ?_⟩
  have k1 : ∀ b u, s1.heap.get? b = some u → (s1.heap.push { cls := .type "dict_values", data := .fields #[.ref a] }).get? b = some u := fun b u e => Heap.get?_push_of_some _ e
  have dat1 : (s1.heap.push { cls := .type "dict_values", data := .fields #[.ref a] }).DictAt (mixKind X.prog X.w) a vs ep := dat.keep k1
  have hl : kvs.length = vs.length := KV.length rel
  have I2 : Inv X pins σ H1 { s1 with heap := s1.heap.push { cls := .type "dict_values", data := .fields #[.ref a] } } := I1.kept (t' := s1.toks) k1
  refine PySem.W.kdl_call (PySem.W.kdl_values (knd := mixKind X.prog X.w) (kvs := vs) (ep := ep) (r := s1.heap.objs.size) (d := a)) (I.ok.hd hc) ⟨⟨_, Heap.get?_push_size _ rfl, rfl, rfl⟩, dat1⟩ (by rw [← hl]; exact hz) fun h' tk acc c' hk hD hacc => ?_
  have hv : Vals (kvs.map (·.2)) acc.toList := vals_at (by rw [Array.length_toList, List.length_map, hl]; exact hacc.1) fun j v e => by
    obtain ⟨k, e1⟩ := hacc.2 j v (by rw [← Array.getElem?_toList]; exact e)
    obtain ⟨x, e2, r⟩ := KV.at' rel e1
    exact ⟨x, by rw [List.getElem?_map, e2]; rfl, r⟩
  have hsz : (s1.heap.push { cls := .type "dict_values", data := .fields #[.ref a] }).objs.size = s1.heap.objs.size + 1 := Heap.size_push _ _
  refine ⟨.ref _, upd H1 (s1.heap.push { cls := .type "dict_values", data := .fields #[.ref a] }).objs.size (.lst (kvs.map (·.2))), I2.laid (t' := tk) hk (Nat.le_refl _)
    (show ObjOk X.prog X.w _ _ _ (.lst (kvs.map (·.2))) from ⟨by rw [List.length_map]; exact hz, acc.toList, c', hv, by rw [Array.toArray_toList]; exact hD⟩), rfl, q _ (I2.hok.fresh (Nat.le_refl _))⟩
end
end L2
namespace PySem.W
open PySem PySem.Calls PyProof.Rows PyProof.V PySem.Spec
section
variable {prog : Program} {w : World} {K : Type} [DecidableEq K] {knd : KeyKind prog w K} {A : Around} {E : Value → Shared → Prop} {s : Shared}
theorem rcN_dicts {a b : Addr} {ka kb : List (K × Value)} {r : Bool} (ha : (a == sysModules) = false) (hb : (b == sysModules) = false)
    (da : s.heap.DictOf knd a ka) (db : s.heap.DictOf knd b kb) (hu : A.units < cLine) (hits : ka.length = kb.length → KeqHitsP prog w A.in1 s kb ka r) (E Q : Value → Shared → Prop) (h : Q (.bool (!(ka.length == kb.length && r))) s) : wpAny (model prog w) A (richCompare .NotEq (.ref a) (.ref b)) Q E s := by
  refine wpAny_richCompare_same_room (op := .NotEq) da.typeIs db.typeIs PySem.F.slot_dict_ne (wpAny_call_entry PySem.F.slot_dict_ne da.typeIs PySem.F.entry_dict_ne ?_ (PySem.F.args_dict_ne_2 _ _)) hu
  show wpAny _ _ (Builtin.Dict.dictSlotArgs "__ne__" ⟨[.ref a, .ref b], []⟩ >>= _) _ _ s
  refine wpAny_bind ?_
  unfold Builtin.Dict.dictSlotArgs
  refine wpAny_bind (wpAny_notOrdered_dict da.typeIs ?_)
  show wpAny _ _ (pure (Value.ref a, Value.ref b)) _ _ s
  refine wpAny_pure ?_
  refine wpAny_bind (wpAny_isInstance (T := "dict") db.typeIs PySem.F.sub_dict_dict ?_)
  simp only [Bool.not_true, Bool.false_eq_true, if_false]
  refine wpAny_bind (wpAny_pure (wpAny_bind (wpAny_pure ?_)))
  refine wpAny_bind (samePairsP ha hb da db hits ?_)
  refine wpAny_pure ⟨_, rfl, ?_, ?_⟩
  · exact fun x => nomatch x
  · have e : ((ka.length == kb.length && r) == false) = !(ka.length == kb.length && r) := by cases (ka.length == kb.length && r) <;> rfl
    simpa [e] using h
end
end PySem.W
namespace L2
open PySem PySem.Spec PyProof.Rows
section
variable {X : Cx}
/-- a != b, two dicts of the same keys with the same numbers -/
def rNeDK : R2 := fun x y H Q => ∃ a b kvs, x = .ref a ∧ y = .ref b ∧ H a = some (.dK kvs) ∧ H b = some (.dK kvs) ∧ (∀ p ∈ kvs, valV kvs p.1 = some p.2 ∧ ∃ i, p.2 = .int i) ∧ Q (.bl false) H
theorem op_neDK (hu : X.A.units + 64 < cLine) : OpR X (compareOp .NotEq) rNeDK := by
  intro pins s σ H x y v u Q I rx ry h
  obtain ⟨a, b, kvs, rfl, rfl, ha, hb, hk, q⟩ := h
  cases (show v = Value.ref a from rx)
  cases (show u = Value.ref b from ry)
  obtain ⟨_, ya, va, ra, da⟩ := (show ObjOk X.prog X.w H s.heap a (.dK kvs) from I.hok a _ ha)
  obtain ⟨_, yb, vb, rb, db⟩ := (show ObjOk X.prog X.w H s.heap b (.dK kvs) from I.hok b _ hb)
  refine PySem.W.rcN_dicts (knd := mixKind X.prog X.w) (r := true) ya yb da db (by omega) (fun _ => hits_run (F := fun x y => x = y ∧ ∃ i, x = .int i) (fun x y v u h rv ru => ?_) rb ra fun p hp => ⟨_, (hk p hp).1, rfl, (hk p hp).2⟩) _ _ ?_
  · obtain ⟨rfl, i, rfl⟩ := h
    exact (eqAt_same rv ru rfl).eqP
  · have e : va.length = vb.length := by rw [← ra.length, ← rb.length]
    rw [show (!(va.length == vb.length && true)) = false from by rw [e]; simp]
    exact ⟨.bl false, H, I, rfl, q⟩
end
end L2

set_option Elab.async false
set_option linter.all false
set_option maxRecDepth 100000
set_option maxHeartbeats 4000000
set_option pp.maxSteps 3000
/-! the dict of the exponents -/
namespace Qm
open PySem PySem.Spec PyProof.Rows L2 Dr Xv LamX Ps Gn Fm
theorem dks_succ (T i : Nat) : dks T (i + 1) = dks T i ++ if (i + 1) ∣ T then [i + 1] else [] := by
  unfold dks
  rw [List.range_succ, List.map_append, List.filter_append]
  congr 1
  show [i + 1].filter _ = _
  by_cases c : (i + 1) ∣ T
  · rw [if_pos c, List.filter_cons_of_pos (by simpa using c)]
    rfl
  · rw [if_neg c, List.filter_cons_of_neg (by simpa using c)]
    rfl
theorem dks_mem {T i c : Nat} : c ∈ dks T i ↔ (1 ≤ c ∧ c ≤ i) ∧ c ∣ T := by
  unfold dks
  rw [List.mem_filter, List.mem_map]
  constructor
  · rintro ⟨⟨j, hj, rfl⟩, h⟩
    have := List.mem_range.mp hj
    exact ⟨by omega, by simpa using h⟩
  · rintro ⟨⟨h1, h2⟩, h⟩
    exact ⟨⟨c - 1, List.mem_range.mpr (by omega), by omega⟩, by simpa using h⟩
theorem dks_asc (T i : Nat) : (dks T i).Pairwise (· < ·) := by
  refine List.Pairwise.filter _ ?_
  rw [List.pairwise_map]
  exact List.pairwise_lt_range.imp fun h => by omega
theorem dks_le {T i : Nat} : ∀ k, (dks T i).length ≤ (dks T (i + k)).length
  | 0 => Nat.le_refl _
  | k + 1 => by
    rw [← Nat.add_assoc, dks_succ, List.length_append]
    have := dks_le (T := T) (i := i) k
    omega
theorem dks_sum (T : Nat) (P : Nat → Bool) (f : Nat → Int) : ∀ i, (((dks T i).filter P).map f).sum = sm (fun j => if (j + 1) ∣ T then (if P (j + 1) then f (j + 1) else 0) else 0) i
  | 0 => rfl
  | i + 1 => by
    rw [dks_succ, List.filter_append, List.map_append, List.sum_append, dks_sum T P f i]
    show _ = _ + (if (i + 1) ∣ T then (if P (i + 1) then f (i + 1) else 0) else 0)
    congr 1
    by_cases c : (i + 1) ∣ T
    · rw [if_pos c, if_pos c]
      cases h : P (i + 1) with
      | true =>
        rw [List.filter_cons_of_pos h, if_pos rfl]
        simp
      | false =>
        rw [List.filter_cons_of_neg (by rw [h]; exact Bool.false_ne_true), if_neg Bool.false_ne_true]
        rfl
    · rw [if_neg c, if_neg c]
      rfl
def kvs (f : Nat → Int) (l : List Nat) : List (Key × V) := l.map fun c : Nat => (Sum.inl (c : Int), V.int (f c))
theorem kvs_keys (f : Nat → Int) (l : List Nat) : (kvs f l).map (·.1) = (l.map fun c : Nat => (c : Int)).map Sum.inl := by
  unfold kvs
  rw [List.map_map, List.map_map]
  rfl
theorem kvs_val (f : Nat → Int) (c : Nat) : ∀ l : List Nat, valV (kvs f l) (Sum.inl (c : Int)) = if c ∈ l then some (.int (f c)) else none
  | [] => rfl
  | x :: r => by
    by_cases e : x = c
    · subst e
      rw [if_pos List.mem_cons_self]
      exact valV_pos (p := ((Sum.inl (x : Int) : Key), V.int (f x))) rfl
    · have ih := kvs_val f c r
      have n : ¬ ((Sum.inl (x : Int) : Key) = .inl (c : Int)) := fun z => e (by injection z with z; omega)
      have z : valV (kvs f (x :: r)) (Sum.inl (c : Int)) = valV (kvs f r) (Sum.inl (c : Int)) := valV_neg (p := ((Sum.inl (x : Int) : Key), V.int (f x))) n
      rw [z, ih]
      by_cases m : c ∈ r
      · rw [if_pos m, if_pos (List.mem_cons_of_mem _ m)]
      · rw [if_neg m, if_neg fun z => by
          rcases List.mem_cons.mp z with z | z
          · exact e z.symm
          · exact m z]
theorem kvs_put {f : Nat → Int} {c : Nat} {l : List Nat} (h : c ∉ l) : putK (kvs f l) (.inl (c : Int)) (.int (f c)) = kvs f (l ++ [c]) := by
  rw [putK_new _ (by rw [kvs_val, if_neg h])]
  unfold kvs
  rw [List.map_append]
  rfl
theorem kvs_at {f : Nat → Int} {l : List Nat} {i : Nat} {k : Key} {v : V} (h : (kvs f l)[i]? = some (k, v)) : ∃ c : Nat, l[i]? = some c ∧ k = .inl (c : Int) ∧ v = .int (f c) := by
  unfold kvs at h
  rw [List.getElem?_map] at h
  cases e : l[i]? with
  | none =>
    rw [e] at h
    cases h
  | some c =>
    rw [e] at h
    cases h
    exact ⟨c, rfl, rfl, rfl⟩
theorem kvs_len (f : Nat → Int) (l : List Nat) : (kvs f l).length = l.length := by
  unfold kvs
  rw [List.length_map]
/-- alike at n and at what n and T share -/
def Like (p : S) (T : Nat) : Prop := ∀ n, 1 ≤ n → n ≤ T → p (n - 1) = p (Nat.gcd n T - 1)
theorem like_all {p : S} {T : Nat} : ((List.range T).map fun i => decide (p i = p (Nat.gcd (i + 1) T - 1))).all id = true ↔ Like p T := by
  rw [List.all_map, List.all_eq_true]
  constructor
  · intro h n h1 h2
    have z := h (n - 1) (List.mem_range.mpr (by omega))
    have z2 := of_decide_eq_true (show decide (p (n - 1) = p (Nat.gcd (n - 1 + 1) T - 1)) = true from z)
    rwa [show n - 1 + 1 = n by omega] at z2
  · intro h i hi
    have := List.mem_range.mp hi
    exact decide_eq_true (h (i + 1) (by omega) (by omega))
/-- the sum before -/
theorem sum_before (p : S) (T : Nat) {d : Nat} (hd : (d + 1) ∣ T) (h : d + 1 < 433) : -p d - (((dks T d).filter fun c : Nat => decide (((d : Int) + 1).fmod (c : Int) = 0)).map (mo p)).sum = mo p (d + 1) := by
  rw [dks_sum, ← mo_step p h]
  congr 1
  refine sm_congr d fun j hj => ?_
  have e : (((d : Int) + 1).fmod ((j + 1 : Nat) : Int) = 0) ↔ (j + 1) ∣ d + 1 := by
    have z : (d : Int) + 1 = ((d + 1 : Nat) : Int) := by omega
    rw [z, Int.fmod_eq_emod_of_nonneg _ (by omega), ← Int.natCast_emod]
    constructor
    · intro q
      exact Nat.dvd_of_mod_eq_zero (by omega)
    · intro q
      have := Nat.mod_eq_zero_of_dvd q
      omega
  by_cases c : (j + 1) ∣ d + 1
  · rw [if_pos (Nat.dvd_trans c hd), if_pos (by simpa using e.mpr c), Ev_one c (by omega), Int.mul_one]
  · rw [Ev_no c, Int.mul_zero]
    split
    · rw [if_neg (by simpa using fun q => c (e.mp q))]
    · rfl
/-- the exponents at the divisors of m that divide T -/
theorem sum_at {p : S} {T : Nat} (hT : 1 ≤ T) (h : T < 433) (hL : Like p T) (hp : ∀ i, p (i % T) = p i) {m N : Nat} (hm : 1 ≤ m) (hN : Nat.gcd m T ≤ N) : sm (fun j => if (j + 1) ∣ T then mo p (j + 1) * Ev (j + 1) m else 0) N = -p (m - 1) := by
  have g0 : 1 ≤ Nat.gcd m T := Nat.gcd_pos_of_pos_left _ hm
  have gT : Nat.gcd m T ≤ T := Nat.le_of_dvd hT (Nat.gcd_dvd_right m T)
  have e : ∀ j, j < N → (if (j + 1) ∣ T then mo p (j + 1) * Ev (j + 1) m else 0) = mo p (j + 1) * Ev (j + 1) (Nat.gcd m T) := fun j _ => by
    by_cases c : (j + 1) ∣ T
    · rw [if_pos c]
      by_cases q : (j + 1) ∣ m
      · rw [Ev_one q hm, Ev_one (Nat.dvd_gcd q c) g0]
      · rw [Ev_no q, Ev_no fun z => q (Nat.dvd_trans z (Nat.gcd_dvd_left m T))]
    · rw [if_neg c, Ev_no (fun z => c (Nat.dvd_trans z (Nat.gcd_dvd_right m T))), Int.mul_zero]
  rw [sm_congr N e, mo_sum' p g0 (by omega) hN]
  congr 1
  -- m by its rest
  obtain ⟨r, er⟩ : ∃ r, r = (m - 1) % T := ⟨_, rfl⟩
  have hr : r < T := by rw [er]; exact Nat.mod_lt _ (by omega)
  have z := hL (r + 1) (by omega) (by omega)
  have eg : Nat.gcd (r + 1) T = Nat.gcd m T := by
    have e1 : m = r + 1 + T * ((m - 1) / T) := by
      have := Nat.mod_add_div (m - 1) T
      rw [← er] at this
      omega
    rw [e1, Nat.gcd_add_mul_left_left]
  rw [eg] at z
  rw [← z]
  show p r = _
  rw [er, hp]
end Qm

set_option Elab.async false
set_option linter.all false
set_option maxRecDepth 100000
set_option maxHeartbeats 4000000
set_option pp.maxSteps 3000
/-! quotients: exponents that are kept ascending; a product of two -/
namespace Qm
open PySem PySem.Spec PyProof.Rows L2 Dr Xv LamX Ps Gn Fm
def nz (f : Nat → Int) : List Nat := (List.range 361).filter fun d => decide (f d ≠ 0)
theorem nz_mem {f : Nat → Int} {d : Nat} : d ∈ nz f ↔ d < 361 ∧ f d ≠ 0 := by
  unfold nz
  rw [List.mem_filter, List.mem_range, decide_eq_true_eq]
theorem nz_asc (f : Nat → Int) : (nz f).Pairwise (· < ·) := List.Pairwise.filter _ List.pairwise_lt_range
theorem asc_nz {f : Nat → Int} {l : List Nat} (h : l.Pairwise (· < ·)) (hm : ∀ d, d ∈ l ↔ d < 361 ∧ f d ≠ 0) : l = nz f := by
  refine List.Perm.eq_of_pairwise (le := (· < ·)) (fun a b _ _ h1 h2 => absurd h1 (Nat.lt_asymm h2)) h (nz_asc f) ?_
  refine (List.perm_ext_iff_of_nodup (h.imp fun h => Nat.ne_of_lt h) ((nz_asc f).imp fun h => Nat.ne_of_lt h)).mpr fun d => ?_
  rw [hm, nz_mem]
/-- all exponents are at 1 .. 360 -/
def Sup (f : Nat → Int) : Prop := ∀ d, f d ≠ 0 → 1 ≤ d ∧ d ≤ 360
theorem kvs_ext {f g : Nat → Int} {l : List Nat} (h : ∀ c ∈ l, f c = g c) : kvs f l = kvs g l := by
  unfold kvs
  exact List.map_congr_left fun c hc => by rw [h c hc]
theorem kvs_set {f g : Nat → Int} {l : List Nat} {c : Nat} (hc : c ∈ l) (h : ∀ d ∈ l, d ≠ c → g d = f d) : putK (kvs f l) (.inl (c : Int)) (.int (g c)) = kvs g l := by
  unfold putK
  have a : ((kvs f l).any fun kv => decide (kv.1 = (Sum.inl (c : Int) : Key))) = true := by
    rw [valV_any, kvs_val, if_pos hc]
    rfl
  rw [if_pos a]
  unfold kvs
  rw [List.map_map]
  refine List.map_congr_left fun d hd => ?_
  show (if ((Sum.inl (d : Int) : Key) = .inl (c : Int)) then _ else _) = _
  by_cases e : d = c
  · subst e
    rw [if_pos rfl]
  · rw [if_neg fun z => e (by injection z with z; omega), h d hd e]
/-- with the first i of the other's -/
def hs (f g : Nat → Int) (m : List Nat) (i : Nat) : Nat → Int := fun d => f d + if d ∈ m.take i then g d else 0
def ls (l m : List Nat) (i : Nat) : List Nat := l ++ (m.take i).filter fun d => decide (d ∉ l)
theorem take_next {m : List Nat} {i c : Nat} (h : m[i]? = some c) : m.take (i + 1) = m.take i ++ [c] := by
  rw [List.take_succ, h]
  rfl
theorem hs_zero (f g : Nat → Int) (m : List Nat) : hs f g m 0 = f := by
  funext d
  unfold hs
  rw [List.take_zero, if_neg List.not_mem_nil, Int.add_zero]
theorem ls_zero (l m : List Nat) : ls l m 0 = l := by
  unfold ls
  rw [List.take_zero, List.filter_nil, List.append_nil]
theorem ls_len (l m : List Nat) (i : Nat) : (ls l m i).length ≤ l.length + m.length := by
  unfold ls
  rw [List.length_append]
  have := List.length_filter_le (fun d => decide (d ∉ l)) (m.take i)
  rw [List.length_take] at this
  omega
section
variable {f g : Nat → Int} {l m : List Nat} {i c : Nat}
theorem not_before (hm : m.Nodup) (h : m[i]? = some c) : c ∉ m.take i := fun z => by
  obtain ⟨j, hj⟩ := List.mem_iff_getElem?.mp z
  have hj2 : j < i := by
    have := (List.getElem?_eq_some_iff.mp hj).1
    rw [List.length_take] at this
    omega
  rw [List.getElem?_take, if_pos hj2] at hj
  have il := (List.getElem?_eq_some_iff.mp h).1
  have := List.pairwise_iff_getElem.mp hm j i (by omega) il hj2
  rw [(List.getElem?_eq_some_iff.mp hj).2, (List.getElem?_eq_some_iff.mp h).2] at this
  exact this rfl
theorem hs_get (hm : m.Nodup) (h : m[i]? = some c) (hl : c ∉ l → f c = 0) : (valV (kvs (hs f g m i) (ls l m i)) (.inl (c : Int))).getD (.int 0) = .int (f c) := by
  have nb := not_before hm h
  rw [kvs_val]
  by_cases e : c ∈ l
  · rw [if_pos (show c ∈ ls l m i from List.mem_append_left _ e)]
    show V.int (f c + if c ∈ m.take i then g c else 0) = _
    rw [if_neg nb, Int.add_zero]
  · rw [if_neg (show ¬ c ∈ ls l m i from fun z => by
      rcases List.mem_append.mp z with z | z
      · exact e z
      · exact nb (List.mem_filter.mp z).1), hl e]
    rfl
theorem hs_put (hm : m.Nodup) (h : m[i]? = some c) : putK (kvs (hs f g m i) (ls l m i)) (.inl (c : Int)) (.int (f c + g c)) = kvs (hs f g m (i + 1)) (ls l m (i + 1)) := by
  have nb := not_before hm h
  have et := take_next h
  have ec : hs f g m (i + 1) c = f c + g c := by
    unfold hs
    rw [et, if_pos (List.mem_append_right _ List.mem_cons_self)]
  have eo : ∀ d, d ≠ c → hs f g m (i + 1) d = hs f g m i d := fun d hd => by
    unfold hs
    rw [et]
    congr 1
    by_cases e : d ∈ m.take i
    · rw [if_pos e, if_pos (List.mem_append_left _ e)]
    · rw [if_neg e, if_neg fun z => by
        rcases List.mem_append.mp z with z | z
        · exact e z
        · exact hd (List.mem_singleton.mp z)]
  by_cases e : c ∈ l
  · have el : ls l m (i + 1) = ls l m i := by
      unfold ls
      rw [et, List.filter_append, List.filter_cons_of_neg (by simpa using e), List.filter_nil, List.append_nil]
    rw [el, ← ec]
    exact kvs_set (List.mem_append_left _ e) fun d _ hd => eo d hd
  · have el : ls l m (i + 1) = ls l m i ++ [c] := by
      unfold ls
      rw [et, List.filter_append, List.filter_cons_of_pos (by simpa using e), List.filter_nil, List.append_assoc]
    have ni : c ∉ ls l m i := fun z => by
      rcases List.mem_append.mp z with z | z
      · exact e z
      · exact nb (List.mem_filter.mp z).1
    rw [el, ← ec, kvs_ext (f := hs f g m i) (g := hs f g m (i + 1)) fun d hd => (eo d fun z => ni (z ▸ hd)).symm, kvs_put ni]
theorem ls_nodup (hl : l.Nodup) (hm : m.Nodup) (i : Nat) : (ls l m i).Nodup := by
  unfold ls
  refine List.nodup_append.mpr ⟨hl, (hm.sublist (List.take_sublist _ _)).sublist List.filter_sublist, fun a ha b hb => ?_⟩
  intro z
  subst z
  have := (List.mem_filter.mp hb).2
  exact (of_decide_eq_true this) ha
/-- the sorted keys, without those whose exponent is 0 -/
theorem ls_nz (hl : ∀ d, d ∈ l ↔ d < 361 ∧ f d ≠ 0) (hm : ∀ d ∈ m, d ≤ 360) {n : Nat} (hn : m.length ≤ n) {s : List Nat} (hs1 : s.Pairwise (· < ·)) (hs2 : ∀ d, d ∈ s ↔ d ∈ ls l m n) : s.filter (fun c => decide (hs f g m n c ≠ 0)) = nz (hs f g m n) := by
  refine asc_nz (List.Pairwise.filter _ hs1) fun d => ?_
  rw [List.mem_filter, hs2, decide_eq_true_eq]
  unfold ls
  rw [List.mem_append, List.mem_filter, decide_eq_true_eq]
  constructor
  · rintro ⟨h1 | h1, h2⟩
    · exact ⟨((hl d).mp h1).1, h2⟩
    · have := hm d (List.mem_of_mem_take h1.1)
      exact ⟨by omega, h2⟩
  · rintro ⟨h1, h2⟩
    refine ⟨?_, h2⟩
    by_cases e : d ∈ l
    · exact .inl e
    · by_cases k : d ∈ m.take n
      · exact .inr ⟨k, e⟩
      · exfalso
        have f0 : f d = 0 := by
          by_cases z : f d = 0
          · exact z
          · exact absurd ((hl d).mpr ⟨h1, z⟩) e
        apply h2
        show f d + (if d ∈ m.take n then g d else 0) = 0
        rw [f0, if_neg k]
        rfl
end
end Qm

set_option Elab.async false
set_option linter.all false
set_option maxRecDepth 100000
set_option maxHeartbeats 4000000
set_option pp.maxSteps 3000
/-! what is told by exponents: the weights of squares times a -/
namespace Th
open Ps Qm
def sig : S := sS (fun _ => 1) 60
/-- one exponent's part -/
def wt (c k : Nat) : Int := (c : Int) * (Ev c k * sig (k / c))
/-- of all exponents at 0 .. 360 -/
def WS (f : Nat → Int) (k : Nat) : Int := sm (fun c => f c * wt c k) 361
def LgN (N : Nat) (s a : S) : Prop := s 0 = 0 ∧ ∀ n, n ≤ N → dv a n = cv s a n
theorem lgN_one (N : Nat) : LgN N (fun _ => 0) one := ⟨rfl, fun n _ => by rw [dv_one, cv_comm, cv_zero]⟩
theorem lgN_cv {N : Nat} {s t a b : S} (h : LgN N s a) (k : LgN N t b) : LgN N (ad s t) (cv a b) := by
  refine ⟨?_, fun n hn => ?_⟩
  · show s 0 + t 0 = 0
    rw [h.1, k.1]
    rfl
  · rw [dv_cv]
    have e1 : cv (dv a) b n = cv (cv s a) b n := sm_congr (n + 1) fun i hi => by rw [h.2 i (by omega)]
    have e2 : cv a (dv b) n = cv a (cv t b) n := sm_congr (n + 1) fun i hi => by rw [k.2 (n - i) (by omega)]
    show cv (dv a) b n + cv a (dv b) n = _
    have e3 : cv (cv s a) b = cv s (cv a b) := cv_assoc s a b
    have e4 : cv a (cv t b) = cv t (cv a b) := by
      rw [← cv_assoc a t b, cv_comm a t, cv_assoc t a b]
    rw [e1, e2, e3, e4, ad_cv]
    rfl
/-- the weights of the squares -/
def s1 (k : Nat) : Int := -((-2) * wt 1 k + 5 * wt 2 k + (-2) * wt 4 k)
def sa (a k : Nat) : Int := if k ≠ 0 ∧ a ∣ k then (a : Int) * s1 (k / a) else 0
def okk (n : Nat) : Bool := decide (dv (th 1) n = cv s1 (th 1) n)
theorem base : (List.range 61).all okk = true := by decide +kernel
theorem base_at {n : Nat} (h : n ≤ 60) : dv (th 1) n = cv s1 (th 1) n := by
  have := List.all_eq_true.mp base n (List.mem_range.mpr (by omega))
  exact of_decide_eq_true this
theorem s1_zero : s1 0 = 0 := by decide +kernel
theorem th_mult {a : Nat} (ha : 1 ≤ a) (n : Nat) : th a n = if a ∣ n then th 1 (n / a) else 0 := by
  have key : ∀ y, thp a y n = if a ∣ n then thp 1 y (n / a) else 0 := fun y => by
    induction y with
    | zero => split <;> rfl
    | succ y ih =>
      show thp a y n + (if a * y * y = n then cx y else 0) = if a ∣ n then thp 1 y (n / a) + (if 1 * y * y = n / a then cx y else 0) else 0
      rw [ih]
      by_cases c : a ∣ n
      · rw [if_pos c, if_pos c]
        congr 1
        obtain ⟨m, rfl⟩ := c
        rw [Nat.mul_div_cancel_left m (by omega), Nat.one_mul, Nat.mul_assoc]
        by_cases e : y * y = m
        · rw [if_pos e, if_pos (by rw [e])]
        · rw [if_neg e, if_neg fun z => e (Nat.eq_of_mul_eq_mul_left (by omega) z)]
      · rw [if_neg c, if_neg c, if_neg fun z => c ⟨y * y, by rw [← z, Nat.mul_assoc]⟩]
        rfl
  show thp a (n + 1) n = _
  rw [key]
  by_cases c : a ∣ n
  · rw [if_pos c, if_pos c]
    refine thp_ge (Nat.le_refl 1) ?_
    have := Nat.div_le_self n a
    omega
  · rw [if_neg c, if_neg c]
/-- times a -/
theorem lgN_th {a : Nat} (ha : 1 ≤ a) : LgN 60 (sa a) (th a) := by
  refine ⟨if_neg fun z => z.1 rfl, fun n hn => ?_⟩
  show (n : Int) * th a n = sm (fun i => sa a i * th a (n - i)) (n + 1)
  rw [sm_first]
  have z0 : sa a 0 = 0 := if_neg fun z => z.1 rfl
  rw [z0, Int.zero_mul, Int.zero_add, th_mult ha n]
  by_cases c : a ∣ n
  · obtain ⟨m, rfl⟩ := c
    rw [if_pos (Nat.dvd_mul_right a m), Nat.mul_div_cancel_left m (by omega)]
    have hm : m ≤ 60 := Nat.le_trans (Nat.le_mul_of_pos_left m (by omega)) hn
    have b := base_at hm
    have b2 : (m : Int) * th 1 m = sm (fun i => s1 i * th 1 (m - i)) (m + 1) := b
    rw [sm_first, s1_zero, Int.zero_mul, Int.zero_add] at b2
    have g := sm_mult (b := a) (by omega) (fun t => (a : Int) * (s1 t * th 1 (m - t))) m
    have e : ∀ i, i < a * m → sa a (i + 1) * th a (a * m - (i + 1)) = if a ∣ i + 1 then (a : Int) * (s1 ((i + 1) / a) * th 1 (m - (i + 1) / a)) else 0 := fun i hi => by
      by_cases d : a ∣ i + 1
      · obtain ⟨t, et⟩ := d
        have h1 : sa a (i + 1) = (a : Int) * s1 t := by
          unfold sa
          rw [if_pos ⟨by omega, ⟨t, et⟩⟩, et, Nat.mul_div_cancel_left t (by omega)]
        rw [if_pos ⟨t, et⟩, h1, th_mult ha, et, Nat.mul_div_cancel_left t (by omega), ← Nat.mul_sub, if_pos (Nat.dvd_mul_right a _), Nat.mul_div_cancel_left _ (by omega), Int.mul_assoc]
      · have h1 : sa a (i + 1) = 0 := if_neg fun z => d z.2
        rw [if_neg d, h1, Int.zero_mul]
    rw [sm_congr (a * m) e, g, sm_mul, ← b2, Int.natCast_mul, Int.mul_assoc]
  · rw [if_neg c, Int.mul_zero, sm_congr n (g := fun _ => 0) fun i hi => ?_, sm_zero]
    by_cases d : a ∣ i + 1
    · rw [th_mult ha, if_neg, Int.mul_zero]
      intro z
      exact c (by
        have := Nat.dvd_add z d
        rwa [show n - (i + 1) + (i + 1) = n by omega] at this)
    · have h1 : sa a (i + 1) = 0 := if_neg fun z => d z.2
      rw [h1, Int.zero_mul]
end Th

set_option Elab.async false
set_option linter.all false
set_option maxRecDepth 100000
set_option maxHeartbeats 4000000
set_option pp.maxSteps 3000
/-! the exponents of a form tell its ways -/
namespace Th
open Ps Qm
def em (a d : Nat) : Int := if d = a then -2 else if d = 2 * a then 5 else if d = 4 * a then -2 else 0
theorem WS_add (f g : Nat → Int) (k : Nat) : WS (fun d => f d + g d) k = WS f k + WS g k := by
  unfold WS
  rw [← sm_add]
  refine sm_congr _ fun i _ => ?_
  show (f i + g i) * wt i k = f i * wt i k + g i * wt i k
  rw [Int.add_mul]
theorem wt_zero (c : Nat) : wt c 0 = 0 := by
  unfold wt Ev
  rw [if_neg fun z => z.1 rfl, Int.zero_mul, Int.mul_zero]
theorem WS_zero (f : Nat → Int) : WS f 0 = 0 := by
  unfold WS
  rw [sm_congr 361 (g := fun _ => 0) fun i _ => by rw [wt_zero, Int.mul_zero], sm_zero]
theorem sm_spot (x : Int) (g : Nat → Int) {m : Nat} (h : m < 361) : sm (fun c => (if c = m then x else 0) * g c) 361 = x * g m := by
  rw [sm_one_at _ (m := m) 361 h fun i _ hne => by rw [if_neg hne, Int.zero_mul], if_pos rfl]
theorem WS_em {a : Nat} (ha : 1 ≤ a) (h : 4 * a ≤ 360) (k : Nat) : WS (em a) k = (-2) * wt a k + 5 * wt (2 * a) k + (-2) * wt (4 * a) k := by
  have e : em a = fun d => ((if d = a then (-2 : Int) else 0) + (if d = 2 * a then 5 else 0)) + (if d = 4 * a then -2 else 0) := by
    funext d
    unfold em
    by_cases c1 : d = a
    · rw [if_pos c1, if_pos c1, if_neg (by omega), if_neg (by omega)]
      rfl
    · by_cases c2 : d = 2 * a
      · rw [if_neg c1, if_neg c1, if_pos c2, if_pos c2, if_neg (by omega)]
        rfl
      · by_cases c3 : d = 4 * a
        · rw [if_neg c1, if_neg c1, if_neg c2, if_neg c2, if_pos c3]
          rfl
        · rw [if_neg c1, if_neg c1, if_neg c2, if_neg c2, if_neg c3]
          rfl
  rw [e, WS_add, WS_add]
  unfold WS
  rw [sm_spot _ (fun c => wt c k) (by omega), sm_spot _ (fun c => wt c k) (by omega), sm_spot _ (fun c => wt c k) (by omega)]
theorem wt_mult {a : Nat} (ha : 1 ≤ a) (b t : Nat) : wt (b * a) (a * t) = (a : Int) * wt b t := by
  unfold wt
  have e1 : Ev (b * a) (a * t) = Ev b t := by
    unfold Ev
    by_cases c : t ≠ 0 ∧ b ∣ t
    · rw [if_pos c, if_pos]
      refine ⟨?_, ?_⟩
      · have := Nat.mul_ne_zero (show a ≠ 0 by omega) c.1
        exact this
      · rw [Nat.mul_comm b a]
        exact Nat.mul_dvd_mul_left a c.2
    · rw [if_neg c, if_neg]
      rintro ⟨h1, h2⟩
      refine c ⟨fun z => h1 (by rw [z, Nat.mul_zero]), ?_⟩
      rw [Nat.mul_comm b a] at h2
      exact Nat.dvd_of_mul_dvd_mul_left (by omega) h2
  have e2 : a * t / (b * a) = t / b := by
    rw [Nat.mul_comm b a, Nat.mul_div_mul_left _ _ (by omega)]
  rw [e1, e2, Int.natCast_mul, Int.mul_comm (b : Int) (a : Int), Int.mul_assoc]
theorem wt_none {c k : Nat} (h : ¬ c ∣ k) : wt c k = 0 := by
  unfold wt Ev
  rw [if_neg fun z => h z.2, Int.zero_mul, Int.mul_zero]
theorem WS_sa {a : Nat} (ha : 1 ≤ a) (h : 4 * a ≤ 360) (k : Nat) : -(WS (em a) k) = sa a k := by
  unfold sa
  by_cases c : k ≠ 0 ∧ a ∣ k
  · obtain ⟨t, rfl⟩ := c.2
    rw [if_pos c, WS_em ha h, Nat.mul_div_cancel_left t (by omega)]
    have w1 := wt_mult ha 1 t
    rw [Nat.one_mul] at w1
    rw [w1, wt_mult ha 2 t, wt_mult ha 4 t]
    unfold s1
    rw [Int.mul_neg, Int.mul_add, Int.mul_add]
    have z : ∀ x y : Int, x * ((a : Int) * y) = (a : Int) * (x * y) := fun x y => Int.mul_left_comm x a y
    rw [z, z, z]
  · rw [if_neg c]
    by_cases k0 : k = 0
    · subst k0
      rw [WS_zero]
      rfl
    · have d : ¬ a ∣ k := fun z => c ⟨k0, z⟩
      rw [WS_em ha h, wt_none d, wt_none fun z => d (Nat.dvd_trans (Nat.dvd_mul_left a 2) z), wt_none fun z => d (Nat.dvd_trans (Nat.dvd_mul_left a 4) z)]
      rfl
/-- the weights of a form's exponents are those of its ways -/
theorem lgN_wy (T : List Nat → Nat → Int) (h0 : ∀ d, T [] d = 0) (hT : ∀ f a d, T (f ++ [a]) d = T f d + em a d) : ∀ n (form : List Nat), form.length = n → (∀ a ∈ form, 1 ≤ a ∧ 4 * a ≤ 360) → LgN 60 (fun k => -(WS (T form) k)) (wy form) := by
  intro n
  induction n with
  | zero =>
    intro form e _
    rw [List.length_eq_zero_iff.mp e]
    have z : (fun k => -(WS (T []) k)) = fun _ => (0 : Int) := by
      funext k
      unfold WS
      rw [sm_congr 361 (g := fun _ => 0) fun i _ => by rw [h0, Int.zero_mul], sm_zero]
      rfl
    rw [z]
    exact lgN_one 60
  | succ n ih =>
    intro form e h
    have ne : form ≠ [] := fun z => by
      rw [z] at e
      cases e
    have es := (List.dropLast_concat_getLast ne).symm
    obtain ⟨g, eg⟩ : ∃ g, g = form.dropLast := ⟨_, rfl⟩
    obtain ⟨a, ea⟩ : ∃ a, a = form.getLast ne := ⟨_, rfl⟩
    rw [← eg, ← ea] at es
    clear eg ea
    subst es
    obtain ⟨b1, b2⟩ := h a (by simp)
    have i := ih g (by simpa using e) fun c hc => h c (List.mem_append_left _ hc)
    have L := lgN_cv i (lgN_th b1)
    rw [wy_snoc]
    have z : (fun k => -(WS (T (g ++ [a])) k)) = ad (fun k => -(WS (T g) k)) (sa a) := by
      funext k
      show -(WS (T (g ++ [a])) k) = -(WS (T g) k) + sa a k
      have e2 : T (g ++ [a]) = fun d => T g d + em a d := funext fun d => hT g a d
      rw [e2, WS_add, ← WS_sa b1 b2 k]
      omega
    rw [z]
    exact L
/-- as the law's row asks -/
theorem lgN_at {f : Nat → Int} {R : S} (h : LgN 60 (fun k => -(WS f k)) R) {n : Nat} (hn : n ≤ 60) : (n : Int) * R n = -(sm (fun k => WS f (1 + k) * R (n - (1 + k))) n) := by
  have e := h.2 n hn
  have e2 : (n : Int) * R n = sm (fun i => -(WS f i) * R (n - i)) (n + 1) := e
  rw [sm_first, WS_zero] at e2
  rw [e2]
  show -0 * _ + _ = _
  rw [show (-0 : Int) = 0 from rfl, Int.zero_mul, Int.zero_add, ← Int.neg_one_mul, ← sm_mul]
  refine sm_congr n fun i _ => ?_
  rw [Nat.add_comm 1 i, Int.neg_mul, ← Int.neg_one_mul]
theorem sum_filter (p : Nat → Bool) (g : Nat → Int) : ∀ N, (((List.range N).filter p).map g).sum = sm (fun i => if p i then g i else 0) N
  | 0 => rfl
  | N + 1 => by
    rw [List.range_succ, List.filter_append, List.map_append, List.sum_append, sum_filter p g N]
    show _ = _ + (if p N then g N else 0)
    congr 1
    cases h : p N with
    | true =>
      rw [List.filter_cons_of_pos h, if_pos rfl]
      simp
    | false =>
      rw [List.filter_cons_of_neg (by rw [h]; exact Bool.false_ne_true), if_neg Bool.false_ne_true]
      rfl
theorem nz_WS (f : Nat → Int) (k : Nat) : ((nz f).map fun c => f c * wt c k).sum = WS f k := by
  unfold nz WS
  rw [sum_filter]
  refine sm_congr 361 fun i _ => ?_
  by_cases c : f i = 0
  · rw [if_neg (by simpa using c), c, Int.zero_mul]
  · rw [if_pos (by simpa using c)]
end Th

set_option Elab.async false
set_option linter.all false
set_option maxRecDepth 100000
set_option maxHeartbeats 4000000
set_option pp.maxSteps 3000
set_option exponentiation.threshold 500000
namespace K63
open PySem PySem.Spec PyProof.Rows L2 Dr Xv LamX Ps Gn Fm
abbrev s_lcm_of : Stmt := top 2
abbrev s_is_number : Stmt := top 11
abbrev s_is_within : Stmt := top 12
abbrev s_are_numbers : Stmt := top 13
abbrev s_is_number_tuple : Stmt := top 14
abbrev s_check_most : Stmt := top 15
abbrev s_product_of_quotients : Stmt := top 17
abbrev s_is_form : Stmt := top 22
abbrev s_check_form : Stmt := top 23
abbrev s_form_row : Stmt := top 24
abbrev s__with_square : Stmt := top 25
abbrev s_form_term : Stmt := top 26
abbrev s_has_level : Stmt := top 27
abbrev s_least_missed : Stmt := top 28
abbrev s_gaps_of : Stmt := top 29
abbrev s__law_begun : Stmt := top 31
abbrev s__law_blend : Stmt := top 32
abbrev s__law_take : Stmt := top 33
abbrev s__law_pick : Stmt := top 34
abbrev s__law_caught : Stmt := top 35
abbrev s__law_common : Stmt := top 36
abbrev s__law_sigmas : Stmt := top 37
abbrev s__law_row : Stmt := top 38
abbrev s__law_multiple : Stmt := top 39
abbrev s__law_level : Stmt := top 40
abbrev s__law_ascending : Stmt := top 41
abbrev s__law_form : Stmt := top 42
abbrev s__law_ways : Stmt := top 43
abbrev s__law_theta : Stmt := top 44
abbrev s_law : Stmt := top 45
abbrev N_lcm_of : List Str := List.map Str.ofString ["numbers", "common", "n"]
theorem sc_lcm_of : FnScope N_lcm_of ["numbers"] (defScope s_lcm_of) := ⟨rfl, rfl, rfl, by decide +kernel, rfl, by decide +kernel, by decide +kernel⟩
abbrev N_is_number : List Str := List.map Str.ofString ["thing"]
theorem sc_is_number : FnScope N_is_number ["thing"] (defScope s_is_number) := ⟨rfl, rfl, rfl, by decide +kernel, rfl, by decide +kernel, by decide +kernel⟩
abbrev N_is_within : List Str := List.map Str.ofString ["thing", "least", "greatest"]
theorem sc_is_within : FnScope N_is_within ["thing", "least", "greatest"] (defScope s_is_within) := ⟨rfl, rfl, rfl, by decide +kernel, rfl, by decide +kernel, by decide +kernel⟩
abbrev N_are_numbers : List Str := List.map Str.ofString ["things", "thing"]
theorem sc_are_numbers : FnScope N_are_numbers ["things"] (defScope s_are_numbers) := ⟨rfl, rfl, rfl, by decide +kernel, rfl, by decide +kernel, by decide +kernel⟩
abbrev N_is_number_tuple : List Str := List.map Str.ofString ["thing"]
theorem sc_is_number_tuple : FnScope N_is_number_tuple ["thing"] (defScope s_is_number_tuple) := ⟨rfl, rfl, rfl, by decide +kernel, rfl, by decide +kernel, by decide +kernel⟩
abbrev N_check_most : List Str := List.map Str.ofString ["most"]
theorem sc_check_most : FnScope N_check_most ["most"] (defScope s_check_most) := ⟨rfl, rfl, rfl, by decide +kernel, rfl, by decide +kernel, by decide +kernel⟩
abbrev N_product_of_quotients : List Str := List.map Str.ofString ["one", "other", "exponents", "d", "r"]
theorem sc_product_of_quotients : FnScope N_product_of_quotients ["one", "other"] (defScope s_product_of_quotients) := ⟨rfl, rfl, rfl, by decide +kernel, rfl, by decide +kernel, by decide +kernel⟩
abbrev N_is_form : List Str := List.map Str.ofString ["thing", "a", "one", "other"]
theorem sc_is_form : FnScope N_is_form ["thing"] (defScope s_is_form) := ⟨rfl, rfl, rfl, by decide +kernel, rfl, by decide +kernel, by decide +kernel⟩
abbrev N_check_form : List Str := List.map Str.ofString ["form"]
theorem sc_check_form : FnScope N_check_form ["form"] (defScope s_check_form) := ⟨rfl, rfl, rfl, by decide +kernel, rfl, by decide +kernel, by decide +kernel⟩
abbrev N_form_row : List Str := List.map Str.ofString ["form", "most", "row", "a"]
theorem sc_form_row : FnScope N_form_row ["form", "most"] (defScope s_form_row) := ⟨rfl, rfl, rfl, by decide +kernel, rfl, by decide +kernel, by decide +kernel⟩
abbrev N__with_square : List Str := List.map Str.ofString ["row", "a", "ways", "x", "step", "n"]
theorem sc__with_square : FnScope N__with_square ["row", "a"] (defScope s__with_square) := ⟨rfl, rfl, rfl, by decide +kernel, rfl, by decide +kernel, by decide +kernel⟩
abbrev N_form_term : List Str := List.map Str.ofString ["form", "quotient", "a"]
theorem sc_form_term : FnScope N_form_term ["form"] (defScope s_form_term) := ⟨rfl, rfl, rfl, by decide +kernel, rfl, by decide +kernel, by decide +kernel⟩
abbrev N_has_level : List Str := List.map Str.ofString ["form", "a"]
theorem sc_has_level : FnScope N_has_level ["form"] (defScope s_has_level) := ⟨rfl, rfl, rfl, by decide +kernel, rfl, by decide +kernel, by decide +kernel⟩
abbrev N_least_missed : List Str := List.map Str.ofString ["form", "missed"]
theorem sc_least_missed : FnScope N_least_missed ["form"] (defScope s_least_missed) := ⟨rfl, rfl, rfl, by decide +kernel, rfl, by decide +kernel, by decide +kernel⟩
abbrev N_gaps_of : List Str := List.map Str.ofString ["form", "most", "row", "n"]
theorem sc_gaps_of : FnScope N_gaps_of ["form", "most"] (defScope s_gaps_of) := ⟨rfl, rfl, rfl, by decide +kernel, rfl, by decide +kernel, by decide +kernel⟩
abbrev N__law_caught : List Str := List.map Str.ofString ["work", "caught", "error"]
theorem sc__law_caught : FnScope N__law_caught ["work"] (defScope s__law_caught) := ⟨rfl, rfl, rfl, by decide +kernel, rfl, by decide +kernel, by decide +kernel⟩
abbrev N__law_common : List Str := List.map Str.ofString ["one", "other"]
theorem sc__law_common : FnScope N__law_common ["one", "other"] (defScope s__law_common) := ⟨rfl, rfl, rfl, by decide +kernel, rfl, by decide +kernel, by decide +kernel⟩
abbrev N__law_sigmas : List Str := List.map Str.ofString ["most", "found", "d", "n"]
theorem sc__law_sigmas : FnScope N__law_sigmas ["most"] (defScope s__law_sigmas) := ⟨rfl, rfl, rfl, by decide +kernel, rfl, by decide +kernel, by decide +kernel⟩
abbrev N__law_row : List Str := List.map Str.ofString ["quotient", "most", "sums", "weights", "d", "n", "found", "k"]
theorem sc__law_row : FnScope N__law_row ["quotient", "most"] (defScope s__law_row) := ⟨rfl, rfl, rfl, by decide +kernel, rfl, by decide +kernel, by decide +kernel⟩
abbrev N__law_multiple : List Str := List.map Str.ofString ["one", "other"]
theorem sc__law_multiple : FnScope N__law_multiple ["one", "other"] (defScope s__law_multiple) := ⟨rfl, rfl, rfl, by decide +kernel, rfl, by decide +kernel, by decide +kernel⟩
abbrev N__law_level : List Str := List.map Str.ofString ["quotient", "found", "d"]
theorem sc__law_level : FnScope N__law_level ["quotient"] (defScope s__law_level) := ⟨rfl, rfl, rfl, by decide +kernel, rfl, by decide +kernel, by decide +kernel⟩
abbrev N__law_ascending : List Str := List.map Str.ofString ["quotient", "d"]
theorem sc__law_ascending : FnScope N__law_ascending ["quotient"] (defScope s__law_ascending) := ⟨rfl, rfl, rfl, by decide +kernel, rfl, by decide +kernel, by decide +kernel⟩
abbrev N__law_form : List Str := List.map Str.ofString ["draw", "most", "many", "k"]
theorem sc__law_form : FnScope N__law_form ["draw", "most"] (defScope s__law_form) := ⟨rfl, rfl, rfl, by decide +kernel, rfl, by decide +kernel, by decide +kernel⟩
abbrev N__law_ways : List Str := List.map Str.ofString ["form", "most", "found", "a", "later", "n", "ways", "x"]
theorem sc__law_ways : FnScope N__law_ways ["form", "most"] (defScope s__law_ways) := ⟨rfl, rfl, rfl, by decide +kernel, rfl, by decide +kernel, by decide +kernel⟩
abbrev N__law_theta : List Str := List.map Str.ofString ["form", "found", "a", "d", "r"]
theorem sc__law_theta : FnScope N__law_theta ["form"] (defScope s__law_theta) := ⟨rfl, rfl, rfl, by decide +kernel, rfl, by decide +kernel, by decide +kernel⟩
abbrev N_law : List Str := List.map Str.ofString ["script", "draw", "lap", "form", "most", "told", "due", "gaps", "early", "error", "some", "bad", "odd", "checks", "n", "ways", "a"]
theorem sc_law : FnScope N_law ["script"] (defScope s_law) := ⟨rfl, rfl, rfl, by decide +kernel, rfl, by decide +kernel, by decide +kernel⟩
abbrev s_init_TooMany : Stmt := inClass (top 7) 0
theorem sc_init_TooMany : FnScope (List.map Str.ofString ["self", "most"]) (List.map Str.ofString ["self", "most"]) (defScope s_init_TooMany) := ⟨rfl, rfl, rfl, by decide +kernel, rfl, by decide +kernel, by decide +kernel⟩
/-- what the top has left -/
structure Mod (P : Program) (w : World) (K : PySem.W.Frag) (mg : Str → Option Value) (base : Heap) : Type where
  (f_lcm_of f_is_number f_is_within f_are_numbers f_is_number_tuple f_check_most f_product_of_quotients f_is_form f_check_form f_form_row f__with_square f_form_term f_has_level f_least_missed f_gaps_of f__law_begun f__law_blend f__law_take f__law_pick f__law_caught f__law_common f__law_sigmas f__law_row f__law_multiple f__law_level f__law_ascending f__law_form f__law_ways f__law_theta f_law : Addr)
  (d_lcm_of d_is_number d_is_within d_are_numbers d_is_number_tuple d_check_most d_product_of_quotients d_is_form d_check_form d_form_row d__with_square d_form_term d_has_level d_least_missed d_gaps_of d__law_begun d__law_blend d__law_take d__law_pick d__law_caught d__law_common d__law_sigmas d__law_row d__law_multiple d__law_level d__law_ascending d__law_form d__law_ways d__law_theta d_law : FuncData)
  (a_SeriesError a_BadForm a_BadMost a_TooMany : Addr)
  (fi_TooMany : Addr)
  (di_TooMany : FuncData)
  (t_GREATEST_LEVEL t_GREATEST_MOST t_MOST_NUMBERS t_GREATEST_NUMBER_IN_FORM t_LAST_THAT_TELLS : Tok)
  F_lcm_of : FnP K "lcm_of" s_lcm_of f_lcm_of d_lcm_of
  g_lcm_of : mg "lcm_of" = some (.ref f_lcm_of)
  F_is_number : FnP K "is_number" s_is_number f_is_number d_is_number
  g_is_number : mg "is_number" = some (.ref f_is_number)
  F_is_within : FnP K "is_within" s_is_within f_is_within d_is_within
  g_is_within : mg "is_within" = some (.ref f_is_within)
  F_are_numbers : FnP K "are_numbers" s_are_numbers f_are_numbers d_are_numbers
  g_are_numbers : mg "are_numbers" = some (.ref f_are_numbers)
  F_is_number_tuple : FnP K "is_number_tuple" s_is_number_tuple f_is_number_tuple d_is_number_tuple
  g_is_number_tuple : mg "is_number_tuple" = some (.ref f_is_number_tuple)
  F_check_most : FnP K "check_most" s_check_most f_check_most d_check_most
  g_check_most : mg "check_most" = some (.ref f_check_most)
  F_product_of_quotients : FnP K "product_of_quotients" s_product_of_quotients f_product_of_quotients d_product_of_quotients
  g_product_of_quotients : mg "product_of_quotients" = some (.ref f_product_of_quotients)
  F_is_form : FnP K "is_form" s_is_form f_is_form d_is_form
  g_is_form : mg "is_form" = some (.ref f_is_form)
  F_check_form : FnP K "check_form" s_check_form f_check_form d_check_form
  g_check_form : mg "check_form" = some (.ref f_check_form)
  F_form_row : FnP K "form_row" s_form_row f_form_row d_form_row
  g_form_row : mg "form_row" = some (.ref f_form_row)
  F__with_square : FnP K "_with_square" s__with_square f__with_square d__with_square
  g__with_square : mg "_with_square" = some (.ref f__with_square)
  F_form_term : FnP K "form_term" s_form_term f_form_term d_form_term
  g_form_term : mg "form_term" = some (.ref f_form_term)
  F_has_level : FnP K "has_level" s_has_level f_has_level d_has_level
  g_has_level : mg "has_level" = some (.ref f_has_level)
  F_least_missed : FnP K "least_missed" s_least_missed f_least_missed d_least_missed
  g_least_missed : mg "least_missed" = some (.ref f_least_missed)
  F_gaps_of : FnP K "gaps_of" s_gaps_of f_gaps_of d_gaps_of
  g_gaps_of : mg "gaps_of" = some (.ref f_gaps_of)
  F__law_begun : FnP K "_law_begun" s__law_begun f__law_begun d__law_begun
  g__law_begun : mg "_law_begun" = some (.ref f__law_begun)
  F__law_blend : FnP K "_law_blend" s__law_blend f__law_blend d__law_blend
  g__law_blend : mg "_law_blend" = some (.ref f__law_blend)
  F__law_take : FnP K "_law_take" s__law_take f__law_take d__law_take
  g__law_take : mg "_law_take" = some (.ref f__law_take)
  F__law_pick : FnP K "_law_pick" s__law_pick f__law_pick d__law_pick
  g__law_pick : mg "_law_pick" = some (.ref f__law_pick)
  F__law_caught : FnP K "_law_caught" s__law_caught f__law_caught d__law_caught
  g__law_caught : mg "_law_caught" = some (.ref f__law_caught)
  F__law_common : FnP K "_law_common" s__law_common f__law_common d__law_common
  g__law_common : mg "_law_common" = some (.ref f__law_common)
  F__law_sigmas : FnP K "_law_sigmas" s__law_sigmas f__law_sigmas d__law_sigmas
  g__law_sigmas : mg "_law_sigmas" = some (.ref f__law_sigmas)
  F__law_row : FnP K "_law_row" s__law_row f__law_row d__law_row
  g__law_row : mg "_law_row" = some (.ref f__law_row)
  F__law_multiple : FnP K "_law_multiple" s__law_multiple f__law_multiple d__law_multiple
  g__law_multiple : mg "_law_multiple" = some (.ref f__law_multiple)
  F__law_level : FnP K "_law_level" s__law_level f__law_level d__law_level
  g__law_level : mg "_law_level" = some (.ref f__law_level)
  F__law_ascending : FnP K "_law_ascending" s__law_ascending f__law_ascending d__law_ascending
  g__law_ascending : mg "_law_ascending" = some (.ref f__law_ascending)
  F__law_form : FnP K "_law_form" s__law_form f__law_form d__law_form
  g__law_form : mg "_law_form" = some (.ref f__law_form)
  F__law_ways : FnP K "_law_ways" s__law_ways f__law_ways d__law_ways
  g__law_ways : mg "_law_ways" = some (.ref f__law_ways)
  F__law_theta : FnP K "_law_theta" s__law_theta f__law_theta d__law_theta
  g__law_theta : mg "_law_theta" = some (.ref f__law_theta)
  F_law : FnP K "law" s_law f_law d_law
  g_law : mg "law" = some (.ref f_law)
  c_GREATEST_LEVEL : mg "GREATEST_LEVEL" = some (.int 360 t_GREATEST_LEVEL)
  c_GREATEST_MOST : mg "GREATEST_MOST" = some (.int 3000 t_GREATEST_MOST)
  c_MOST_NUMBERS : mg "MOST_NUMBERS" = some (.int 12 t_MOST_NUMBERS)
  c_GREATEST_NUMBER_IN_FORM : mg "GREATEST_NUMBER_IN_FORM" = some (.int 90 t_GREATEST_NUMBER_IN_FORM)
  c_LAST_THAT_TELLS : mg "LAST_THAT_TELLS" = some (.int 15 t_LAST_THAT_TELLS)
  g_SeriesError : mg "SeriesError" = some (.ref a_SeriesError)
  g_BadForm : mg "BadForm" = some (.ref a_BadForm)
  g_BadMost : mg "BadMost" = some (.ref a_BadMost)
  g_TooMany : mg "TooMany" = some (.ref a_TooMany)
  i_isqrt : mg "isqrt" = some (.builtin "math.isqrt")
  i_lcm : mg "lcm" = some (.builtin "math.lcm")
  E_BadForm : ErrT K a_BadForm a_SeriesError
  E_BadMost : ErrT K a_BadMost a_SeriesError
  D_TooMany : FunD K "__init__" "TooMany.__init__" (defArgs s_init_TooMany) (defBody s_init_TooMany) (defScope s_init_TooMany) [] [] fi_TooMany di_TooMany
  U_TooMany : InitT K a_TooMany a_SeriesError fi_TooMany "most"
  abs0 : mg "abs" = none
  all0 : mg "all" = none
  bool0 : mg "bool" = none
  dict0 : mg "dict" = none
  enumerate0 : mg "enumerate" = none
  int0 : mg "int" = none
  isinstance0 : mg "isinstance" = none
  len0 : mg "len" = none
  list0 : mg "list" = none
  max0 : mg "max" = none
  min0 : mg "min" = none
  range0 : mg "range" = none
  repr0 : mg "repr" = none
  sorted0 : mg "sorted" = none
  sum0 : mg "sum" = none
  tuple0 : mg "tuple" = none
  zip0 : mg "zip" = none
namespace Mod
variable {P : Program} {w : World} {K : PySem.W.Frag} {mg : Str → Option Value} {base : Heap} (M : Mod P w K mg base)
theorem k_lcm_of : PySem.W.keepIn K (.ref M.f_lcm_of) = true := M.F_lcm_of.kp
theorem b_lcm_of : L2.Binds K M.d_lcm_of ["numbers"] [] := M.F_lcm_of.bindsN fun _ _ _ _ _ _ us hl => match us, hl with | [_], _ => rfl
theorem k_is_number : PySem.W.keepIn K (.ref M.f_is_number) = true := M.F_is_number.kp
theorem b_is_number : L2.Binds K M.d_is_number ["thing"] [] := M.F_is_number.bindsN fun _ _ _ _ _ _ us hl => match us, hl with | [_], _ => rfl
theorem k_is_within : PySem.W.keepIn K (.ref M.f_is_within) = true := M.F_is_within.kp
theorem b_is_within : L2.Binds K M.d_is_within ["thing", "least", "greatest"] [] := M.F_is_within.bindsN fun _ _ _ _ _ _ us hl => match us, hl with | [_, _, _], _ => rfl
theorem k_are_numbers : PySem.W.keepIn K (.ref M.f_are_numbers) = true := M.F_are_numbers.kp
theorem b_are_numbers : L2.Binds K M.d_are_numbers ["things"] [] := M.F_are_numbers.bindsN fun _ _ _ _ _ _ us hl => match us, hl with | [_], _ => rfl
theorem k_is_number_tuple : PySem.W.keepIn K (.ref M.f_is_number_tuple) = true := M.F_is_number_tuple.kp
theorem b_is_number_tuple : L2.Binds K M.d_is_number_tuple ["thing"] [] := M.F_is_number_tuple.bindsN fun _ _ _ _ _ _ us hl => match us, hl with | [_], _ => rfl
theorem k_check_most : PySem.W.keepIn K (.ref M.f_check_most) = true := M.F_check_most.kp
theorem b_check_most : L2.Binds K M.d_check_most ["most"] [] := M.F_check_most.bindsN fun _ _ _ _ _ _ us hl => match us, hl with | [_], _ => rfl
theorem k_product_of_quotients : PySem.W.keepIn K (.ref M.f_product_of_quotients) = true := M.F_product_of_quotients.kp
theorem b_product_of_quotients : L2.Binds K M.d_product_of_quotients ["one", "other"] [] := M.F_product_of_quotients.bindsN fun _ _ _ _ _ _ us hl => match us, hl with | [_, _], _ => rfl
theorem k_is_form : PySem.W.keepIn K (.ref M.f_is_form) = true := M.F_is_form.kp
theorem b_is_form : L2.Binds K M.d_is_form ["thing"] [] := M.F_is_form.bindsN fun _ _ _ _ _ _ us hl => match us, hl with | [_], _ => rfl
theorem k_check_form : PySem.W.keepIn K (.ref M.f_check_form) = true := M.F_check_form.kp
theorem b_check_form : L2.Binds K M.d_check_form ["form"] [] := M.F_check_form.bindsN fun _ _ _ _ _ _ us hl => match us, hl with | [_], _ => rfl
theorem k_form_row : PySem.W.keepIn K (.ref M.f_form_row) = true := M.F_form_row.kp
theorem b_form_row : L2.Binds K M.d_form_row ["form", "most"] [] := M.F_form_row.bindsN fun _ _ _ _ _ _ us hl => match us, hl with | [_, _], _ => rfl
theorem k__with_square : PySem.W.keepIn K (.ref M.f__with_square) = true := M.F__with_square.kp
theorem b__with_square : L2.Binds K M.d__with_square ["row", "a"] [] := M.F__with_square.bindsN fun _ _ _ _ _ _ us hl => match us, hl with | [_, _], _ => rfl
theorem k_form_term : PySem.W.keepIn K (.ref M.f_form_term) = true := M.F_form_term.kp
theorem b_form_term : L2.Binds K M.d_form_term ["form"] [] := M.F_form_term.bindsN fun _ _ _ _ _ _ us hl => match us, hl with | [_], _ => rfl
theorem k_has_level : PySem.W.keepIn K (.ref M.f_has_level) = true := M.F_has_level.kp
theorem b_has_level : L2.Binds K M.d_has_level ["form"] [] := M.F_has_level.bindsN fun _ _ _ _ _ _ us hl => match us, hl with | [_], _ => rfl
theorem k_least_missed : PySem.W.keepIn K (.ref M.f_least_missed) = true := M.F_least_missed.kp
theorem b_least_missed : L2.Binds K M.d_least_missed ["form"] [] := M.F_least_missed.bindsN fun _ _ _ _ _ _ us hl => match us, hl with | [_], _ => rfl
theorem k_gaps_of : PySem.W.keepIn K (.ref M.f_gaps_of) = true := M.F_gaps_of.kp
theorem b_gaps_of : L2.Binds K M.d_gaps_of ["form", "most"] [] := M.F_gaps_of.bindsN fun _ _ _ _ _ _ us hl => match us, hl with | [_, _], _ => rfl
theorem k__law_begun : PySem.W.keepIn K (.ref M.f__law_begun) = true := M.F__law_begun.kp
theorem b__law_begun : L2.Binds K M.d__law_begun ["script"] [] := M.F__law_begun.bindsN fun _ _ _ _ _ _ us hl => match us, hl with | [_], _ => rfl
theorem k__law_blend : PySem.W.keepIn K (.ref M.f__law_blend) = true := M.F__law_blend.kp
theorem b__law_blend : L2.Binds K M.d__law_blend ["draw"] [] := M.F__law_blend.bindsN fun _ _ _ _ _ _ us hl => match us, hl with | [_], _ => rfl
theorem k__law_take : PySem.W.keepIn K (.ref M.f__law_take) = true := M.F__law_take.kp
theorem b__law_take : L2.Binds K M.d__law_take ["draw", "size"] [] := M.F__law_take.bindsN fun _ _ _ _ _ _ us hl => match us, hl with | [_, _], _ => rfl
theorem k__law_pick : PySem.W.keepIn K (.ref M.f__law_pick) = true := M.F__law_pick.kp
theorem b__law_pick : L2.Binds K M.d__law_pick ["draw", "some"] [] := M.F__law_pick.bindsN fun _ _ _ _ _ _ us hl => match us, hl with | [_, _], _ => rfl
theorem k__law_caught : PySem.W.keepIn K (.ref M.f__law_caught) = true := M.F__law_caught.kp
theorem b__law_caught : L2.Binds K M.d__law_caught ["work"] [] := M.F__law_caught.bindsN fun _ _ _ _ _ _ us hl => match us, hl with | [_], _ => rfl
theorem k__law_common : PySem.W.keepIn K (.ref M.f__law_common) = true := M.F__law_common.kp
theorem b__law_common : L2.Binds K M.d__law_common ["one", "other"] [] := M.F__law_common.bindsN fun _ _ _ _ _ _ us hl => match us, hl with | [_, _], _ => rfl
theorem k__law_sigmas : PySem.W.keepIn K (.ref M.f__law_sigmas) = true := M.F__law_sigmas.kp
theorem b__law_sigmas : L2.Binds K M.d__law_sigmas ["most"] [] := M.F__law_sigmas.bindsN fun _ _ _ _ _ _ us hl => match us, hl with | [_], _ => rfl
theorem k__law_row : PySem.W.keepIn K (.ref M.f__law_row) = true := M.F__law_row.kp
theorem b__law_row : L2.Binds K M.d__law_row ["quotient", "most"] [] := M.F__law_row.bindsN fun _ _ _ _ _ _ us hl => match us, hl with | [_, _], _ => rfl
theorem k__law_multiple : PySem.W.keepIn K (.ref M.f__law_multiple) = true := M.F__law_multiple.kp
theorem b__law_multiple : L2.Binds K M.d__law_multiple ["one", "other"] [] := M.F__law_multiple.bindsN fun _ _ _ _ _ _ us hl => match us, hl with | [_, _], _ => rfl
theorem k__law_level : PySem.W.keepIn K (.ref M.f__law_level) = true := M.F__law_level.kp
theorem b__law_level : L2.Binds K M.d__law_level ["quotient"] [] := M.F__law_level.bindsN fun _ _ _ _ _ _ us hl => match us, hl with | [_], _ => rfl
theorem k__law_ascending : PySem.W.keepIn K (.ref M.f__law_ascending) = true := M.F__law_ascending.kp
theorem b__law_ascending : L2.Binds K M.d__law_ascending ["quotient"] [] := M.F__law_ascending.bindsN fun _ _ _ _ _ _ us hl => match us, hl with | [_], _ => rfl
theorem k__law_form : PySem.W.keepIn K (.ref M.f__law_form) = true := M.F__law_form.kp
theorem b__law_form : L2.Binds K M.d__law_form ["draw", "most"] [] := M.F__law_form.bindsN fun _ _ _ _ _ _ us hl => match us, hl with | [_, _], _ => rfl
theorem k__law_ways : PySem.W.keepIn K (.ref M.f__law_ways) = true := M.F__law_ways.kp
theorem b__law_ways : L2.Binds K M.d__law_ways ["form", "most"] [] := M.F__law_ways.bindsN fun _ _ _ _ _ _ us hl => match us, hl with | [_, _], _ => rfl
theorem k__law_theta : PySem.W.keepIn K (.ref M.f__law_theta) = true := M.F__law_theta.kp
theorem b__law_theta : L2.Binds K M.d__law_theta ["form"] [] := M.F__law_theta.bindsN fun _ _ _ _ _ _ us hl => match us, hl with | [_], _ => rfl
theorem k_law : PySem.W.keepIn K (.ref M.f_law) = true := M.F_law.kp
theorem b_law : L2.Binds K M.d_law ["script"] [] := M.F_law.bindsN fun _ _ _ _ _ _ us hl => match us, hl with | [_], _ => rfl
theorem bi_TooMany : L2.Binds K M.di_TooMany (List.map Str.ofString ["self", "most"]) [] := M.D_TooMany.bindsN fun _ _ _ _ _ _ us hl => match us, hl with | [_, _], _ => rfl
theorem h_least_missed : KBinds K M.d_least_missed ["form"] ["form"] gR gR := kbR M.F_least_missed (by decide) fun _ _ _ _ _ _ ws hl => match ws, hl with | [_], _ => rfl
theorem h_is_form : KBinds K M.d_is_form ["thing"] ["thing"] gR gR := kbR M.F_is_form (by decide) fun _ _ _ _ _ _ ws hl => match ws, hl with | [_], _ => rfl
theorem h_form_row : KBinds K M.d_form_row ["form", "most"] ["most", "form"] gR gR := kbR M.F_form_row (by decide) fun _ _ _ _ _ _ ws hl => match ws, hl with | [_, _], _ => rfl
end Mod
theorem ok_init_TooMany {P : Program} {w : World} {K : PySem.W.Frag} {mg : Str → Option Value} {base : Heap} (M : Mod P w K mg base) : FnOk P w K mg base CX0 1 M.fi_TooMany M.di_TooMany (List.map Str.ofString ["self", "most"]) (spInit M.a_TooMany "most") := by
  refine M.D_TooMany.ok sc_init_TooMany (fun vs H Q E h => ?_) (fun cdv A outer s H vs Q E hr h => ?_)
  · obtain ⟨a, v, rfl, _⟩ := h
    rfl
  · obtain ⟨a, v, rfl, ha, q⟩ := h
    refine ⟨_, PSs.nox (pss_cons (ps_expr (pe_sinit rfl M.g_SeriesError M.U_TooMany.kS M.U_TooMany.rS M.U_TooMany.sS M.U_TooMany.vS (pa_cons (pv 0) (pa_cons pe_str pa_nil)))) (pss_one (ps_ost (pv 0) (pv 1)))), ?_⟩
    refine ⟨_, rfl, a, M.a_TooMany, _, rfl, (by show 1 ≤ 1000; decide), M.U_TooMany.ox, ha, ?_⟩
    exact ⟨_, rfl, _, rfl, a, M.a_TooMany, rfl, M.U_TooMany.ox, M.U_TooMany.no, .inl ⟨ha, fun d hd nd => q d hd nd⟩⟩
section
variable {P : Program} {w : World} {K : PySem.W.Frag} {mg : Str → Option Value} {base : Heap}
theorem ok__law_begun (M : Mod P w K mg base) : FnOk P w K mg base CX0 1 M.f__law_begun M.d__law_begun ["script"] (spBegun K) := ok_begun M.F__law_begun M.abs0
theorem ok__law_take (M : Mod P w K mg base) : FnOk P w K mg base CX0 2 M.f__law_take M.d__law_take ["draw", "size"] spTake := ok_take M.F__law_take M.int0 M.F__law_blend M.g__law_blend
theorem ok__law_pick (M : Mod P w K mg base) : FnOk P w K mg base CX0 3 M.f__law_pick M.d__law_pick ["draw", "some"] (spPick K) := ok_pick M.F__law_pick M.len0 (ok__law_take M) M.b__law_take M.g__law_take M.k__law_take
def sp_is_number : Sp := fun vs H Q _ => ∃ x, vs = [x] ∧ PV H x ∧ Q (.bl (isNum x)) H
theorem ok_is_number (M : Mod P w K mg base) : FnOk P w K mg base CX0 1 M.f_is_number M.d_is_number ["thing"] sp_is_number := by
  refine M.F_is_number.ok sc_is_number (fun vs H Q E h => ?_) (fun cdv A outer s H vs Q E hr h => ?_)
  · obtain ⟨x, rfl, _⟩ := h
    rfl
  · obtain ⟨x, rfl, hx, q⟩ := h
    refine ⟨_, PSs.nox (pss_one (ps_ret (pe_and (pe_callB call_isi (by rfl) M.isinstance0 boot_isinstance (pa_cons (pv 0) (pa_cons (pe_bltn (v := .ty "int") rfl M.int0 (by decide +kernel) rfl) pa_nil))) (pe_one (pe_not (pe_callB call_isi (by rfl) M.isinstance0 boot_isinstance (pa_cons (pv 0) (pa_cons (pe_bltn (v := .ty "bool") rfl M.bool0 (by decide +kernel) rfl) pa_nil)))))))), ?_⟩
    obtain ⟨t, ty, k1, k2⟩ := hx.ty (K := K)
    refine ⟨_, rfl, x, _, t, _, _, rfl, .ty "int", ty, k1, kInt x, rfl, ?_⟩
    have e := kInt_num x
    cases hk : kInt x with
    | true =>
      refine iteT ⟨_, rfl, x, _, t, _, _, rfl, .ty "bool", ty, k2, kBool x, rfl, ?_⟩
      rw [hk, Bool.true_and] at e
      rw [e]
      exact q
    | false =>
      refine iteF ?_
      rw [hk, Bool.false_and] at e
      rw [e]
      exact q
def sp_is_within : Sp := fun vs H Q _ => ∃ (x : V) (lo hi : Int), vs = [x, .int lo, .int hi] ∧ PV H x ∧ Q (.bl (within x lo hi)) H
theorem ok_is_within (M : Mod P w K mg base) : FnOk P w K mg base CX0 2 M.f_is_within M.d_is_within ["thing", "least", "greatest"] sp_is_within := by
  refine M.F_is_within.ok sc_is_within (fun vs H Q E h => ?_) (fun cdv A outer s H vs Q E hr h => ?_)
  · obtain ⟨x, lo, hi, rfl, _⟩ := h
    rfl
  · obtain ⟨x, lo, hi, rfl, hx, q⟩ := h
    refine ⟨_, PSs.nox (pss_one (ps_ret (pe_and (pe_call (ok_is_number M) (hr.mono (by decide)) rfl M.g_is_number M.k_is_number M.b_is_number .nil pass0 (pa_cons (pv 0) pa_nil)) (pe_one (pe_chain op_le op_le (pv 1) (pv 0) (pv 2)))))), ?_⟩
    refine ⟨_, rfl, x, rfl, hx, isNum x, rfl, ?_⟩
    cases x with
    | int i =>
      refine iteT ⟨_, rfl, _, rfl, _, _, rfl, rfl, _, rfl, ?_⟩
      have e : within (.int i) lo hi = (decide (lo ≤ i) && decide (i ≤ hi)) := rfl
      rw [e] at q
      by_cases c : lo ≤ i
      · rw [decide_eq_true c, Bool.true_and] at q
        rw [decide_eq_true c]
        exact iteT ⟨_, rfl, _, _, rfl, rfl, q⟩
      · rw [decide_eq_false c, Bool.false_and] at q
        rw [decide_eq_false c]
        exact iteF q
    | _ => exact iteF q
def sp_are_numbers : Sp := fun vs H Q _ => ∃ (a : Addr) (xs : List V), vs = [.ref a] ∧ Items H (.ref a) (some xs) ∧ xs.length < sizeLine ∧ (∀ v ∈ xs, PV H v) ∧ ∀ H', Same H H' → Q (.bl (xs.all isNum)) H'
theorem ok_are_numbers (M : Mod P w K mg base) : FnOk P w K mg base CX0 2 M.f_are_numbers M.d_are_numbers ["things"] sp_are_numbers := by
  refine M.F_are_numbers.ok sc_are_numbers (fun vs H Q E h => ?_) (fun cdv A outer s H vs Q E hr h => ?_)
  · obtain ⟨a, xs, rfl, _⟩ := h
    rfl
  · obtain ⟨a, xs, rfl, hi, hl, hp, q⟩ := h
    cases hi with
    | lst e =>
      refine ⟨_, PSs.nox (pss_one (ps_ret (pe_callB (cr_all rfl) (by rfl) M.all0 (by decide +kernel) (pa_cons (pe_lc (own := [("thing", 1)]) (g := (gName 1)) (by rfl) sc_are_numbers.nd (pi_list (pv 0)) (blkOk_by (own := [("thing", 1)]) (N := N_are_numbers) (sc := defScope s_are_numbers) (by decide +kernel))
        (fun _ _ _ _ _ => (pg_name (i := 1) sc_are_numbers.nd rfl (Or.inl rfl))) (fun _ _ _ _ _ => pts_nil) (fun _ _ _ _ _ => (pe_call (ok_is_number M) (hr.mono (by decide)) rfl M.g_is_number M.k_is_number M.b_is_number .nil pass0 (pa_cons (pv 1) pa_nil)))) pa_nil)))), ?_⟩
      refine ⟨_, rfl, a, rfl, ⟨_, SqL.of e⟩, fun D hD => lc_list (K := K) (a := a) (xs := xs) (fun i H' => H' D = some (.lst ((xs.take i).map fun v => V.bl (isNum v))) ∧ Same H H')
        ⟨upd_same, same_new hD⟩ (fun i H' _ ⟨_, s⟩ => SqL.of (s _ _ e)) ?_ ?_⟩
      · rintro i x H' hi ⟨h1, s⟩
        refine ⟨rfl, yesT ⟨_, rfl, x, rfl, (hp x (List.mem_of_getElem? hi)).same s, _, h1, ?_, ?_, ?_⟩⟩
        · exact Nat.lt_of_le_of_lt take_len hl
        · rw [upd_same, take_snoc hi]
        · exact fun b o e => by rw [upd_ne (ne_of_none e hD)]; exact s b o e
      · rintro H1 ⟨h1, s⟩
        rw [List.take_length] at h1
        refine ⟨D, xs.map isNum, rfl, ?_, ?_⟩
        · rw [List.map_map]
          exact SqL.of h1
        · have e2 : (xs.map isNum).all id = xs.all isNum := by
            rw [List.all_map]
            rfl
          rw [e2]
          exact q _ s
    | tup e =>
      refine ⟨_, PSs.nox (pss_one (ps_ret (pe_callB (cr_all rfl) (by rfl) M.all0 (by decide +kernel) (pa_cons (pe_lc (own := [("thing", 1)]) (g := (gName 1)) (by rfl) sc_are_numbers.nd (pi_tup (pv 0)) (blkOk_by (own := [("thing", 1)]) (N := N_are_numbers) (sc := defScope s_are_numbers) (by decide +kernel))
        (fun _ _ _ _ _ => (pg_name (i := 1) sc_are_numbers.nd rfl (Or.inl rfl))) (fun _ _ _ _ _ => pts_nil) (fun _ _ _ _ _ => (pe_call (ok_is_number M) (hr.mono (by decide)) rfl M.g_is_number M.k_is_number M.b_is_number .nil pass0 (pa_cons (pv 1) pa_nil)))) pa_nil)))), ?_⟩
      refine ⟨_, rfl, a, rfl, ⟨_, SqT.of e⟩, fun D hD => lc_tup (K := K) (a := a) (xs := xs) (fun i H' => H' D = some (.lst ((xs.take i).map fun v => V.bl (isNum v))) ∧ Same H H')
        ⟨upd_same, same_new hD⟩ (fun i H' _ ⟨_, s⟩ => SqT.of (s _ _ e)) ?_ ?_⟩
      · rintro i x H' hi ⟨h1, s⟩
        refine ⟨rfl, yesT ⟨_, rfl, x, rfl, (hp x (List.mem_of_getElem? hi)).same s, _, h1, ?_, ?_, ?_⟩⟩
        · exact Nat.lt_of_le_of_lt take_len hl
        · rw [upd_same, take_snoc hi]
        · exact fun b o e => by rw [upd_ne (ne_of_none e hD)]; exact s b o e
      · rintro H1 ⟨h1, s⟩
        rw [List.take_length] at h1
        refine ⟨D, xs.map isNum, rfl, ?_, ?_⟩
        · rw [List.map_map]
          exact SqL.of h1
        · have e2 : (xs.map isNum).all id = xs.all isNum := by
            rw [List.all_map]
            rfl
          rw [e2]
          exact q _ s
def sp_check_most (cM : Addr) : Sp := fun vs H Q E => ∃ x : V, vs = [x] ∧ PV H x ∧ (within x 0 3000 = true → Q .non H) ∧ (within x 0 3000 = false → E (.ref cM) none H)
theorem ok_check_most (M : Mod P w K mg base) : FnOk P w K mg base (L2.CX P w) 3 M.f_check_most M.d_check_most ["most"] (sp_check_most M.a_BadMost) := by
  refine M.F_check_most.ok sc_check_most (fun vs H Q E h => ?_) (fun cdv A outer s H vs Q E hr h => ?_)
  · obtain ⟨x, rfl, _⟩ := h
    rfl
  · obtain ⟨x, rfl, hx, q1, q2⟩ := h
    refine ⟨_, (pss_one (ps_if (pt_not (pt_val (pe_call (ok_is_within M) (hr.mono (by decide)) rfl M.g_is_within M.k_is_within M.b_is_within .nil pass0 (pa_cons (pv 0) (pa_cons pe_int (pa_cons (pe_glob (v := .int 3000) rfl M.c_GREATEST_MOST ⟨_, rfl⟩) pa_nil)))))) 
        (pss_one (ps_raise rfl (takes_of rfl rfl rfl rfl) (pmk_own PySem.F.excBase_ValueError M.E_BadMost.x M.g_BadMost M.E_BadMost.k (raises_own M.E_BadMost.b M.E_BadMost.t) rfl))) pss_nil)), ?_⟩
    refine ⟨_, rfl, x, 0, 3000, rfl, hx, within x 0 3000, rfl, ?_⟩
    cases h : within x 0 3000 with
    | true => exact iteF (q1 h)
    | false => exact iteT (q2 h)

end
end K63

set_option Elab.async false
set_option linter.all false
set_option maxRecDepth 100000
set_option maxHeartbeats 4000000
set_option pp.maxSteps 3000
set_option exponentiation.threshold 500000
namespace K63
open PySem PySem.Spec PyProof.Rows L2 Dr Xv LamX Ps Gn Fm
section
variable {P : Program} {w : World} {K : PySem.W.Frag} {mg : Str → Option Value} {base : Heap}
def sp_is_number_tuple : Sp := fun vs H Q _ => ∃ (x : V) (o : Option (List V)), vs = [x] ∧ Tp H x o ∧ short o ∧ AllPV H o ∧ ∀ H', Same H H' → Q (.bl (itemsOk o)) H'
theorem ok_is_number_tuple (M : Mod P w K mg base) : FnOk P w K mg base CX0 3 M.f_is_number_tuple M.d_is_number_tuple ["thing"] sp_is_number_tuple := by
  refine M.F_is_number_tuple.ok sc_is_number_tuple (fun vs H Q E h => ?_) (fun cdv A outer s H vs Q E hr h => ?_)
  · obtain ⟨x, o, rfl, _⟩ := h
    rfl
  · obtain ⟨x, o, rfl, hx, hs, hp, q⟩ := h
    refine ⟨_, PSs.nox (pss_one (ps_ret (pe_and (pe_callB call_isi (by rfl) M.isinstance0 boot_isinstance (pa_cons (pv 0) (pa_cons (pe_bltn (v := .ty "tuple") rfl M.tuple0 (by decide +kernel) rfl) pa_nil))) (pe_one (pe_call (ok_are_numbers M) (hr.mono (by decide)) rfl M.g_are_numbers M.k_are_numbers M.b_are_numbers .nil pass0 (pa_cons (pv 0) pa_nil)))))), ?_⟩
    obtain ⟨t, ty, k1⟩ := hx.ty (K := K)
    refine ⟨_, rfl, x, _, t, _, _, rfl, .ty "tuple", ty, k1, _, rfl, ?_⟩
    cases o with
    | none => exact iteF (q H fun _ _ e => e)
    | some xs =>
      obtain ⟨a, rfl, e⟩ := hx.ref
      exact iteT ⟨_, rfl, a, xs, rfl, .tup e, hs xs rfl, hp xs rfl, q⟩

def isFm (ns : List Int) : Bool := decide (1 ≤ ns.length ∧ ns.length ≤ 12) && Pt.small ns 1 90 && (List.zip ns (ns.drop 1)).all fun p => decide (p.1 ≤ p.2)
def okF : Option (List V) → Bool
  | none => false
  | some xs => xs.all isNum && isFm (numsV xs)
def sp_is_form : Sp := fun vs H Q _ => ∃ (x : V) (o : Option (List V)), vs = [x] ∧ Tp H x o ∧ short o ∧ AllPV H o ∧ ∀ H', Same H H' → Q (.bl (okF o)) H'
theorem ok_is_form (M : Mod P w K mg base) : FnOk P w K mg base CX0 4 M.f_is_form M.d_is_form ["thing"] sp_is_form := by
  refine M.F_is_form.ok sc_is_form (fun vs H Q E h => ?_) (fun cdv A outer s H vs Q E hr h => ?_)
  · obtain ⟨x, o, rfl, _⟩ := h
    rfl
  · obtain ⟨x, o, rfl, hx, hs, hp, q⟩ := h
    refine ⟨_, PSs.nox (C8.pss_cut (ps_if (PW.pt (pw_or (pt_not (pt_val (pe_call (ok_is_number_tuple M) (hr.mono (by decide)) rfl M.g_is_number_tuple M.k_is_number_tuple M.b_is_number_tuple .nil pass0 (pa_cons (pv 0) pa_nil)))) (pw_or1 (pt_not (pt_chain op_le op_le pe_int (pe_callB call_len (by rfl) M.len0 PySem.boot_len (pa_cons (pv 0) pa_nil)) (pe_glob (v := .int 12) rfl M.c_MOST_NUMBERS ⟨_, rfl⟩)))))) 
        (pss_one (ps_ret pe_bl)) pss_nil)
      (C8.pss_cut (ps_if (pt_not (pt_val (pe_callB (cr_all rfl) (by rfl) M.all0 (by decide +kernel) (pa_cons (pe_lc (own := [("a", 1)]) (g := (gName 1)) (by rfl) sc_is_form.nd (pi_tup (pv 0)) (blkOk_by (own := [("a", 1)]) (N := N_is_form) (sc := defScope s_is_form) (by decide +kernel))
        (fun _ _ _ _ _ => (pg_name (i := 1) sc_is_form.nd rfl (Or.inl rfl))) (fun _ _ _ _ _ => pts_nil) (fun _ _ _ _ _ => (pe_chain op_le op_le pe_int (pv 1) (pe_glob (v := .int 90) rfl M.c_GREATEST_NUMBER_IN_FORM ⟨_, rfl⟩)))) pa_nil)))) 
        (pss_one (ps_ret pe_bl)) pss_nil)
      (pss_one (ps_ret (pe_callB (cr_all rfl) (by rfl) M.all0 (by decide +kernel) (pa_cons (pe_lc (own := [("one", 2), ("other", 3)]) (g := (gTup K 2 (gCons (gName 2) (gCons (gName 3) gNil)))) (by rfl) sc_is_form.nd (RZ.pi_zipA (by rfl) M.zip0 (pa_cons (pv 0) (pa_cons (pe_slice sl_tupA (pv 0) (po_some pe_int) po_none) pa_nil))) (blkOk_by (own := [("one", 2), ("other", 3)]) (N := N_is_form) (sc := defScope s_is_form) (by decide +kernel))
        (fun _ _ _ _ _ => (pg_tup rfl (pgs_cons (pg_name (i := 2) sc_is_form.nd rfl (Or.inl rfl)) (pgs_cons (pg_name (i := 3) sc_is_form.nd rfl (Or.inl rfl)) pgs_nil)))) (fun _ _ _ _ _ => pts_nil) (fun _ _ _ _ _ => (pe_cmpR op_le (pv 2) (pv 3) (nomark _)))) pa_nil)))))), ?_⟩
    refine ⟨fun σ' H' => ∃ (a : Addr) (ns : List Int), σ' = [some (.ref a), none, none, none] ∧ Same H H' ∧ x = .ref a ∧ o = some (ns.map V.int) ∧ H' a = some (.tup (ns.map V.int)) ∧ (1 ≤ ns.length ∧ ns.length ≤ 12), ?_, ?_⟩
    · refine ⟨_, rfl, x, o, rfl, hx, hs, hp, fun H1 s1 => ?_⟩
      refine ⟨_, rfl, ?_⟩
      cases hk : itemsOk o with
      | false =>
        refine iteT (iteT ?_)
        show Q (.bl false) H1
        have e : okF o = false := by
          cases o with
          | none => rfl
          | some xs =>
            have z : xs.all isNum = false := hk
            show (xs.all isNum && _) = false
            rw [z, Bool.false_and]
        rw [← e]
        exact q H1 s1
      | true =>
        cases o with
        | none => cases hk
        | some xs =>
          obtain ⟨ns, rfl⟩ := nums_of (xs := xs) hk
          obtain ⟨a, rfl, e⟩ := hx.ref
          refine iteF ⟨_, rfl, _, _, rfl, .inr ⟨_, SqT.of (s1 _ _ e), rfl⟩, ?_⟩
          rw [List.length_map]
          have bad : ¬ (1 ≤ ns.length ∧ ns.length ≤ 12) → Q (.bl false) H1 := fun c => by
            have e2 : okF (some (ns.map V.int)) = false := by
              show ((ns.map V.int).all isNum && isFm (numsV (ns.map V.int))) = false
              rw [numsV_map]
              unfold isFm
              rw [decide_eq_false c, Bool.false_and, Bool.false_and, Bool.and_false]
            rw [← e2]
            exact q H1 s1
          refine ⟨_, _, rfl, rfl, _, rfl, ?_⟩
          by_cases c : (1 : Int) ≤ (ns.length : Int)
          · refine iteT' (decide_eq_true c) ⟨_, _, rfl, rfl, _, rfl, ?_⟩
            by_cases c2 : (ns.length : Int) ≤ 12
            · exact iteF' (by rw [decide_eq_true c2]; rfl) ⟨a, ns, rfl, s1, rfl, rfl, s1 _ _ e, by omega⟩
            · exact iteT' (by rw [decide_eq_false c2]; rfl) (bad (by omega))
          · exact iteF' (decide_eq_false c) ⟨_, rfl, iteT (bad (by omega))⟩
    · rintro σ H1 ⟨a, ns, rfl, s1, rfl, rfl, e1, l1⟩
      have eok : okF (some (ns.map V.int)) = (Pt.small ns 1 90 && (List.zip ns (ns.drop 1)).all fun p => decide (p.1 ≤ p.2)) := by
        show ((ns.map V.int).all isNum && isFm (numsV (ns.map V.int))) = _
        rw [numsV_map, all_num, Bool.true_and]
        unfold isFm
        rw [decide_eq_true l1, Bool.true_and]
      refine ⟨fun σ' H' => σ' = [some (.ref a), none, none, none] ∧ Same H H' ∧ H' a = some (.tup (ns.map V.int)) ∧ Pt.small ns 1 90 = true, ?_, ?_⟩
      · refine ⟨_, rfl, a, rfl, ⟨_, SqT.of e1⟩, fun D hD => lc_tup (K := K) (a := a) (xs := ns.map V.int) (fun i H' => H' D = some (.lst ((ns.take i).map fun x => V.bl (decide (1 ≤ x) && decide (x ≤ 90)))) ∧ Same H1 H')
          ⟨upd_same, same_new hD⟩ (fun i H' _ ⟨_, s⟩ => SqT.of (s _ _ e1)) ?_ ?_⟩
        · rintro i x H' hi ⟨h1, s⟩
          obtain ⟨z, hz, rfl⟩ := int_at hi
          refine ⟨rfl, yesT ?_⟩
          have fin : ∀ b : Bool, b = (decide (1 ≤ z) && decide (z ≤ 90)) → ∃ acc, H' D = some (HO.lst acc) ∧ acc.length < sizeLine ∧ upd H' D (HO.lst (acc ++ [V.bl b])) D = some (HO.lst (List.map (fun x => V.bl (decide (1 ≤ x) && decide (x ≤ 90))) (List.take (i + 1) ns))) ∧ Same H1 (upd H' D (HO.lst (acc ++ [V.bl b]))) := fun b eb => by
            refine ⟨_, h1, ?_, ?_, fun b o e => by rw [upd_ne (ne_of_none e hD)]; exact s b o e⟩
            · have := take_len (f := fun x : Int => V.bl (decide (1 ≤ x) && decide (x ≤ 90))) (xs := ns) (i := i)
              rw [sizeLine_eq]
              omega
            · rw [upd_same, eb, take_snoc (f := fun x : Int => V.bl (decide (1 ≤ x) && decide (x ≤ 90))) hz]
          refine ⟨_, rfl, _, _, rfl, rfl, _, rfl, ?_⟩
          by_cases c : 1 ≤ z
          · refine iteT' (decide_eq_true c) ⟨_, _, rfl, rfl, fin _ ?_⟩
            rw [decide_eq_true c, Bool.true_and]
          · refine iteF' (decide_eq_false c) (fin _ ?_)
            rw [decide_eq_false c, Bool.false_and]
        · rintro H2 ⟨h2, s2⟩
          rw [List.length_map, List.take_length] at h2
          refine ⟨D, ns.map fun x => (decide (1 ≤ x) && decide (x ≤ 90)), rfl, ?_, ?_⟩
          · rw [List.map_map]
            exact SqL.of h2
          · have e3 : (ns.map fun x => (decide (1 ≤ x) && decide (x ≤ 90))).all id = Pt.small ns 1 90 := by
              rw [List.all_map]
              rfl
            rw [e3]
            refine ⟨_, rfl, ?_⟩
            cases hsm : Pt.small ns 1 90 with
            | true => exact iteF ⟨rfl, s1.trans s2, s2 _ _ e1, rfl⟩
            | false =>
              refine iteT ?_
              show Q (.bl false) H2
              rw [hsm, Bool.false_and] at eok
              rw [← eok]
              exact q H2 (s1.trans s2)
      · rintro σ H2 ⟨rfl, s2, e2, hsm⟩
        rw [hsm, Bool.true_and] at eok
        have pl : ∀ l : List (Int × Int), (l.map fun p => decide (p.1 ≤ p.2)).all id = l.all fun p => decide (p.1 ≤ p.2) := fun l => by
          rw [List.all_map]
          rfl
        by_cases n0 : ns = []
        · subst n0
          exact absurd l1.1 (by decide)
        · obtain ⟨n, en⟩ : ∃ n, ns.length = n + 1 := ⟨ns.length - 1, by
            have := List.length_pos_iff.mpr n0
            omega⟩
          refine ⟨_, rfl, _, rfl, 1, rfl, a, _, rfl, SqT.of e2, fun hw => ?_, fun hw p hp => ?_⟩
          · exfalso
            have z : HT.sIx (ns.map V.int).length 0 (some ((1 : Nat) : Int)) = 0 := hw.1
            rw [HT.sIx_nat, List.length_map] at z
            omega
          have s3 := same_new (o := .tup (cutV (ns.map V.int) (some 1) none)) hp
          have e3 : (upd H2 p (.tup (cutV (ns.map V.int) (some 1) none))) p = some (.tup ((ns.drop 1).map V.int)) := by
            rw [upd_same]
            congr 2
            exact cut_tail (i := 1)
          have e4 := s3 _ _ e2
          generalize upd H2 p (.tup (cutV (ns.map V.int) (some 1) none)) = H3 at s3 e3 e4 ⊢
          refine ⟨a, p, _, _, rfl, .inr ⟨SqT.of e4, SqT.of e3, fun D hD => lc_it (walk_zipT (n := n) (by rw [List.length_map, List.length_map, List.length_drop]; omega)) (fun i H' => H' D = some (.lst (((List.zip ns (ns.drop 1)).take i).map fun p => V.bl (decide (p.1 ≤ p.2)))) ∧ Same H3 H') ⟨upd_same, same_new hD⟩ (fun i H' _ ⟨_, s⟩ => ⟨SqT.of (s _ _ e4), SqT.of (s _ _ e3)⟩) ?_ ?_⟩⟩
          · rintro i x H4 H5 hi ⟨h4, s4⟩ ⟨T, y, z, rfl, hT, rfl, hy, hz⟩
            have i1 : i < ns.length := by omega
            have i2 : i + 1 < ns.length := by omega
            have g1 : y = .int ns[i] := by
              have w : (ns.map V.int)[i]? = some y := hy
              rw [List.getElem?_map, List.getElem?_eq_getElem i1] at w
              exact (Option.some.inj w).symm
            have g2 : z = .int ns[i + 1] := by
              have w : ((ns.drop 1).map V.int)[i]? = some z := hz
              rw [List.getElem?_map, List.getElem?_drop, Nat.add_comm 1 i, List.getElem?_eq_getElem i2] at w
              exact (Option.some.inj w).symm
            subst g1 g2
            have ez : (List.zip ns (ns.drop 1))[i]? = some (ns[i], ns[i + 1]) := by
              rw [List.getElem?_zip_eq_some]
              refine ⟨List.getElem?_eq_getElem i1, ?_⟩
              rw [List.getElem?_drop, Nat.add_comm 1 i, List.getElem?_eq_getElem i2]
            have sT := same_new (o := .tup [.int ns[i], .int ns[i + 1]]) hT
            refine ⟨T, _, rfl, SqT.of upd_same, rfl, _, _, rfl, _, _, rfl, rfl, rfl, yesT ?_⟩
            refine ⟨_, rfl, _, rfl, _, _, rfl, rfl, _, sT _ _ h4, ?_, ?_, fun b o e => ?_⟩
            · have := take_len (f := fun p : Int × Int => V.bl (decide (p.1 ≤ p.2))) (xs := List.zip ns (ns.drop 1)) (i := i)
              rw [List.length_zip] at this
              rw [sizeLine_eq]
              omega
            · rw [upd_same]
              have := take_snoc (f := fun p : Int × Int => V.bl (decide (p.1 ≤ p.2))) ez
              rw [← this]
            · rw [upd_ne (ne_of_none e hD)]
              exact sT _ _ (s4 _ _ e)
          · rintro H4 ⟨h4, s4⟩
            have el : (List.zip ns (ns.drop 1)).length = n := by
              rw [List.length_zip, List.length_drop]
              omega
            rw [List.take_of_length_le (by omega)] at h4
            refine ⟨D, (List.zip ns (ns.drop 1)).map fun p => decide (p.1 ≤ p.2), rfl, ?_, ?_⟩
            · rw [List.map_map]
              exact SqL.of h4
            · rw [pl, ← eok]
              exact q _ (s2.trans (s3.trans s4))

def sp_check_form (cP : Addr) : Sp := fun vs H Q E => ∃ (x : V) (o : Option (List V)), vs = [x] ∧ Tp H x o ∧ short o ∧ AllPV H o ∧ (okF o = false → ∀ H', Same H H' → E (.ref cP) none H') ∧ (okF o = true → ∀ H', Same H H' → Q .non H')
theorem ok_check_form (M : Mod P w K mg base) : FnOk P w K mg base (L2.CX P w) 5 M.f_check_form M.d_check_form ["form"] (sp_check_form M.a_BadForm) := by
  refine M.F_check_form.ok sc_check_form (fun vs H Q E h => ?_) (fun cdv A outer s H vs Q E hr h => ?_)
  · obtain ⟨x, o, rfl, _⟩ := h
    rfl
  · obtain ⟨x, o, rfl, hx, hs, hp, q1, q2⟩ := h
    refine ⟨_, (pss_one (ps_if (pt_not (pt_val (pe_call (ok_is_form M) (hr.mono (by decide)) rfl M.g_is_form M.k_is_form M.b_is_form .nil pass0 (pa_cons (pv 0) pa_nil)))) 
        (pss_one (ps_raise rfl (takes_of rfl rfl rfl rfl) (pmk_own PySem.F.excBase_ValueError M.E_BadForm.x M.g_BadForm M.E_BadForm.k (raises_own M.E_BadForm.b M.E_BadForm.t) rfl))) pss_nil)), ?_⟩
    refine ⟨_, rfl, x, o, rfl, hx, hs, hp, fun H1 s1 => ⟨_, rfl, ?_⟩⟩
    cases hk : okF o with
    | true => exact iteF (q2 hk H1 s1)
    | false => exact iteT (q1 hk H1 s1)

end
end K63

set_option Elab.async false
set_option linter.all false
set_option maxRecDepth 100000
set_option maxHeartbeats 4000000
set_option pp.maxSteps 3000
set_option exponentiation.threshold 500000
namespace K63
open PySem PySem.Spec PyProof.Rows L2 Dr Xv LamX Ps Gn Fm
section
variable {P : Program} {w : World} {K : PySem.W.Frag} {mg : Str → Option Value} {base : Heap}
def sp__with_square : Sp := fun vs H Q _ => ∃ (r : Addr) (f : S) (a N : Nat), vs = [.ref r, .int (a : Int)] ∧ H r = some (.lst (rowOf N f)) ∧ 1 ≤ N ∧ N ≤ 121 ∧ 1 ≤ a ∧ a ≤ 90 ∧ (∀ i, i ≤ 120 → (f i).natAbs ≤ 22 ^ 11) ∧
  ∀ (p : Addr) (H' : Hp), H p = none → Same H H' → H' p = some (.lst (rowOf N (cv f (Th.th a)))) → Q (.ref p) H'
theorem ok__with_square (M : Mod P w K mg base) : FnOk P w K mg base CX0 1 M.f__with_square M.d__with_square ["row", "a"] sp__with_square := by
  refine M.F__with_square.ok sc__with_square (fun vs H Q E h => ?_) (fun cdv A outer s H vs Q E hr h => ?_)
  · obtain ⟨r, f, a, N, rfl, _⟩ := h
    rfl
  · obtain ⟨r, f, a, N, rfl, er, N1, N2, a1, a2, hb, q⟩ := h
    refine ⟨_, PSs.nox (pss_cons (ps_set (i := 2) sc__with_square.nd rfl (Or.inl rfl) (pe_callTy call_list_of (by rfl) M.list0 (by decide +kernel) (pa_cons (pv 0) pa_nil)))
      (pss_cons (ps_for PassesOwn.never rfl (pi_range2 (by rfl) M.range0 (pa_cons pe_int (pa_cons (pe_op op_add (pe_callBfun cr_isqrt rfl M.i_isqrt (pa_cons (pe_op op_fdivB (pe_op op_sub (pe_callB call_len (by rfl) M.len0 PySem.boot_len (pa_cons (pv 0) pa_nil)) pe_int) (pv 1)) pa_nil)) pe_int) pa_nil))) (pg_name (i := 3) sc__with_square.nd rfl (Or.inl rfl)) 
        (pss_cons (ps_set (i := 4) sc__with_square.nd rfl (Or.inl rfl) (pe_op op_mul (pe_op op_mul (pv 1) (pv 3)) (pv 3)))
        (pss_one (ps_for PassesOwn.never rfl (pi_range2 (by rfl) M.range0 (pa_cons (pv 4) (pa_cons (pe_callB call_len (by rfl) M.len0 PySem.boot_len (pa_cons (pv 0) pa_nil)) pa_nil))) (pg_name (i := 5) sc__with_square.nd rfl (Or.inl rfl)) 
          (pss_one (ps_augS (pv 2) (pv 5) get_list (pe_op op_mul pe_int (pe_ix ix_list (pv 0) (pe_op op_sub (pv 5) (pv 4)) (fun _ _ => rfl))) ip_add set_list))))))
      (pss_one (ps_ret (pv 2))))), ?_⟩
    have hB : (22 : Nat) ^ 11 = 584318301411328 := by decide
    have fB : ∀ i, i ≤ 120 → (f i).natAbs ≤ 584318301411328 := fun i hi => by
      rw [← hB]
      exact hb i hi
    have cB : ∀ y n, y ≤ 11 → n ≤ 120 → (cv f (Th.thp a y) n).natAbs ≤ 22 * 584318301411328 := fun y n hy hn => by
      refine Nat.le_trans (Th.cv_bound a (fun i hi => fB i (by omega)) y) (Nat.mul_le_mul_right _ (by omega))
    refine ⟨_, rfl, r, _, rfl, .inl (SqL.of er), fun D hD => ?_⟩
    have s1 := same_new (o := .lst (rowOf N f)) hD
    have e1 := s1 _ _ er
    have eD : (upd H D (.lst (rowOf N f))) D = some (.lst (rowOf N (cv f (Th.thp a 1)))) := by
      rw [upd_same]
      congr 2
      exact row_ext fun k _ => (Th.cv_first f a k).symm
    have nD : r ≠ D := ne_of_none er hD
    generalize upd H D (.lst (rowOf N f)) = H1 at s1 e1 eD ⊢
    have fv : ((N : Int) - 1).fdiv (a : Int) = (((N - 1) / a : Nat) : Int) := by
      rw [show (N : Int) - 1 = ((N - 1 : Nat) : Int) by omega, Int.fdiv_eq_ediv_of_nonneg _ (by omega)]
      exact (Int.natCast_ediv _ a).symm
    have q1 : (N - 1) / a ≤ 120 := Nat.le_trans (Nat.div_le_self _ _) (by omega)
    have ln : ((rowOf N f).length : Int) = (N : Int) := by rw [row_len]
    refine ⟨_, rfl, _, _, rfl, .inl ⟨_, SqL.of e1, rfl⟩, _, _, rfl, rfl, _, rfl, _, _, rfl, rfl, ?_, (N - 1) / a, by
      show [V.int ((((rowOf N f).length : Int) - 1).fdiv (a : Int))] = _
      rw [ln, fv], by omega, fun y y1 y2 => ?_⟩
    · exact ⟨by omega, log_small2 (by omega)⟩
    have y10 : y ≤ 10 := by
      by_cases c : y ≤ 10
      · exact c
      · have := Nat.mul_le_mul (show 11 ≤ y by omega) (show 11 ≤ y by omega)
        omega
    have fin : ∀ n, n < N → n < a * (y + 1) * (y + 1) := fun n hn => by
      have h1 : (N - 1) / a + 1 ≤ (y + 1) * (y + 1) := y2
      have h2 := Nat.lt_mul_div_succ (N - 1) (show 0 < a by omega)
      have h3 : a * ((N - 1) / a + 1) ≤ a * ((y + 1) * (y + 1)) := Nat.mul_le_mul_left _ h1
      rw [← Nat.mul_assoc] at h3
      omega
    refine ⟨_, _, rfl, rfl, 1, _, rfl, ⟨by decide, by decide, by omega, by omega⟩, ?_⟩
    refine for_range (lo := 1) (n := ((y : Int) + 1 - 1).toNat) (fun i σ H' => ∃ x3 x4 x5, σ = [some (.ref r), some (.int (a : Int)), some (.ref D), x3, x4, x5] ∧ H' r = some (.lst (rowOf N f)) ∧ H' D = some (.lst (rowOf N (cv f (Th.thp a (i + 1))))) ∧ SameO D H1 H') ⟨_, _, _, rfl, e1, eD, SameO.refl⟩ ?_ ?_
    · rintro i σ H2 hi ⟨x3, x4, x5, rfl, g1, g2, so⟩
      have hi2 : i < y := by omega
      obtain ⟨x, ex⟩ : ∃ x, x = i + 1 := ⟨_, rfl⟩
      have ec : (1 + (i : Int)) = (x : Int) := by omega
      rw [ec]
      obtain ⟨st, est⟩ : ∃ st, st = a * x * x := ⟨_, rfl⟩
      have st1 : st ≤ 90 * 10 * 10 := by
        rw [est]
        exact Nat.mul_le_mul (Nat.mul_le_mul a2 (by omega)) (by omega)
      have m1 : a * x ≤ 90 * 10 := Nat.mul_le_mul a2 (by omega)
      have em1 : (a : Int) * (x : Int) = ((a * x : Nat) : Int) := (Int.natCast_mul a x).symm
      have em2 : (a : Int) * (x : Int) * (x : Int) = (st : Int) := by
        rw [est, Int.natCast_mul, Int.natCast_mul]
      refine ⟨_, rfl, _, rfl, _, _, rfl, rfl, .inl ⟨by omega, by omega⟩, _, rfl, _, _, rfl, rfl, .inl ⟨by omega, by omega⟩, ?_⟩
      simp only [em2]
      refine ⟨_, rfl, _, rfl, _, _, rfl, .inl ⟨_, SqL.of g1, rfl⟩, ?_⟩
      rw [ln]
      refine ⟨_, _, rfl, ⟨by omega, by omega, by omega, by omega⟩, ?_⟩
      refine for_range (lo := (st : Int)) (n := ((N : Int) - (st : Int)).toNat) (fun j σ H' => ∃ x5, σ = [some (.ref r), some (.int (a : Int)), some (.ref D), some (.int (x : Int)), some (.int (st : Int)), x5] ∧ H' r = some (.lst (rowOf N f)) ∧ H' D = some (.lst (rowOf N fun k => cv f (Th.thp a x) k + (if st ≤ k ∧ k < st + j then 2 * f (k - st) else 0))) ∧ SameO D H1 H') ⟨_, rfl, g1, ?_, so⟩ ?_ ?_
      · rw [g2, ← ex]
        congr 2
        refine row_ext fun k _ => ?_
        rw [if_neg (by omega), Int.add_zero]
      · rintro j σ H3 hj ⟨x5, rfl, h1, h2, so3⟩
        obtain ⟨n, en⟩ : ∃ n, n = st + j := ⟨_, rfl⟩
        have e1 : (st : Int) + (j : Int) = (n : Int) := by omega
        have nN : n < N := by omega
        have e2 : (n : Int) - (st : Int) = ((n - st : Nat) : Int) := by omega
        have b1 := fB (n - st) (by omega)
        rw [e1]
        refine ⟨_, rfl, _, rfl, D, _, _, _, rfl, rfl, SqL.of h2, row_val nN, _, rfl, _, rfl, _, rfl, _, _, rfl, rfl, ?_⟩
        simp only [e2]
        refine ⟨r, _, _, _, rfl, rfl, SqL.of h1, row_val (by omega), _, _, rfl, rfl, .inl ⟨by omega, by omega⟩, _, _, rfl, rfl, D, _, _, _, rfl, rfl, h2, row_at nN, _, rfl, ?_, ?_, so3.trans .put⟩
        · rw [upd_ne nD]
          exact h1
        · rw [upd_same]
          congr 2
          refine row_set nN ?_ fun k hk hne => ?_
          · show _ + (if st ≤ n ∧ n < st + (j + 1) then 2 * f (n - st) else 0) = _ + (if st ≤ n ∧ n < st + j then _ else 0) + _
            rw [if_pos (by omega), if_neg (by omega), Int.add_zero]
          · show _ + (if st ≤ k ∧ k < st + (j + 1) then _ else 0) = _ + (if st ≤ k ∧ k < st + j then _ else 0)
            by_cases c : st ≤ k ∧ k < st + j
            · rw [if_pos c, if_pos (by omega)]
            · rw [if_neg c, if_neg (by omega)]
      · rintro σ H3 ⟨x5, rfl, h1, h2, so3⟩
        refine ⟨_, _, _, rfl, h1, ?_, so3⟩
        rw [h2]
        congr 2
        refine row_ext fun k hk => ?_
        rw [ex, Th.cv_next]
        rw [ex] at est
        rw [← est]
        by_cases c : st ≤ k
        · rw [if_pos ⟨c, by omega⟩, if_pos c]
        · rw [if_neg (fun z => c z.1), if_neg c]
    · rintro σ H2 ⟨x3, x4, x5, rfl, g1, g2, so⟩
      have ey : ((y : Int) + 1 - 1).toNat = y := by omega
      rw [ey] at g2
      refine ⟨_, rfl, q D H2 hD (so.back s1 hD) ?_⟩
      rw [g2]
      congr 2
      exact row_ext fun n hn => Th.cv_enough a1 (fin n hn)

end
end K63

set_option Elab.async false
set_option linter.all false
set_option maxRecDepth 100000
set_option maxHeartbeats 4000000
set_option pp.maxSteps 3000
set_option exponentiation.threshold 500000
namespace K63
open PySem PySem.Spec PyProof.Rows L2 Dr Xv LamX Ps Gn Fm
section
variable {P : Program} {w : World} {K : PySem.W.Frag} {mg : Str → Option Value} {base : Heap}
def fV (form : List Nat) : List V := form.map fun a : Nat => V.int (a : Int)
structure Fo (form : List Nat) : Prop where
  l1 : 1 ≤ form.length
  l2 : form.length ≤ 12
  a1 : ∀ a ∈ form, 1 ≤ a
  a2 : ∀ a ∈ form, a ≤ 90
theorem fV_at {form : List Nat} {i : Nat} {x : V} (h : (fV form)[i]? = some x) : ∃ a, form[i]? = some a ∧ x = .int (a : Int) := by
  unfold fV at h
  rw [List.getElem?_map] at h
  cases e : form[i]? with
  | none =>
    rw [e] at h
    cases h
  | some a =>
    rw [e] at h
    exact ⟨a, rfl, (Option.some.inj h).symm⟩
theorem fV_inj {f g : List Nat} (h : fV f = fV g) : f = g := by
  have k : ∀ f : List Nat, (fV f).map (fun v => match v with | .int z => z.toNat | _ => 0) = f := fun f => by
    unfold fV
    rw [List.map_map]
    conv => rhs; rw [← List.map_id f]
    exact List.map_congr_left fun a _ => Int.toNat_natCast a
  rw [← k f, h, k g]
theorem okF_form {o : Option (List V)} (h : okF o = true) : ∃ form, o = some (fV form) ∧ Fo form := by
  cases o with
  | none => cases h
  | some xs =>
    have h' : (xs.all isNum && isFm (numsV xs)) = true := h
    rw [Bool.and_eq_true] at h'
    obtain ⟨ns, rfl⟩ := nums_of (xs := xs) h'.1
    have h2 := h'.2
    rw [numsV_map] at h2
    unfold isFm at h2
    rw [Bool.and_eq_true, Bool.and_eq_true, decide_eq_true_eq] at h2
    obtain ⟨⟨l, sm⟩, _⟩ := h2
    have b : ∀ x ∈ ns, 1 ≤ x ∧ x ≤ 90 := fun x hx => by
      unfold Pt.small at sm
      have := List.all_eq_true.mp sm x hx
      rw [Bool.and_eq_true, decide_eq_true_eq, decide_eq_true_eq] at this
      exact this
    refine ⟨ns.map Int.toNat, ?_, ?_, ?_, ?_, ?_⟩
    · congr 1
      unfold fV
      rw [List.map_map]
      refine List.map_congr_left fun x hx => ?_
      show V.int x = V.int ((x.toNat : Nat) : Int)
      have := b x hx
      rw [Int.toNat_of_nonneg (by omega)]
    · rw [List.length_map]
      exact l.1
    · rw [List.length_map]
      exact l.2
    · intro a ha
      obtain ⟨x, hx, rfl⟩ := List.mem_map.mp ha
      have := b x hx
      omega
    · intro a ha
      obtain ⟨x, hx, rfl⟩ := List.mem_map.mp ha
      have := b x hx
      omega
def sp_form_row (cF cM : Addr) : Sp := fun vs H Q E => ∃ (x y : V) (o : Option (List V)), vs = [x, y] ∧ Tp H x o ∧ short o ∧ AllPV H o ∧ PV H y ∧ (okF o = false → ∀ H', Same H H' → E (.ref cF) none H') ∧ (okF o = true → within y 0 3000 = false → ∀ H', Same H H' → E (.ref cM) none H') ∧
  (okF o = true → within y 0 3000 = true → ∃ (form : List Nat) (mo : Nat), o = some (fV form) ∧ y = .int (mo : Int) ∧ mo ≤ 120 ∧ ∀ (p : Addr) (H' : Hp), H p = none → Same H H' → H' p = some (.lst (rowOf (mo + 1) (Th.wy form))) → Q (.ref p) H')
theorem ok_form_row (M : Mod P w K mg base) : FnOk P w K mg base (L2.CX P w) 6 M.f_form_row M.d_form_row ["form", "most"] (sp_form_row M.a_BadForm M.a_BadMost) := by
  refine M.F_form_row.ok sc_form_row (fun vs H Q E h => ?_) (fun cdv A outer s H vs Q E hr h => ?_)
  · obtain ⟨x, y, o, rfl, _⟩ := h
    rfl
  · obtain ⟨x, y, o, rfl, hx, hs, hp, hy, q1, q2, q3⟩ := h
    refine ⟨_, (pss_cons (ps_expr (pe_call (ok_check_form M) (hr.mono (by decide)) rfl M.g_check_form M.k_check_form M.b_check_form .nil (passes_call (takes_of rfl rfl rfl rfl) (fun _ _ _ _ h => h)) (pa_cons (pv 0) pa_nil)))
      (pss_cons (ps_expr (pe_call (ok_check_most M) (hr.mono (by decide)) rfl M.g_check_most M.k_check_most M.b_check_most .nil (passes_call (takes_of rfl rfl rfl rfl) (fun _ _ _ _ h => h)) (pa_cons (pv 1) pa_nil)))
      (PSs.nox 
      (pss_cons (ps_set (i := 2) sc_form_row.nd rfl (Or.inl rfl) (pe_op op_cat (pe_lst (pa_cons pe_int pa_nil)) (pe_op op_rep (pe_lst (pa_cons pe_int pa_nil)) (pv 1))))
      (pss_cons (ps_for PassesOwn.never rfl (pi_tup (pv 0)) (pg_name (i := 3) sc_form_row.nd rfl (Or.inl rfl)) 
        (pss_one (ps_set (i := 2) sc_form_row.nd rfl (Or.inl rfl) (pe_call (ok__with_square M) (hr.mono (by decide)) rfl M.g__with_square M.k__with_square M.b__with_square .nil pass0 (pa_cons (pv 2) (pa_cons (pv 3) pa_nil))))))
      (pss_one (ps_ret (pv 2)))))))), ?_⟩
    refine ⟨_, rfl, x, o, rfl, hx, hs, hp, fun hk H1 s1 => q1 hk H1 s1, fun hk H1 s1 => ?_⟩
    refine ⟨_, rfl, y, rfl, hy.same s1, fun hw => ?_, fun hw => q2 hk hw H1 s1⟩
    obtain ⟨form, mo, rfl, rfl, hm, q⟩ := q3 hk hw
    obtain ⟨form', ef, F⟩ := okF_form hk
    cases fV_inj (Option.some.inj ef)
    obtain ⟨a, rfl, ea⟩ := hx.ref
    refine ⟨(by show 1 ≤ sizeLine; decide), fun p1 h1 => ?_⟩
    refine ⟨(by show 1 ≤ sizeLine; decide), fun p2 h2 => ?_⟩
    refine ⟨_, rfl, p2, _, _, rfl, rfl, upd_same, by omega, by omega, ?_, fun p3 h3 => ?_⟩
    · show 1 * _ ≤ sizeLine
      rw [sizeLine_eq]
      omega
    have n1 := ne_of_none (upd_same (H := H1) (a := p1) (o := .lst [V.int 1])) h2
    have s2 := same_new (o := .lst [V.int 0]) h2
    have s3 := same_new (o := .lst (List.replicate ((mo : Nat) : Int).toNat [V.int 0]).flatten) h3
    have g1 := s3 _ _ (s2 _ _ (upd_same (H := H1) (a := p1) (o := .lst [V.int 1])))
    refine ⟨p1, p3, _, _, rfl, rfl, g1, upd_same, ?_, fun p4 h4 => ?_⟩
    · rw [rep1, List.length_replicate]
      show 1 + _ ≤ sizeLine
      rw [sizeLine_eq]
      omega
    have s14 := ((same_new (o := .lst [V.int 1]) h1).trans (s2.trans s3)).trans (same_new (o := .lst ([V.int 1] ++ (List.replicate ((mo : Nat) : Int).toNat [V.int 0]).flatten)) h4)
    have hp4 : H p4 = none := s1.free (((same_new (o := .lst [V.int 1]) h1).trans (s2.trans s3)).free h4)
    have e4 : (upd (upd (upd (upd H1 p1 (HO.lst [V.int 1])) p2 (HO.lst [V.int 0])) p3 (HO.lst (List.replicate ((mo : Nat) : Int).toNat [V.int 0]).flatten)) p4 (.lst ([V.int 1] ++ (List.replicate ((mo : Nat) : Int).toNat [V.int 0]).flatten))) p4 = some (.lst (rowOf (mo + 1) (Th.wy (form.take 0)))) := by
      rw [upd_same, rep1, Int.toNat_natCast]
      congr 2
      show [V.int 1] ++ List.replicate mo (V.int 0) = rowOf (mo + 1) one
      have z : rowOf mo (fun k => one (k + 1)) = List.replicate mo (V.int 0) := row_zero (fun k _ => rfl)
      rw [← z]
      unfold Gn.rowOf
      rw [List.range_succ_eq_map, List.map_cons, List.map_cons, List.map_map, List.map_map, List.map_map]
      rfl
    generalize upd (upd (upd (upd H1 p1 (HO.lst [V.int 1])) p2 (HO.lst [V.int 0])) p3 (HO.lst (List.replicate ((mo : Nat) : Int).toNat [V.int 0]).flatten)) p4 (.lst ([V.int 1] ++ (List.replicate ((mo : Nat) : Int).toNat [V.int 0]).flatten)) = H4 at s14 e4 ⊢
    have sH := s1.trans s14
    have eF := sH _ _ ea
    clear g1 s2 s3 n1 h1 h2 h3 h4
    refine ⟨_, rfl, a, rfl, ⟨_, SqT.of eF⟩, for_tup (K := K) (a := a) (xs := fV form) (fun i σ H' => ∃ (x : Option V) (r : Addr), σ = [some (.ref a), some (.int (mo : Int)), some (.ref r), x] ∧ Same H H' ∧ H r = none ∧ H' r = some (.lst (rowOf (mo + 1) (Th.wy (form.take i))))) ⟨_, p4, rfl, sH, hp4, e4⟩ (fun i σ H' _ ⟨_, _, _, s, _⟩ => SqT.of (s _ _ ea)) ?_ ?_⟩
    · rintro i x σ H5 hi ⟨x3, r, rfl, s5, hr5, e5⟩
      obtain ⟨b, hb, rfl⟩ := fV_at hi
      have bm := List.mem_of_getElem? hb
      have il := (List.getElem?_eq_some_iff.mp hb).1
      have et : form.take (i + 1) = form.take i ++ [b] := by
        rw [List.take_succ, hb]
        rfl
      refine ⟨_, rfl, _, rfl, r, _, b, mo + 1, rfl, e5, by omega, by omega, F.a1 b bm, F.a2 b bm, fun k hk => ?_, fun p H6 hp6 s6 e6 => ?_⟩
      · refine Nat.le_trans (Th.wy_bound (fun c hc => F.a1 c (List.mem_of_mem_take hc)) k hk) (Nat.pow_le_pow_right (by decide) ?_)
        have := F.l2
        rw [List.length_take]
        omega
      · refine ⟨_, p, rfl, s5.trans s6, s5.free hp6, ?_⟩
        rw [e6, et, Th.wy_snoc]
    · rintro σ H5 ⟨x3, r, rfl, s5, hr5, e5⟩
      have el : (fV form).length = form.length := List.length_map _
      rw [el, List.take_length] at e5
      exact ⟨_, rfl, q r H5 hr5 s5 e5⟩
def gapN (f : S) (m : Nat) : List Nat := ((List.range m).filter fun j => decide (f (j + 1) = 0)).map (· + 1)
def gaps (f : S) (m : Nat) : List Int := (gapN f m).map fun j : Nat => (j : Int)
theorem gaps_succ (f : S) (m : Nat) : gaps f (m + 1) = gaps f m ++ if f (m + 1) = 0 then [((m + 1 : Nat) : Int)] else [] := by
  unfold gaps gapN
  rw [List.range_succ, List.filter_append, List.map_append, List.map_append]
  congr 1
  by_cases c : f (m + 1) = 0
  · rw [if_pos c, List.filter_cons_of_pos (by simpa using c)]
    rfl
  · rw [if_neg c, List.filter_cons_of_neg (by simpa using c)]
    rfl
theorem gaps_len (f : S) (m : Nat) : (gaps f m).length ≤ m := by
  unfold gaps gapN
  rw [List.length_map, List.length_map]
  exact Nat.le_trans (List.length_filter_le _ _) (by rw [List.length_range]; exact Nat.le_refl _)
def sp_gaps_of (cF cM : Addr) : Sp := fun vs H Q E => ∃ (x y : V) (o : Option (List V)), vs = [x, y] ∧ Tp H x o ∧ short o ∧ AllPV H o ∧ PV H y ∧ (okF o = false → ∀ H', Same H H' → E (.ref cF) none H') ∧ (okF o = true → within y 0 3000 = false → ∀ H', Same H H' → E (.ref cM) none H') ∧
  (okF o = true → within y 0 3000 = true → ∃ (form : List Nat) (mo : Nat), o = some (fV form) ∧ y = .int (mo : Int) ∧ mo ≤ 120 ∧ ∀ (p : Addr) (H' : Hp), H p = none → Same H H' → H' p = some (.lst ((gaps (Th.wy form) mo).map V.int)) → Q (.ref p) H')
theorem ok_gaps_of (M : Mod P w K mg base) : FnOk P w K mg base (L2.CX P w) 7 M.f_gaps_of M.d_gaps_of ["form", "most"] (sp_gaps_of M.a_BadForm M.a_BadMost) := by
  refine M.F_gaps_of.ok sc_gaps_of (fun vs H Q E h => ?_) (fun cdv A outer s H vs Q E hr h => ?_)
  · obtain ⟨x, y, o, rfl, _⟩ := h
    rfl
  · obtain ⟨x, y, o, rfl, hx, hs, hp, hy, q1, q2, q3⟩ := h
    refine ⟨_, (pss_cons (ps_set (i := 2) sc_gaps_of.nd rfl (Or.inr rfl) (pe_call (ok_form_row M) (hr.mono (by decide)) rfl M.g_form_row M.k_form_row M.b_form_row .nil (passes_call (takes_of rfl rfl rfl rfl) (fun _ _ _ _ h => h)) (pa_cons (pv 0) (pa_cons (pv 1) pa_nil))))
      (PSs.nox 
      (pss_one (ps_ret (pe_lc (own := [("n", 3)]) (g := (gName 3)) (by rfl) sc_gaps_of.nd (pi_range2 (by rfl) M.range0 (pa_cons pe_int (pa_cons (pe_op op_add (pv 1) pe_int) pa_nil))) (blkOk_by (own := [("n", 3)]) (N := N_gaps_of) (sc := defScope s_gaps_of) (by decide +kernel))
        (fun _ _ _ _ _ => (pg_name (i := 3) sc_gaps_of.nd rfl (Or.inl rfl))) (fun _ _ _ _ _ => (pts_one (pt_cmpR op_eq (pe_ix (r := rIxL K) ix_list (pv 2) (pv 3) (fun _ _ => rfl)) pe_int (nomark _)))) (fun _ _ _ _ _ => (pv 3))))))), ?_⟩
    refine ⟨_, rfl, _, rfl, x, y, o, rfl, hx, hs, hp, hy, q1, q2, fun hk hw => ?_⟩
    obtain ⟨form, mo, rfl, rfl, hm, q⟩ := q3 hk hw
    refine ⟨form, mo, rfl, rfl, hm, fun r H1 hr s1 e1 => ?_⟩
    refine ⟨_, rfl, _, _, rfl, rfl, _, _, rfl, ⟨by decide, by decide, by omega, by omega⟩, fun D hD => ?_⟩
    refine lc_range (lo := 1) (n := (((mo : Nat) : Int) + 1 - 1).toNat) (fun j H' => H' D = some (.lst ((gaps (Th.wy form) j).map V.int)) ∧ Same H1 H') ⟨upd_same, same_new hD⟩ ?_ ?_
    · rintro j H2 hj ⟨h2, s2⟩
      have ej : (1 : Int) + (j : Int) = ((j + 1 : Nat) : Int) := by omega
      rw [ej]
      refine ⟨rfl, _, rfl, _, rfl, r, _, _, _, rfl, rfl, SqL.of (s2 _ _ e1), row_val (by omega), rfl, _, rfl, ?_⟩
      by_cases c : Th.wy form (j + 1) = 0
      · refine iteT' (decide_eq_true (congrArg V.int c)) ?_
        refine ⟨_, rfl, _, h2, ?_, ?_, fun b o e => by rw [upd_ne (ne_of_none e hD)]; exact s2 _ _ e⟩
        · rw [List.length_map, sizeLine_eq]
          have := gaps_len (Th.wy form) j
          omega
        · rw [upd_same, gaps_succ, if_pos c, List.map_append]
          rfl
      · refine iteF' (decide_eq_false fun z => c (by injection z)) ⟨?_, s2⟩
        rw [gaps_succ, if_neg c, List.append_nil]
        exact h2
    · rintro H2 ⟨h2, s2⟩
      have e : (((mo : Nat) : Int) + 1 - 1).toNat = mo := by omega
      rw [e] at h2
      exact q D H2 (s1.free hD) (s1.trans s2) h2
def firstV : List Int → V
  | [] => .non
  | g :: _ => .int g
def sp_least_missed (cF : Addr) : Sp := fun vs H Q E => ∃ (x : V) (o : Option (List V)), vs = [x] ∧ Tp H x o ∧ short o ∧ AllPV H o ∧ (okF o = false → ∀ H', Same H H' → E (.ref cF) none H') ∧
  (okF o = true → ∃ form : List Nat, o = some (fV form) ∧ ∀ H' : Hp, Same H H' → Q (firstV (gaps (Th.wy form) 15)) H')
theorem ok_least_missed (M : Mod P w K mg base) : FnOk P w K mg base (L2.CX P w) 8 M.f_least_missed M.d_least_missed ["form"] (sp_least_missed M.a_BadForm) := by
  refine M.F_least_missed.ok sc_least_missed (fun vs H Q E h => ?_) (fun cdv A outer s H vs Q E hr h => ?_)
  · obtain ⟨x, o, rfl, _⟩ := h
    rfl
  · obtain ⟨x, o, rfl, hx, hs, hp, q1, q2⟩ := h
    refine ⟨_, (pss_cons (ps_set (i := 1) sc_least_missed.nd rfl (Or.inl rfl) (pe_call (ok_gaps_of M) (hr.mono (by decide)) rfl M.g_gaps_of M.k_gaps_of M.b_gaps_of .nil (passes_call (takes_of rfl rfl rfl rfl) (fun _ _ _ _ h => h)) (pa_cons (pv 0) (pa_cons (pe_glob (v := .int 15) rfl M.c_LAST_THAT_TELLS ⟨_, rfl⟩) pa_nil))))
      (PSs.nox 
      (pss_one (ps_ret (pe_ifExp (pt_truth (pv 1) (by intro _; rfl)) (pe_ix ix_list (pv 1) pe_int (fun _ _ => rfl)) pe_non))))), ?_⟩
    refine ⟨_, rfl, x, _, o, rfl, hx, hs, hp, .int 15, q1, (fun hk hw => absurd hw (by decide)), fun hk hw => ?_⟩
    obtain ⟨form, rfl, q⟩ := q2 hk
    refine ⟨form, 15, rfl, rfl, by decide, fun r H1 hr s1 e1 => ?_⟩
    have w := q H1 s1
    cases hg : gaps (Th.wy form) 15 with
    | nil =>
      rw [hg] at e1 w
      refine ⟨_, rfl, false, .inl ⟨_, SqL.of e1, rfl⟩, ?_⟩
      exact w
    | cons g gs =>
      rw [hg] at e1 w
      refine ⟨_, rfl, true, .inl ⟨_, SqL.of e1, rfl⟩, ?_⟩
      have w2 : Q (V.int g) H1 := w
      exact ⟨_, rfl, r, _, _, _, rfl, rfl, SqL.of e1, (by
        unfold atI ixN
        rw [if_pos (by decide), if_pos (by simp)]
        rfl : atI (List.map V.int (g :: gs)) 0 = some (V.int g)), w2⟩

end
end K63

set_option Elab.async false
set_option linter.all false
set_option maxRecDepth 100000
set_option maxHeartbeats 4000000
set_option pp.maxSteps 3000
set_option exponentiation.threshold 500000
namespace K63
open PySem PySem.Spec PyProof.Rows L2 Dr Xv LamX Ps Gn Fm
section
variable {P : Program} {w : World} {K : PySem.W.Frag} {mg : Str → Option Value} {base : Heap}
theorem lcm360 {ns : List Int} (h : ∀ x ∈ ns, 1 ≤ x ∧ x ≤ ((360 : Nat) : Int)) (hl : ns.length ≤ 12) : lcmL ns < 2 ^ 200 := by
  have h1 := lcmL_le h
  have h2 : 360 ^ ns.length ≤ 360 ^ 12 := Nat.pow_le_pow_right (by decide) hl
  have h3 : (360 : Nat) ^ 12 < 2 ^ 200 := by decide
  omega
def sp_lcm_of : Sp := fun vs H Q _ => ∃ (a : Addr) (ns : List Int), vs = [.ref a] ∧ H a = some (.lst (ns.map V.int)) ∧ (∀ x ∈ ns, 1 ≤ x ∧ x ≤ ((360 : Nat) : Int)) ∧ ns.length ≤ 12 ∧ Q (.int (lcmL ns : Int)) H
theorem ok_lcm_of (M : Mod P w K mg base) : FnOk P w K mg base CX0 1 M.f_lcm_of M.d_lcm_of ["numbers"] sp_lcm_of := by
  refine M.F_lcm_of.ok sc_lcm_of (fun vs H Q E h => ?_) (fun cdv A outer s H vs Q E hr h => ?_)
  · obtain ⟨a, ns, rfl, _⟩ := h
    rfl
  · obtain ⟨a, ns, rfl, e, hb, hl, q⟩ := h
    refine ⟨_, PSs.nox (pss_cons (ps_set (i := 1) sc_lcm_of.nd rfl (Or.inl rfl) pe_int)
      (pss_cons (ps_for PassesOwn.never rfl (pi_list (pv 0)) (pg_name (i := 2) sc_lcm_of.nd rfl (Or.inl rfl)) 
        (pss_one (ps_set (i := 1) sc_lcm_of.nd rfl (Or.inl rfl) (pe_callBfun cr_lcmW rfl M.i_lcm (pa_cons (pv 1) (pa_cons (pv 2) pa_nil))))))
      (pss_one (ps_ret (pv 1))))), ?_⟩
    refine ⟨_, rfl, a, rfl, ⟨_, SqL.of e⟩, for_list (K := K) (a := a) (xs := ns.map V.int) (fun i σ H' => ∃ x, σ = [some (.ref a), some (.int (lcmL (ns.take i) : Int)), x] ∧ H' = H) ⟨_, rfl, rfl⟩ (fun i σ H' _ ⟨_, _, z⟩ => by rw [z]; exact SqL.of e) ?_ ?_⟩
    · rintro i x σ H1 hi ⟨x2, rfl, rfl⟩
      obtain ⟨z, hz, rfl⟩ := int_at hi
      have zb := hb z (List.mem_of_getElem? hz)
      have et : ns.take (i + 1) = ns.take i ++ [z] := by
        rw [List.take_succ, hz]
        rfl
      have h1 := lcm360 (ns := ns.take i) (fun x hx => hb x (List.mem_of_mem_take hx)) (by rw [List.length_take]; omega)
      refine ⟨_, rfl, _, rfl, lcmL (ns.take i), z.natAbs, ?_, h1, ?_, some (.int z), ?_, rfl⟩
      · have e2 : ((z.natAbs : Nat) : Int) = z := by omega
        rw [e2]
      · have h3 : (361 : Nat) < 2 ^ 200 := by decide
        have h4 : z.natAbs ≤ 361 := by omega
        exact Nat.lt_of_le_of_lt h4 h3
      · rw [et, lcmL_snoc]
        rfl
    · rintro σ H1 ⟨x2, rfl, rfl⟩
      rw [List.length_map, List.take_length]
      exact ⟨_, rfl, q⟩
def fours (form : List Nat) : List Int := form.map fun a : Nat => ((4 * a : Nat) : Int)
def lvl (form : List Nat) : Nat := lcmL (fours form)
theorem fours_b {form : List Nat} (F : Fo form) : ∀ x ∈ fours form, 1 ≤ x ∧ x ≤ ((360 : Nat) : Int) := fun x hx => by
  obtain ⟨a, ha, rfl⟩ := List.mem_map.mp hx
  have h1 := F.a1 a ha
  have h2 := F.a2 a ha
  omega
theorem fours_len (form : List Nat) : (fours form).length = form.length := List.length_map _
def sp_has_level : Sp := fun vs H Q _ => ∃ (a : Addr) (form : List Nat), vs = [.ref a] ∧ H a = some (.tup (fV form)) ∧ Fo form ∧ ∀ H', Same H H' → Q (.bl (decide (lvl form ≤ 360))) H'
theorem ok_has_level (M : Mod P w K mg base) : FnOk P w K mg base CX0 2 M.f_has_level M.d_has_level ["form"] sp_has_level := by
  refine M.F_has_level.ok sc_has_level (fun vs H Q E h => ?_) (fun cdv A outer s H vs Q E hr h => ?_)
  · obtain ⟨a, form, rfl, _⟩ := h
    rfl
  · obtain ⟨a, form, rfl, e, F, q⟩ := h
    refine ⟨_, PSs.nox (pss_one (ps_ret (pe_cmpR op_le (pe_call (ok_lcm_of M) (hr.mono (by decide)) rfl M.g_lcm_of M.k_lcm_of M.b_lcm_of .nil pass0 (pa_cons (pe_lc (own := [("a", 1)]) (g := (gName 1)) (by rfl) sc_has_level.nd (pi_tup (pv 0)) (blkOk_by (own := [("a", 1)]) (N := N_has_level) (sc := defScope s_has_level) (by decide +kernel))
        (fun _ _ _ _ _ => (pg_name (i := 1) sc_has_level.nd rfl (Or.inl rfl))) (fun _ _ _ _ _ => pts_nil) (fun _ _ _ _ _ => (pe_op op_mul pe_int (pv 1)))) pa_nil)) (pe_glob (v := .int 360) rfl M.c_GREATEST_LEVEL ⟨_, rfl⟩) (nomark _)))), ?_⟩
    have l2 := F.l2
    refine ⟨_, rfl, a, rfl, ⟨_, SqT.of e⟩, fun D hD => lc_tup (K := K) (a := a) (xs := fV form) (fun i H' => H' D = some (.lst ((fours (form.take i)).map V.int)) ∧ Same H H')
      ⟨upd_same, same_new hD⟩ (fun i H' _ ⟨_, s⟩ => SqT.of (s _ _ e)) ?_ ?_⟩
    · rintro i v H' hv ⟨h1, s⟩
      obtain ⟨b, hb, rfl⟩ := fV_at hv
      have e4 : (4 : Int) * (b : Int) = ((4 * b : Nat) : Int) := by omega
      refine ⟨rfl, yesT ⟨_, rfl, _, _, rfl, rfl, .inl ⟨by decide, by decide⟩, ?_⟩⟩
      simp only [e4]
      refine ⟨_, h1, ?_, ?_, ?_⟩
      · rw [List.length_map, fours_len, List.length_take, sizeLine_eq]
        omega
      · have et : form.take (i + 1) = form.take i ++ [b] := by
          rw [List.take_succ, hb]
          rfl
        rw [upd_same, et]
        unfold fours
        rw [List.map_append, List.map_append]
        rfl
      · exact fun b o e => by rw [upd_ne (ne_of_none e hD)]; exact s b o e
    rintro H1 ⟨h1, s1⟩
    have el : (fV form).length = form.length := List.length_map _
    rw [el, List.take_length] at h1
    refine tn <| ⟨D, fours form, rfl, h1, fours_b F, by rw [fours_len]; exact l2, ?_⟩
    have ed : decide (((lvl form : Nat) : Int) ≤ 360) = decide (lvl form ≤ 360) := decide_eq_decide.mpr (by omega)
    refine ⟨_, _, rfl, rfl, ?_⟩
    show Q (V.bl (decide (((lvl form : Nat) : Int) ≤ 360))) H1
    rw [ed]
    exact q H1 s1

end
end K63

set_option Elab.async false
set_option linter.all false
set_option maxRecDepth 100000
set_option maxHeartbeats 4000000
set_option pp.maxSteps 3000
set_option exponentiation.threshold 500000
namespace K63
open PySem PySem.Spec PyProof.Rows L2 Dr Xv LamX Ps Gn Fm
section
variable {P : Program} {w : World} {K : PySem.W.Frag} {mg : Str → Option Value} {base : Heap}
def sp_product_of_quotients : Sp := fun vs H Q _ => ∃ (a b : Addr) (f g : Nat → Int) (m : List Nat), vs = [.ref a, .ref b] ∧ H a = some (.dK (Qm.kvs f (Qm.nz f))) ∧ H b = some (.dK (Qm.kvs g m)) ∧ m.Nodup ∧ m.length ≤ 3 ∧ (∀ d ∈ m, d ≤ 360) ∧ (Qm.nz f).length ≤ 48 ∧
  ∀ (p : Addr) (H' : Hp), H p = none → Same H H' → H' p = some (.dK (Qm.kvs (Qm.hs f g m m.length) (Qm.nz (Qm.hs f g m m.length)))) → Q (.ref p) H'
theorem ok_product_of_quotients (M : Mod P w K mg base) : FnOk P w K mg base CX0 1 M.f_product_of_quotients M.d_product_of_quotients ["one", "other"] sp_product_of_quotients := by
  refine M.F_product_of_quotients.ok sc_product_of_quotients (fun vs H Q E h => ?_) (fun cdv A outer s H vs Q E hr h => ?_)
  · obtain ⟨a, b, f, g, m, rfl, _⟩ := h
    rfl
  · obtain ⟨a, b, f, g, m, rfl, ea, eb, hm, m3, m360, l48, q⟩ := h
    have hu : (A.deeper (envOfC (Str.ofString "product_of_quotients") (defScope s_product_of_quotients) s.heap.objs.size M.f_product_of_quotients cdv)).units + 1 < cLine := by
      have := hu65 hr
      omega
    refine ⟨_, PSs.nox (pss_cons (ps_set (i := 2) sc_product_of_quotients.nd rfl (Or.inr rfl) (pe_lock (pe_dc (own := [("d", 3)]) (g := (gName 3)) (by rfl) sc_product_of_quotients.nd (pi_keys (pv 0)) (blkOk_by (own := [("d", 3)]) (N := N_product_of_quotients) (sc := defScope s_product_of_quotients) (by decide +kernel))
        (fun _ _ _ _ _ => (pg_name (i := 3) sc_product_of_quotients.nd rfl (Or.inl rfl))) (fun _ _ _ _ _ => pts_nil) (fun _ _ _ _ _ => (pv 3)) (fun _ _ _ _ _ => (pe_dget hu (pv 0) (pv 3) (fun _ _ => rfl))))))
      (pss_cons (ps_lock (ps_for PassesOwn.never rfl (pi_items (pv 1)) (pg_tup rfl (pgs_cons (pg_name (i := 3) sc_product_of_quotients.nd rfl (Or.inl rfl)) (pgs_cons (pg_name (i := 4) sc_product_of_quotients.nd rfl (Or.inl rfl)) pgs_nil))) 
        (pss_one (ps_dput hu (pv 2) (pv 3) (pe_op op_add (pe_dget2 hu (pv 2) (pv 3) pe_int ⟨rfl, rfl, rfl, rfl⟩) (pv 4)) rfl))))
      (pss_one (ps_ret (pe_dc (own := [("d", 3)]) (g := (gName 3)) (by rfl) sc_product_of_quotients.nd (pi_list (pe_callB (call_sortedDI rfl) (by rfl) M.sorted0 (by decide +kernel) (pa_cons (pv 2) pa_nil))) (blkOk_by (own := [("d", 3)]) (N := N_product_of_quotients) (sc := defScope s_product_of_quotients) (by decide +kernel))
        (fun _ _ _ _ _ => (pg_name (i := 3) sc_product_of_quotients.nd rfl (Or.inl rfl))) (fun _ _ _ _ _ => (pts_one (pt_cmpR op_ne (pe_dget hu (pv 2) (pv 3) (fun _ _ => rfl)) pe_int (nomark _)))) (fun _ _ _ _ _ => (pv 3)) (fun _ _ _ _ _ => (pe_dget hu (pv 2) (pv 3) (fun _ _ => rfl)))))))), ?_⟩
    obtain ⟨l, el⟩ : ∃ l, l = Qm.nz f := ⟨_, rfl⟩
    have lm : ∀ d, d ∈ l ↔ d < 361 ∧ f d ≠ 0 := fun d => by
      rw [el]
      exact Qm.nz_mem
    have la : l.Pairwise (· < ·) := by
      rw [el]
      exact Qm.nz_asc f
    have ln : l.Nodup := la.imp fun h => Nat.ne_of_lt h
    rw [← el] at ea l48
    refine ⟨a, _, ea, trivial, fun od => ?_⟩
    have e1 : (upd H a (.frz od (.dK (Qm.kvs f l)))) a = some (.frz od (.dK (Qm.kvs f l))) := upd_same
    refine ⟨_, rfl, a, od, rfl, .inl ⟨_, e1, fun D hD => dc_it walk_keys (fun i H' => H' D = some (.dK (Qm.kvs f (l.take i))) ∧ Same (upd H a (.frz od (.dK (Qm.kvs f l)))) H') ⟨upd_same, same_new hD⟩ (fun i H' _ ⟨_, s⟩ => s _ _ e1) ?_ ?_⟩⟩
    · rintro i x H3 H4 hi ⟨h3, s3⟩ ⟨rfl, k, v, ek, rfl⟩
      obtain ⟨c, hc, rfl, rfl⟩ := Qm.kvs_at ek
      have il := (List.getElem?_eq_some_iff.mp hc).1
      have hcl := List.mem_of_getElem? hc
      have gd : DGet H4 a (.int (c : Int)) (some (.int (f c))) := .inl ⟨Qm.kvs f l, .inl (c : Int), .inr ⟨od, s3 _ _ e1⟩, rfl, by rw [Qm.kvs_val, if_pos hcl]⟩
      refine ⟨rfl, yesT ⟨_, rfl, _, rfl, _, rfl, a, _, rfl, gd, _, .inl (c : Int), rfl, h3, ?_, ?_, fun b o ob => ?_⟩⟩
      · rw [Qm.kvs_len, List.length_take, sizeLine_eq]
        omega
      · rw [upd_same, Qm.kvs_put (Qm.not_before ln hc), Qm.take_next hc]
      · rw [upd_ne (ne_of_none ob hD)]
        exact s3 _ _ ob
    rintro H2 ⟨h2, s2⟩
    have nD : D ≠ a := fun z => by
      rw [z, e1] at hD
      cases hD
    have s3 := same_lock ea s2
    have hDn : H D = none := by
      have := hD
      rwa [upd_ne nD] at this
    rw [Qm.kvs_len, List.take_length] at h2
    have e2 : (upd H2 a (.dK (Qm.kvs f l))) D = some (.dK (Qm.kvs (Qm.hs f g m 0) (Qm.ls l m 0))) := by
      rw [upd_ne nD, Qm.hs_zero, Qm.ls_zero]
      exact h2
    refine ⟨s2 _ _ e1, ?_⟩
    generalize upd H2 a (.dK (Qm.kvs f l)) = H3 at s3 e2 ⊢
    clear e1 h2 s2 hD nD
    have eb3 := s3 _ _ eb
    have nb : D ≠ b := (ne_of_none eb hDn).symm
    refine ⟨b, _, eb3, trivial, fun od2 => ?_⟩
    have e3 : (upd H3 b (.frz od2 (.dK (Qm.kvs g m)))) b = some (.frz od2 (.dK (Qm.kvs g m))) := upd_same
    have lsn := fun i => Qm.ls_len l m i
    refine ⟨_, rfl, b, od2, _, rfl, e3, for_it walk_items (fun i σ H' => ∃ x3 x4, σ = [some (.ref a), some (.ref b), some (.ref D), x3, x4] ∧ SameO D (upd H3 b (.frz od2 (.dK (Qm.kvs g m)))) H' ∧ H' D = some (.dK (Qm.kvs (Qm.hs f g m i) (Qm.ls l m i)))) ⟨_, _, rfl, .refl, by rw [upd_ne nb]; exact e2⟩ (fun i σ H' _ ⟨_, _, _, s, _⟩ => s _ _ e3 nb.symm) ?_ ?_⟩
    · rintro i v σ H4 H5 hi ⟨x3, x4, rfl, s4, e4⟩ ⟨T, y1, y2, rfl, hT, rfl, g1, g2⟩
      obtain ⟨c, hc, rfl, rfl⟩ : ∃ c : Nat, m[i]? = some c ∧ y1 = .int (c : Int) ∧ y2 = .int (g c) := by
        have g1' : (Qm.kvs g m)[i]?.map (fun kv => kV kv.1) = some y1 := g1
        have g2' : (Qm.kvs g m)[i]?.map Prod.snd = some y2 := g2
        cases ek : (Qm.kvs g m)[i]? with
        | none =>
          rw [ek] at g1'
          cases g1'
        | some kv =>
          obtain ⟨k, v⟩ := kv
          obtain ⟨c, hc, rfl, rfl⟩ := Qm.kvs_at ek
          rw [ek] at g1' g2'
          cases g1'
          cases g2'
          exact ⟨c, hc, rfl, rfl⟩
      have sT := same_new (o := .tup [.int (c : Int), .int (g c)]) hT
      have e5 := sT _ _ e4
      have s5 : SameO D (upd H3 b (.frz od2 (.dK (Qm.kvs g m)))) (upd H4 T (.tup [.int (c : Int), .int (g c)])) := s4.trans (.of sT)
      refine ⟨T, _, rfl, SqT.of upd_same, rfl, _, _, rfl, _, _, rfl, rfl, ?_⟩
      generalize upd H4 T (.tup [.int (c : Int), .int (g c)]) = H6 at e5 s5 ⊢
      clear e4 s4 sT hT
      have hf : c ∉ l → f c = 0 := fun z => by
        by_cases y : f c = 0
        · exact y
        · have := m360 c (List.mem_of_getElem? hc)
          exact absurd ((lm c).mpr ⟨by omega, y⟩) z
      have lk : (Qm.kvs (Qm.hs f g m i) (Qm.ls l m i)).length < sizeLine := by
        have := lsn i
        rw [Qm.kvs_len, sizeLine_eq]
        omega
      refine ⟨_, rfl, D, rfl, .inl ⟨_, .inl e5⟩, _, rfl, _, DGet.k (k := .inl (c : Int)) e5, _, rfl, _, _, Qm.hs_get hm hc hf, rfl, ?_⟩
      refine ⟨_, rfl, _, rfl, D, _, rfl, DPut.k (k := .inl (c : Int)) e5 lk, ?_⟩
      refine ⟨_, _, rfl, s5.trans .put, ?_⟩
      rw [upd_same, ← Qm.hs_put hm hc]
    rintro σ H4 ⟨x3, x4, rfl, s4, e4⟩
    rw [Qm.kvs_len] at e4
    have s5 : Same H (upd H4 b (.dK (Qm.kvs g m))) := fun b' o e => by
      by_cases z : b' = b
      · subst z
        rw [eb] at e
        rw [upd_same]
        exact e
      · rw [upd_ne z]
        refine s4 _ _ ?_ (ne_of_none e hDn)
        rw [upd_ne z]
        exact s3 _ _ e
    have e5 : (upd H4 b (.dK (Qm.kvs g m))) D = some (.dK (Qm.kvs (Qm.hs f g m m.length) (Qm.ls l m m.length))) := by
      rw [upd_ne nb]
      exact e4
    refine ⟨s4 _ _ e3 nb.symm, ?_⟩
    generalize upd H4 b (.dK (Qm.kvs g m)) = H5 at s5 e5 ⊢
    clear e4 s4 e3 e2 eb3 s3
    have ll := lsn m.length
    have lN := Qm.ls_nodup (m := m) ln hm m.length
    obtain ⟨L, eL⟩ : ∃ L, L = Qm.ls l m m.length := ⟨_, rfl⟩
    obtain ⟨h, eh⟩ : ∃ h, h = Qm.hs f g m m.length := ⟨_, rfl⟩
    have Lz : ∀ {s : List Nat}, s.Pairwise (· < ·) → (∀ d, d ∈ s ↔ d ∈ L) → s.filter (fun c => decide (h c ≠ 0)) = Qm.nz h := fun {s} h1 h2 => by
      rw [eh]
      rw [eL] at h2
      exact Qm.ls_nz lm m360 (Nat.le_refl _) h1 h2
    rw [← eL, ← eh] at e5
    rw [← eL] at ll lN
    rw [← eh] at q
    clear lsn eL eh
    refine ⟨_, rfl, D, Qm.kvs h L, L.map fun c : Nat => (c : Int), rfl, .inl e5, Qm.kvs_keys h L, by rw [List.length_map]; omega, fun ys p hp hd h1 => ?_⟩
    obtain ⟨s, es, sa, sm⟩ : ∃ s : List Nat, ys = s.map (fun c : Nat => (c : Int)) ∧ s.Pairwise (· < ·) ∧ ∀ d, d ∈ s ↔ d ∈ L := by
      have e0 : ys = (ys.map Int.toNat).map fun c : Nat => (c : Int) := by
        rw [List.map_map]
        conv => lhs; rw [← List.map_id ys]
        refine List.map_congr_left fun x hx => ?_
        obtain ⟨c, _, rfl⟩ := List.mem_map.mp (hp.mem_iff.mp hx)
        show (c : Int) = (((c : Int).toNat : Nat) : Int)
        rw [Int.toNat_natCast]
      have pp : (ys.map Int.toNat).Perm L := by
        have := hp.map Int.toNat
        rw [List.map_map] at this
        have e1 : List.map (Int.toNat ∘ fun c : Nat => (c : Int)) L = L := by
          conv => rhs; rw [← List.map_id L]
          exact List.map_congr_left fun c _ => Int.toNat_natCast c
        rwa [e1] at this
      refine ⟨ys.map Int.toNat, e0, ?_, fun d => pp.mem_iff⟩
      rw [e0, List.pairwise_map] at hd
      have nd : (ys.map Int.toNat).Nodup := pp.nodup_iff.mpr lN
      refine (List.pairwise_iff_getElem.mpr fun i j hi hj hij => ?_)
      have h2 := List.pairwise_iff_getElem.mp hd i j hi hj hij
      have h3 := List.pairwise_iff_getElem.mp nd i j hi hj hij
      omega
    subst es
    have sl : s.length ≤ 51 := by
      have := hp.length_eq
      rw [List.length_map, List.length_map] at this
      omega
    have fz := Lz sa sm
    have s6 := same_new (o := .lst ((s.map fun c : Nat => (c : Int)).map V.int)) h1
    have e6 : (upd H5 p (.lst ((s.map fun c : Nat => (c : Int)).map V.int))) p = some (.lst ((s.map fun c : Nat => (c : Int)).map V.int)) := upd_same
    have f6 := s6 _ _ e5
    have s56 := s5.trans s6
    generalize upd H5 p (.lst ((s.map fun c : Nat => (c : Int)).map V.int)) = H6 at s6 e6 f6 s56 ⊢
    refine ⟨p, rfl, ⟨_, SqL.of e6⟩, fun D2 hD2 => dc_it (walk_list (K := K) (a := p) (xs := (s.map fun c : Nat => (c : Int)).map V.int)) (fun i H' => H' D2 = some (.dK (Qm.kvs h ((s.take i).filter fun c => decide (h c ≠ 0)))) ∧ Same H6 H') ⟨upd_same, same_new hD2⟩ (fun i H' _ ⟨_, s⟩ => SqL.of (s _ _ e6)) ?_ ?_⟩
    · rintro i x H7 H8 hi ⟨h7, s7⟩ ⟨rfl, hx⟩
      rw [List.getElem?_map, List.getElem?_map] at hx
      cases hc : s[i]? with
      | none =>
        rw [hc] at hx
        cases hx
      | some c =>
        rw [hc] at hx
        cases hx
        have hcl := (sm c).mp (List.mem_of_getElem? hc)
        have gd : DGet H8 D (.int (c : Int)) (some (.int (h c))) := .inl ⟨Qm.kvs h L, .inl (c : Int), .inl (s7 _ _ f6), rfl, by rw [Qm.kvs_val, if_pos hcl]⟩
        refine ⟨rfl, _, rfl, _, rfl, D, _, rfl, gd, rfl, _, rfl, ?_⟩
        by_cases c0 : h c = 0
        · refine iteF' (by rw [c0]; rfl) ⟨?_, s7⟩
          rw [Qm.take_next hc, List.filter_append, List.filter_cons_of_neg (by simpa using c0)]
          simpa using h7
        · refine iteT' (by
            rw [Bool.not_eq_true', decide_eq_false_iff_not]
            exact fun z => c0 (by injection z)) ⟨_, rfl, _, rfl, _, rfl, D, _, rfl, gd, _, .inl (c : Int), rfl, h7, ?_, ?_, fun b o ob => ?_⟩
          · rw [Qm.kvs_len]
            have := List.length_filter_le (fun c => decide (h c ≠ 0)) (s.take i)
            rw [List.length_take] at this
            rw [sizeLine_eq]
            omega
          · have hni : c ∉ (s.take i).filter fun c => decide (h c ≠ 0) := fun z => Qm.not_before (sa.imp fun h => Nat.ne_of_lt h) hc (List.mem_filter.mp z).1
            rw [upd_same, Qm.kvs_put hni, Qm.take_next hc, List.filter_append, List.filter_cons_of_pos (by simpa using c0)]
            rfl
          · rw [upd_ne (ne_of_none ob hD2)]
            exact s7 _ _ ob
    · rintro H7 ⟨h7, s7⟩
      rw [List.length_map, List.length_map, List.take_length, fz] at h7
      exact q D2 H7 (s56.free hD2) (s56.trans s7) h7

end
end K63

set_option Elab.async false
set_option linter.all false
set_option maxRecDepth 100000
set_option maxHeartbeats 4000000
set_option pp.maxSteps 3000
set_option exponentiation.threshold 500000
namespace K63
open PySem PySem.Spec PyProof.Rows L2 Dr Xv LamX Ps Gn Fm
section
variable {P : Program} {w : World} {K : PySem.W.Frag} {mg : Str → Option Value} {base : Heap}
def em (a d : Nat) : Int := if d = a then -2 else if d = 2 * a then 5 else if d = 4 * a then -2 else 0
def gaE (a d : Nat) : Int := if d = a then -2 else if d = 2 * a then 5 else -2
def thE (form : List Nat) (d : Nat) : Int := form.foldl (fun s a => s + em a d) 0
theorem thE_snoc (form : List Nat) (a d : Nat) : thE (form ++ [a]) d = thE form d + em a d := by
  unfold thE
  rw [List.foldl_append]
  rfl
theorem thE_hs {form : List Nat} {a : Nat} : Qm.hs (thE form) (gaE a) [a, 2 * a, 4 * a] 3 = thE (form ++ [a]) := by
  funext d
  rw [thE_snoc]
  show thE form d + (if d ∈ [a, 2 * a, 4 * a] then gaE a d else 0) = _
  congr 1
  unfold gaE em
  by_cases c1 : d = a
  · rw [if_pos c1, if_pos c1, if_pos (by simp [c1])]
  · by_cases c2 : d = 2 * a
    · rw [if_neg c1, if_neg c1, if_pos c2, if_pos c2, if_pos (by simp [c2])]
    · by_cases c3 : d = 4 * a
      · rw [if_neg c1, if_neg c1, if_neg c2, if_neg c2, if_pos c3, if_pos (by simp [c3])]
      · rw [if_neg c1, if_neg c1, if_neg c2, if_neg c2, if_neg c3, if_neg (by simp [c1, c2, c3])]
theorem nz_len (f g : Nat → Int) {m : List Nat} (hm : m.Nodup) (h360 : ∀ d ∈ m, d ≤ 360) : (Qm.nz (Qm.hs f g m m.length)).length ≤ (Qm.nz f).length + m.length := by
  have ln : (Qm.nz f).Nodup := (Qm.nz_asc f).imp fun h => Nat.ne_of_lt h
  have lN := Qm.ls_nodup (m := m) ln hm m.length
  have sa : ((List.range 361).filter fun d => decide (d ∈ Qm.ls (Qm.nz f) m m.length)).Pairwise (· < ·) := List.Pairwise.filter _ List.pairwise_lt_range
  have mem : ∀ d, d ∈ ((List.range 361).filter fun d => decide (d ∈ Qm.ls (Qm.nz f) m m.length)) ↔ d ∈ Qm.ls (Qm.nz f) m m.length := fun d => by
    rw [List.mem_filter, List.mem_range, decide_eq_true_eq]
    refine ⟨fun h => h.2, fun h => ⟨?_, h⟩⟩
    rcases List.mem_append.mp h with z | z
    · exact (Qm.nz_mem.mp z).1
    · have := h360 d (List.mem_of_mem_take (List.mem_filter.mp z).1)
      omega
  have e := Qm.ls_nz (f := f) (g := g) (fun d => Qm.nz_mem) h360 (Nat.le_refl _) sa mem
  rw [← e]
  refine Nat.le_trans (List.length_filter_le _ _) ?_
  have p : ((List.range 361).filter fun d => decide (d ∈ Qm.ls (Qm.nz f) m m.length)).Perm (Qm.ls (Qm.nz f) m m.length) :=
    (List.perm_ext_iff_of_nodup (sa.imp fun h => Nat.ne_of_lt h) lN).mpr mem
  rw [p.length_eq]
  exact Qm.ls_len _ _ _
theorem thE_len : ∀ form : List Nat, (∀ a ∈ form, 1 ≤ a ∧ a ≤ 90) → (Qm.nz (thE form)).length ≤ 3 * form.length := by
  have key : ∀ n (form : List Nat), form.length = n → (∀ a ∈ form, 1 ≤ a ∧ a ≤ 90) → (Qm.nz (thE form)).length ≤ 3 * n := by
    intro n
    induction n with
    | zero =>
      intro form e _
      rw [List.length_eq_zero_iff.mp e]
      exact Nat.le_of_eq (by decide)
    | succ n ih =>
      intro form e h
      have ne : form ≠ [] := fun z => by
        rw [z] at e
        cases e
      have es := (List.dropLast_concat_getLast ne).symm
      obtain ⟨g, eg⟩ : ∃ g, g = form.dropLast := ⟨_, rfl⟩
      obtain ⟨a, ea⟩ : ∃ a, a = form.getLast ne := ⟨_, rfl⟩
      rw [← eg, ← ea] at es
      clear eg ea
      subst es
      have b := h a (by simp)
      have i := ih g (by simpa using e) fun c hc => h c (List.mem_append_left _ hc)
      have z := nz_len (thE g) (gaE a) (m := [a, 2 * a, 4 * a]) (by simp; omega) (fun d hd => by simp at hd; omega)
      rw [show ([a, 2 * a, 4 * a] : List Nat).length = 3 from rfl, thE_hs] at z
      omega
  exact fun form h => key _ form rfl h
theorem ga_lit {a : Nat} (h : 1 ≤ a) : mergeK [] [((Sum.inl (a : Int) : Key), V.int (-2)), (.inl (2 * (a : Int)), .int 5), (.inl (4 * (a : Int)), .int (-2))] = Qm.kvs (gaE a) [a, 2 * a, 4 * a] := by
  have g1 : gaE a a = -2 := by
    unfold gaE
    rw [if_pos rfl]
  have g2 : gaE a (2 * a) = 5 := by
    unfold gaE
    rw [if_neg (by omega), if_pos rfl]
  have g4 : gaE a (4 * a) = -2 := by
    unfold gaE
    rw [if_neg (by omega), if_neg (by omega)]
  have e2 : (2 : Int) * (a : Int) = ((2 * a : Nat) : Int) := by omega
  have e4 : (4 : Int) * (a : Int) = ((4 * a : Nat) : Int) := by omega
  rw [e2, e4]
  have k1 := Qm.kvs_put (f := gaE a) (c := a) (l := []) List.not_mem_nil
  have k2 := Qm.kvs_put (f := gaE a) (c := 2 * a) (l := [a]) (by simp; omega)
  have k4 := Qm.kvs_put (f := gaE a) (c := 4 * a) (l := [a, 2 * a]) (by simp; omega)
  rw [g1] at k1
  rw [g2] at k2
  rw [g4] at k4
  show putK (putK (putK [] _ _) _ _) _ _ = _
  have k1' : putK [] (Sum.inl (a : Int) : Key) (V.int (-2)) = Qm.kvs (gaE a) [a] := k1
  have k2' : putK (Qm.kvs (gaE a) [a]) (Sum.inl ((2 * a : Nat) : Int) : Key) (V.int 5) = Qm.kvs (gaE a) [a, 2 * a] := k2
  rw [k1', k2']
  exact k4
def sp_form_term (cF cT : Addr) : Sp := fun vs H Q E => ∃ (x : V) (o : Option (List V)), vs = [x] ∧ Tp H x o ∧ short o ∧ AllPV H o ∧ (okF o = false → ∀ H', Same H H' → E (.ref cF) none H') ∧
  (okF o = true → ∃ form : List Nat, o = some (fV form) ∧ (360 < lvl form → ∀ d H', H d = none → Same H H' → H' d = some (.xd [(("most" : Str), .int 360)]) → E (.ref cT) (some d) H') ∧
    (lvl form ≤ 360 → ∀ (t q e : Addr) (H' : Hp), H t = none → H q = none → H e = none → Same H H' → H' t = some (.tup [.int 1, .ref q, .ref e]) → H' q = some (.dK (Qm.kvs (thE form) (Qm.nz (thE form)))) → H' e = some (.tup []) → Q (.ref t) H'))
theorem ok_form_term (M : Mod P w K mg base) : FnOk P w K mg base (L2.CX P w) 6 M.f_form_term M.d_form_term ["form"] (sp_form_term M.a_BadForm M.a_TooMany) := by
  refine M.F_form_term.ok sc_form_term (fun vs H Q E h => ?_) (fun cdv A outer s H vs Q E hr h => ?_)
  · obtain ⟨x, o, rfl, _⟩ := h
    rfl
  · obtain ⟨x, o, rfl, hx, hs, hp, q1, q2⟩ := h
    refine ⟨_, (pss_cons (ps_expr (pe_call (ok_check_form M) (hr.mono (by decide)) rfl M.g_check_form M.k_check_form M.b_check_form .nil (passes_call (takes_of rfl rfl rfl rfl) (fun _ _ _ _ h => h)) (pa_cons (pv 0) pa_nil)))
      (C8.pss_cut (ps_if (pt_not (pt_val (pe_call (ok_has_level M) (hr.mono (by decide)) rfl M.g_has_level M.k_has_level M.b_has_level .nil pass0 (pa_cons (pv 0) pa_nil)))) 
        (pss_one (ps_raise rfl (takes_of rfl rfl rfl rfl) (pmk_oex M.U_TooMany.ox M.U_TooMany.iC M.U_TooMany.tI (ok_init_TooMany M) (hr.mono (by decide)) M.bi_TooMany .nil pass0 rfl M.g_TooMany (pa_cons (pe_glob (v := .int 360) rfl M.c_GREATEST_LEVEL ⟨_, rfl⟩) pa_nil)))) pss_nil)
      (PSs.nox 
      (pss_cons (ps_set (i := 1) sc_form_term.nd rfl (Or.inl rfl) pe_dnewK)
      (pss_cons (ps_for PassesOwn.never rfl (pi_tup (pv 0)) (pg_name (i := 2) sc_form_term.nd rfl (Or.inl rfl)) 
        (pss_one (ps_set (i := 1) sc_form_term.nd rfl (Or.inl rfl) (pe_call (ok_product_of_quotients M) (hr.mono (by decide)) rfl M.g_product_of_quotients M.k_product_of_quotients M.b_product_of_quotients .nil pass0 (pa_cons (pv 1) (pa_cons (pe_disp (pps_cons (pv 2) (pe_un un_neg pe_int) (pps_cons (pe_op op_mul pe_int (pv 2)) pe_int (pps_cons (pe_op op_mul pe_int (pv 2)) (pe_un un_neg pe_int) pps_nil))) (by rfl) (by rfl) (fun z => by cases z) (by decide)) pa_nil))))))
      (pss_one (ps_ret (pe_tup (pa_cons pe_int (pa_cons (pv 1) (pa_cons (pe_tup pa_nil) pa_nil))))))))))), ?_⟩
    refine ⟨_, rfl, x, o, rfl, hx, hs, hp, fun hk H1 s1 => q1 hk H1 s1, fun hk H1 s1 => ?_⟩
    obtain ⟨form, rfl, q3, q4⟩ := q2 hk
    obtain ⟨form', ef, F⟩ := okF_form hk
    cases fV_inj (Option.some.inj ef)
    obtain ⟨a, rfl, ea⟩ := hx.ref
    refine ⟨fun σ' H' => σ' = [some (.ref a), none, none] ∧ Same H H' ∧ lvl form ≤ 360, ?_, ?_⟩
    · refine ⟨_, rfl, a, form, rfl, s1 _ _ ea, F, fun H2 s2 => ?_⟩
      have s12 := s1.trans s2
      refine ⟨_, rfl, ?_⟩
      by_cases c : lvl form ≤ 360
      · exact iteF' (by rw [decide_eq_true c]; rfl) ⟨rfl, s12, c⟩
      · exact iteT' (by rw [decide_eq_false c]; rfl) (mk_init fun d H' h1 h2 h3 => q3 (by omega) d H' (s12.free h1) (s12.trans h2) h3)
    rintro σ1 H2 ⟨rfl, s2, c⟩
    have l2 := F.l2
    have a360 : ∀ b ∈ form, 4 * b ≤ 360 := fun b hb => by
      have := F.a2 b hb
      omega
    refine fun p0 hp0 => ?_
    have s3 := same_new (o := .dK []) hp0
    have s23 := s2.trans s3
    have hp0H := s2.free hp0
    have e0 : (upd H2 p0 (.dK [])) p0 = some (.dK (Qm.kvs (thE []) (Qm.nz (thE [])))) := by
      rw [upd_same]
      rfl
    generalize upd H2 p0 (.dK []) = H3 at s3 s23 e0 ⊢
    refine ⟨_, rfl, a, rfl, ⟨_, SqT.of (s23 _ _ ea)⟩, for_tup (K := K) (a := a) (xs := fV form) (fun i σ H' => ∃ (x2 : Option V) (p : Addr), σ = [some (.ref a), some (.ref p), x2] ∧ Same H H' ∧ H p = none ∧ H' p = some (.dK (Qm.kvs (thE (form.take i)) (Qm.nz (thE (form.take i)))))) ⟨_, p0, rfl, s23, hp0H, e0⟩ (fun i σ H' _ ⟨_, _, _, s, _⟩ => SqT.of (s _ _ ea)) ?_ ?_⟩
    · rintro i x σ H4 hi ⟨x2, p, rfl, s4, hp, e4⟩
      obtain ⟨b, hb, rfl⟩ := fV_at hi
      have bm := List.mem_of_getElem? hb
      have b1 := F.a1 b bm
      have b2 := a360 b bm
      have et : form.take (i + 1) = form.take i ++ [b] := by
        rw [List.take_succ, hb]
        rfl
      have tl := thE_len (form.take i) fun c hc => ⟨F.a1 c (List.mem_of_mem_take hc), F.a2 c (List.mem_of_mem_take hc)⟩
      rw [List.length_take] at tl
      have il := (List.getElem?_eq_some_iff.mp hb).1
      refine ⟨_, rfl, fun D hD => ?_⟩
      refine ⟨_, rfl, _, rfl, _, rfl, _, _, rfl, rfl, .inl ⟨by decide, by decide⟩, _, rfl, _, _, rfl, rfl, .inl ⟨by decide, by decide⟩, _, rfl, upd_same, [((Sum.inl (b : Int) : Key), V.int (-2)), (.inl (2 * (b : Int)), .int 5), (.inl (4 * (b : Int)), .int (-2))], rfl, (by show 3 ≤ 15; decide), ?_⟩
      rw [upd_upd, ga_lit b1]
      have s5 := same_new (o := .dK (Qm.kvs (gaE b) [b, 2 * b, 4 * b])) hD
      refine ⟨p, D, thE (form.take i), gaE b, [b, 2 * b, 4 * b], rfl, s5 _ _ e4, upd_same, by simp; omega, (by show 3 ≤ 3; decide), (fun d hd => by simp at hd; omega), by omega, fun p5 H5 h5 s6 e5 => ?_⟩
      refine ⟨_, p5, rfl, s4.trans (s5.trans s6), s4.free (s5.free h5), ?_⟩
      rw [et, ← thE_hs]
      exact e5
    · rintro σ H4 ⟨x2, p, rfl, s4, hp, e4⟩
      have el : (fV form).length = form.length := List.length_map _
      rw [el, List.take_length] at e4
      refine ⟨_, rfl, (by show 0 ≤ sizeLine; exact Nat.zero_le _), fun e he => ⟨(by show 3 ≤ sizeLine; decide), fun t ht => ?_⟩⟩
      have s5 := same_new (o := .tup []) he
      have s6 := same_new (o := .tup [.int 1, .ref p, .ref e]) ht
      exact q4 c t p e _ (s4.free (s5.free ht)) hp (s4.free he) (s4.trans (s5.trans s6)) upd_same (s6 _ _ (s5 _ _ e4)) (s6 _ _ upd_same)

end
end K63

set_option Elab.async false
set_option linter.all false
set_option maxRecDepth 100000
set_option maxHeartbeats 4000000
set_option pp.maxSteps 3000
set_option exponentiation.threshold 500000
namespace K63
open PySem PySem.Spec PyProof.Rows L2 Dr Xv LamX Ps Gn Fm
section
variable {P : Program} {w : World} {K : PySem.W.Frag} {mg : Str → Option Value} {base : Heap}
theorem Ev_low' {n k : Nat} (h : k < n) : Ev n k = 0 := by
  unfold Ev
  rw [if_neg]
  rintro ⟨z, d⟩
  have := Nat.le_of_dvd (by omega) d
  omega
abbrev s1' : S := fun _ => 1
def sp__law_sigmas : Sp := fun vs H Q _ => ∃ mo : Nat, vs = [.int (mo : Int)] ∧ mo ≤ 100 ∧
  ∀ (p : Addr) (H' : Hp), H p = none → Same H H' → H' p = some (.lst (rowOf (mo + 1) (sS s1' mo))) → Q (.ref p) H'
theorem ok__law_sigmas (M : Mod P w K mg base) : FnOk P w K mg base CX0 1 M.f__law_sigmas M.d__law_sigmas ["most"] sp__law_sigmas := by
  refine M.F__law_sigmas.ok sc__law_sigmas (fun vs H Q E h => ?_) (fun cdv A outer s H vs Q E hr h => ?_)
  · obtain ⟨mo, rfl, _⟩ := h
    rfl
  · obtain ⟨mo, rfl, hmo, q⟩ := h
    refine ⟨_, PSs.nox (pss_cons (ps_setLc (i := 1) (own := [("n", 3)]) (g := (gName 3)) (by rfl) sc__law_sigmas.nd rfl rfl (sw_true rfl rfl rfl (by decide +kernel)) (pi_range1 (by rfl) M.range0 (pa_cons (pe_op op_add (pv 0) pe_int) pa_nil)) (blkOk_by (own := [("n", 3)]) (N := N__law_sigmas) (sc := defScope s__law_sigmas) (by decide +kernel))
        (fun _ _ _ _ _ => (pg_name (i := 3) sc__law_sigmas.nd rfl (Or.inl rfl))) (fun _ _ _ _ _ => pts_nil) (fun _ _ _ _ _ => pe_int))
      (pss_cons (ps_for PassesOwn.never rfl (pi_range2 (by rfl) M.range0 (pa_cons pe_int (pa_cons (pe_op op_add (pv 0) pe_int) pa_nil))) (pg_name (i := 2) sc__law_sigmas.nd rfl (Or.inl rfl)) 
        (pss_one (ps_for PassesOwn.never rfl (pi_range3 (by rfl) M.range0 (pa_cons (pv 2) (pa_cons (pe_op op_add (pv 0) pe_int) (pa_cons (pv 2) pa_nil)))) (pg_name (i := 3) sc__law_sigmas.nd rfl (Or.inl rfl)) 
          (pss_one (ps_asg (pe_op op_add (pe_ix ix_list (pv 1) (pv 3) (fun _ _ => rfl)) (pv 2)) (pg_sub (pv 1) (pv 3) set_list))))))
      (pss_one (ps_ret (pv 1))))), ?_⟩
    obtain ⟨N, eN⟩ : ∃ N, N = mo + 1 := ⟨_, rfl⟩
    have eI : (mo : Int) + 1 = (N : Int) := by omega
    refine ⟨_, rfl, _, _, rfl, rfl, _, rfl, by omega, by omega, fun D hD => lc_range (lo := 0) (n := ((mo : Int) + 1).toNat) (fun i H' => H' D = some (.lst (rowOf i fun _ => 0)) ∧ Same H H') ⟨by rw [upd_same]; rfl, same_new hD⟩ ?_ ?_⟩
    · rintro i H4 hi ⟨h4, s5⟩
      refine ⟨rfl, yesT ⟨_, h4, ?_, ?_, ?_⟩⟩
      · rw [row_len, sizeLine_eq]
        omega
      · rw [upd_same, row_succ]
      · intro b' o' e'
        rw [upd_ne (ne_of_none e' hD)]
        exact s5 _ _ e'
    rintro H4 ⟨e4, s4⟩
    have e0 : ((mo : Int) + 1).toNat = N := by omega
    rw [e0] at e4
    refine ⟨_, rfl, _, _, rfl, rfl, 1, _, rfl, ⟨by decide, by decide, by omega, by omega⟩, ?_⟩
    refine for_range (lo := 1) (n := ((mo : Int) + 1 - 1).toNat) (fun i σ H' => ∃ x2 x3, σ = [some (.int (mo : Int)), some (.ref D), x2, x3] ∧ H' D = some (.lst (rowOf N (sS s1' i))) ∧ SameO D H4 H') ⟨_, _, rfl, e4, SameO.refl⟩ ?_ ?_
    · rintro i σ H5 hi ⟨x2, x3, rfl, h5, so⟩
      have ec : (1 + (i : Int)) = ((i + 1 : Nat) : Int) := by omega
      rw [ec]
      have rg : RgC ((i + 1 : Nat) : Int) ((mo : Int) + 1) ((i + 1 : Nat) : Int) (upN (i + 1) N (i + 1)) := by
        rw [eI]
        exact rg_up (a := i + 1) (b := N) (d := i + 1) (by omega) (by omega) (by omega) (by omega)
      refine ⟨_, rfl, _, rfl, _, _, rfl, rfl, _, rfl, _, _, _, _, rfl, rg, ?_⟩
      obtain ⟨v, ev⟩ : ∃ v, v = ((i + 1 : Nat) : Int) := ⟨_, rfl⟩
      have estep : ∀ k, sS s1' (i + 1) k = sS s1' i k + v * Ev (i + 1) k := fun k => by
        show sS s1' i k + ((i + 1 : Nat) : Int) * 1 * Ev (i + 1) k = _
        rw [ev, Int.mul_one]
      refine for_rangeC (fun j σ H' => ∃ x3, σ = [some (.int (mo : Int)), some (.ref D), some (.int v), x3] ∧
          H' D = some (.lst (rowOf N fun k => sS s1' i k + (if k < (i + 1) + j * (i + 1) then v * Ev (i + 1) k else 0))) ∧ SameO D H4 H') ⟨_, by rw [ev]; rfl, ?_, so⟩ ?_ ?_
      · rw [h5]
        congr 2
        refine row_ext fun k _ => ?_
        split
        · rw [Ev_low' (by omega), Int.mul_zero, Int.add_zero]
        · rw [Int.add_zero]
      · rintro j σ H6 hj ⟨x3, rfl, h6, so6⟩
        have hj2 := (lt_upN (by omega)).mp hj
        obtain ⟨n, en⟩ : ∃ n, n = (i + 1) + j * (i + 1) := ⟨_, rfl⟩
        have ei : ((i + 1 : Nat) : Int) + (j : Int) * ((i + 1 : Nat) : Int) = (n : Int) := by
          rw [en]
          push_cast
          rfl
        rw [ei]
        rw [← en] at hj2
        refine ⟨_, rfl, _, rfl, D, _, _, _, rfl, rfl, SqL.of h6, row_val hj2, _, rfl, _, _, rfl, rfl, _, rfl, _, rfl, D, _, _, _, rfl, rfl, h6, row_at hj2, _, rfl, ?_, so6.trans .put⟩
        rw [upd_same]
        congr 2
        have dn : (i + 1) ∣ n := ⟨1 + j, by rw [en, Nat.add_comm 1 j, Nat.mul_comm (i + 1) (j + 1), Nat.add_mul j 1, Nat.one_mul]; exact Nat.add_comm _ _⟩
        refine row_set hj2 ?_ fun k hk hne => ?_
        · show _ + (if n < (i + 1) + (j + 1) * (i + 1) then _ else 0) = _
          rw [if_pos (by rw [Nat.add_mul]; omega), ← en, if_neg (Nat.lt_irrefl _)]
          have z : Ev (i + 1) n = 1 := by
            unfold Ev
            rw [if_pos ⟨by omega, dn⟩]
          rw [z, Int.mul_one, Int.add_zero]
        · show _ + (if k < (i + 1) + (j + 1) * (i + 1) then _ else 0) = _ + (if k < (i + 1) + j * (i + 1) then _ else 0)
          by_cases q1 : k < (i + 1) + j * (i + 1)
          · rw [if_pos q1, if_pos (by rw [Nat.add_mul]; omega)]
          · rw [if_neg q1]
            by_cases q2 : k < (i + 1) + (j + 1) * (i + 1)
            · rw [if_pos q2]
              have z : Ev (i + 1) k = 0 := by
                unfold Ev
                rw [if_neg]
                rintro ⟨_, dk⟩
                have d2 := Nat.dvd_sub dk dn
                have := Nat.le_of_dvd (by omega) d2
                rw [Nat.add_mul] at q2
                omega
              rw [z, Int.mul_zero]
            · rw [if_neg q2]
      · rintro σ H6 ⟨x3, rfl, h6, so6⟩
        refine ⟨_, _, rfl, ?_, so6⟩
        rw [h6]
        congr 2
        refine row_ext fun k hk => ?_
        rw [estep, if_pos]
        have z : ¬ (i + 1 + upN (i + 1) N (i + 1) * (i + 1) < N) := fun z => Nat.lt_irrefl _ ((lt_upN (by omega)).mpr z)
        omega
    · rintro σ H5 ⟨x2, x3, rfl, h5, so⟩
      have em : ((mo : Int) + 1 - 1).toNat = mo := by omega
      rw [em, eN] at h5
      exact ⟨_, rfl, q D H5 hD (so.back s4 hD) h5⟩
theorem sS_more {p : S} {j k : Nat} (h : k ≤ j) : ∀ i, sS p (j + i) k = sS p j k
  | 0 => rfl
  | i + 1 => by
    show sS p (j + i) k + ((j + i + 1 : Nat) : Int) * p (j + i) * Ev (j + i + 1) k = _
    rw [sS_more h i, Ev_low' (by omega), Int.mul_zero, Int.add_zero]
theorem sig_row {mo : Nat} (h : mo ≤ 60) : rowOf (mo + 1) (sS s1' mo) = rowOf (mo + 1) Th.sig := row_ext fun k hk => by
  obtain ⟨i, ei⟩ : ∃ i, 60 = mo + i := ⟨60 - mo, by omega⟩
  show _ = sS s1' 60 k
  rw [ei, sS_more (by omega)]
theorem wt_low {c k : Nat} (h : k < c) : Th.wt c k = 0 := by
  unfold Th.wt
  rw [Ev_low' h, Int.zero_mul, Int.mul_zero]
/-- the weights of the first of them -/
def wS (f : Nat → Int) (l : List Nat) : S := fun k => (l.map fun c => f c * Th.wt c k).sum
theorem wS_nil (f : Nat → Int) (k : Nat) : wS f [] k = 0 := rfl
theorem wS_snoc (f : Nat → Int) (l : List Nat) (c k : Nat) : wS f (l ++ [c]) k = wS f l k + f c * Th.wt c k := by
  unfold wS
  rw [List.map_append, List.sum_append]
  simp
theorem row_div {w R : S} {n : Nat} (h1 : 1 ≤ n) (h : (n : Int) * R n = -(sm (fun k => w (1 + k) * R (n - (1 + k))) n)) : (-(sm (fun k => w (1 + k) * R (n - (1 + k))) n)).fdiv (n : Int) = R n := by
  rw [← h, Int.mul_comm, Int.mul_fdiv_cancel _ (by omega)]
def sp__law_row : Sp := fun vs H Q _ => ∃ (q : Addr) (f : Nat → Int) (l : List Nat) (mo : Nat) (R : S), vs = [.ref q, .int (mo : Int)] ∧ H q = some (.dK (Qm.kvs f l)) ∧ (∀ c ∈ l, 1 ≤ c ∧ c < 433 ∧ (f c).natAbs ≤ 99) ∧ mo ≤ 60 ∧ R 0 = 1 ∧ (∀ k, 1 ≤ k → k ≤ 60 → -(2 ^ 64) < wS f l k ∧ wS f l k < 2 ^ 64) ∧
  (∀ n, 1 ≤ n → n ≤ mo → (n : Int) * R n = -(sm (fun k => wS f l (1 + k) * R (n - (1 + k))) n)) ∧ ∀ (r : Addr) (H' : Hp), H r = none → Same H H' → H' r = some (.lst (rowOf (mo + 1) R)) → Q (.ref r) H'
theorem ok__law_row (M : Mod P w K mg base) : FnOk P w K mg base CX0 2 M.f__law_row M.d__law_row ["quotient", "most"] sp__law_row := by
  refine M.F__law_row.ok sc__law_row (fun vs H Q E h => ?_) (fun cdv A outer s H vs Q E hr h => ?_)
  · obtain ⟨a, f, l, mo, R, rfl, _⟩ := h
    rfl
  · obtain ⟨a, f, l, mo, R, rfl, ha, hb, hmo, R0, wb, hw, q⟩ := h
    have hu := hu_of hr
    refine ⟨_, PSs.nox (pss_cons (ps_asg (pe_tup (pa_cons (pe_call (ok__law_sigmas M) (hr.mono (by decide)) rfl M.g__law_sigmas M.k__law_sigmas M.b__law_sigmas .nil pass0 (pa_cons (pv 1) pa_nil)) (pa_cons (pe_lc (own := [("n", 5)]) (g := (gName 5)) (by rfl) sc__law_row.nd (pi_range1 (by rfl) M.range0 (pa_cons (pe_op op_add (pv 1) pe_int) pa_nil)) (blkOk_by (own := [("n", 5)]) (N := N__law_row) (sc := defScope s__law_row) (by decide +kernel))
        (fun _ _ _ _ _ => (pg_name (i := 5) sc__law_row.nd rfl (Or.inl rfl))) (fun _ _ _ _ _ => pts_nil) (fun _ _ _ _ _ => pe_int)) pa_nil))) (pg_tup rfl (pgs_cons (pg_name (i := 2) sc__law_row.nd rfl (Or.inl rfl)) (pgs_cons (pg_name (i := 3) sc__law_row.nd rfl (Or.inr rfl)) pgs_nil))))
      (pss_cons (ps_lock (ps_for PassesOwn.never rfl (pi_keys (pv 0)) (pg_name (i := 4) sc__law_row.nd rfl (Or.inl rfl)) 
        (pss_one (ps_for PassesOwn.never rfl (pi_range3 (by rfl) M.range0 (pa_cons (pv 4) (pa_cons (pe_op op_add (pv 1) pe_int) (pa_cons (pv 4) pa_nil)))) (pg_name (i := 5) sc__law_row.nd rfl (Or.inr rfl)) 
          (pss_one (ps_asg (pe_op op_add (pe_ix ix_list (pv 3) (pv 5) (fun _ _ => rfl)) (pe_op op_mul (pe_op op_mul (pe_dget hu (pv 0) (pv 4) (fun _ _ => rfl)) (pv 4)) (pe_ix ix_list (pv 2) (pe_op op_fdivB (pv 5) (pv 4)) (fun _ _ => rfl)))) (pg_sub (pv 3) (pv 5) set_list)))))))
      (pss_cons (ps_set (i := 6) sc__law_row.nd rfl (Or.inr rfl) (pe_lst (pa_cons pe_int pa_nil)))
      (pss_cons (ps_for PassesOwn.never rfl (pi_range2 (by rfl) M.range0 (pa_cons pe_int (pa_cons (pe_op op_add (pv 1) pe_int) pa_nil))) (pg_name (i := 5) sc__law_row.nd rfl (Or.inr rfl)) 
        (pss_one (ps_expr (pe_bm PySem.F.plainAttrs_list PySem.F.slot_list_append PySem.F.type_list_append mt_append (pv 6) (pa_cons (pe_op op_fdivB (pe_un un_neg (pe_callB (cr_sum rfl) (by rfl) M.sum0 (by decide +kernel) (pa_cons (pe_lc (own := [("k", 7)]) (g := (gName 7)) (by rfl) sc__law_row.nd (pi_range2 (by rfl) M.range0 (pa_cons pe_int (pa_cons (pe_op op_add (pv 5) pe_int) pa_nil))) (blkOk_by (own := [("k", 7)]) (N := N__law_row) (sc := defScope s__law_row) (by decide +kernel))
        (fun _ _ _ _ _ => (pg_name (i := 7) sc__law_row.nd rfl (Or.inl rfl))) (fun _ _ _ _ _ => pts_nil) (fun _ _ _ _ _ => (pe_op op_mul (pe_ix (r := rIxL K) ix_list (pv 3) (pv 7) (fun _ _ => rfl)) (pe_ix (r := rIxL K) ix_list (pv 6) (pe_op op_sub (pv 5) (pv 7)) (fun _ _ => rfl))))) pa_nil))) (pv 5)) pa_nil)))))
      (pss_one (ps_ret (pv 6))))))), ?_⟩
    refine ⟨_, rfl, mo, rfl, by omega, fun p1 H1 h1 s1 e1 => ?_⟩
    rw [sig_row hmo] at e1
    refine ⟨_, rfl, _, _, rfl, rfl, _, rfl, by omega, by omega, fun D hD => lc_range (lo := 0) (n := ((mo : Int) + 1).toNat) (fun i H' => H' D = some (.lst (rowOf i fun _ => 0)) ∧ Same H1 H') ⟨by rw [upd_same]; rfl, same_new hD⟩ ?_ ?_⟩
    · rintro i H4 hi ⟨h4, s5⟩
      refine ⟨rfl, yesT ⟨_, h4, ?_, ?_, ?_⟩⟩
      · rw [row_len, sizeLine_eq]
        have : i < mo + 1 := by omega
        omega
      · rw [upd_same, row_succ]
      · intro b' o' e'
        rw [upd_ne (ne_of_none e' hD)]
        exact s5 _ _ e'
    rintro H4 ⟨e4, s4⟩
    have e5 : H4 p1 = some (.lst (rowOf (mo + 1) Th.sig)) := s4 _ _ e1
    refine ⟨(by show 2 ≤ sizeLine; decide), fun t ht => ⟨t, _, rfl, SqT.of upd_same, rfl, _, _, rfl, _, _, rfl, rfl, ?_⟩⟩
    have u1 := same_new (o := .tup [.ref p1, .ref D]) ht
    have a4 : H4 a = some (.dK (Qm.kvs f l)) := s4 _ _ (s1 _ _ ha)
    have hD1 : H D = none := s1.free hD
    have np : p1 ≠ D := ne_of_none e1 hD
    have nad : a ≠ D := ne_of_none (s1 _ _ ha) hD
    have nap : a ≠ p1 := ne_of_none ha h1
    obtain ⟨H5, eH5⟩ : ∃ H5, H5 = upd H4 t (.tup [.ref p1, .ref D]) := ⟨_, rfl⟩
    rw [← eH5] at u1 ⊢
    have a5 := u1 _ _ a4
    have s5 : Same H H5 := (s1.trans s4).trans u1
    have f5 : H5 D = some (.lst (rowOf (mo + 1) fun _ => 0)) := u1 _ _ e4
    have g5 : H5 p1 = some (.lst (rowOf (mo + 1) Th.sig)) := u1 _ _ e5
    clear eH5 u1 ht a4 e4 e5 s4 hD e1 s1 h1
    refine ⟨a, _, a5, trivial, fun od => ?_⟩
    refine ⟨_, rfl, a, od, rfl, .inl ⟨_, upd_same, for_it walk_keys (fun i σ H' => ∃ x4 x5 x6 x7, σ = [some (.ref a), some (.int (mo : Int)), some (.ref p1), some (.ref D), x4, x5, x6, x7] ∧ H' a = some (.frz od (.dK (Qm.kvs f l))) ∧ H' p1 = some (.lst (rowOf (mo + 1) Th.sig)) ∧ H' D = some (.lst (rowOf (mo + 1) (wS f (l.take i)))) ∧ ∀ b o, H b = some o → b ≠ a → H' b = some o)
      ⟨_, _, _, _, rfl, upd_same, by rw [upd_ne nap.symm]; exact g5, by rw [upd_ne nad.symm]; exact f5, fun b o e ne => by rw [upd_ne ne]; exact s5 _ _ e⟩ (fun i σ H' _ ⟨_, _, _, _, _, h, _⟩ => h) ?_ ?_⟩⟩
    · rintro i x σ H6 H7 hi ⟨x4, x5, x6, x7, rfl, fa, fp, fd, fs⟩ ⟨rfl, k, v, ek, rfl⟩
      obtain ⟨c, hc, rfl, rfl⟩ := Qm.kvs_at ek
      have hcl := List.mem_of_getElem? hc
      obtain ⟨c1, c2, c3⟩ := hb c hcl
      have et : l.take (i + 1) = l.take i ++ [c] := by
        rw [List.take_succ, hc]
        rfl
      have rg : RgC (c : Int) ((mo : Int) + 1) (c : Int) (upN c (mo + 1) c) := rg_up (a := c) (b := mo + 1) (d := c) (by omega) (by omega) (by omega) (by omega)
      refine ⟨_, rfl, _, rfl, _, _, rfl, rfl, _, rfl, _, _, _, _, rfl, rg, ?_⟩
      refine for_rangeC (fun j σ H' => ∃ x5, σ = [some (.ref a), some (.int (mo : Int)), some (.ref p1), some (.ref D), some (.int (c : Int)), x5, x6, x7] ∧ H' a = some (.frz od (.dK (Qm.kvs f l))) ∧ H' p1 = some (.lst (rowOf (mo + 1) Th.sig)) ∧ H' D = some (.lst (rowOf (mo + 1) fun k => wS f (l.take i) k + (if k < c + j * c then f c * Th.wt c k else 0))) ∧ ∀ b o, H b = some o → b ≠ a → H' b = some o) ⟨_, rfl, fa, fp, ?_, fs⟩ ?_ ?_
      · rw [fd]
        refine congrArg some (congrArg HO.lst (row_ext fun k _ => ?_))
        split
        · rw [wt_low (by omega), Int.mul_zero, Int.add_zero]
        · rw [Int.add_zero]
      · rintro j σ H7 hj ⟨y5, rfl, ga, gp, gd, gs⟩
        have hj2 := (lt_upN (by omega)).mp hj
        obtain ⟨n, en⟩ : ∃ n, n = c + j * c := ⟨_, rfl⟩
        have ei : (c : Int) + (j : Int) * (c : Int) = (n : Int) := by
          rw [en]
          push_cast
          rfl
        rw [ei]
        rw [← en] at hj2
        have dn : c ∣ n := ⟨1 + j, by rw [en, Nat.mul_add, Nat.mul_one, Nat.mul_comm c j]⟩
        have n1 : 1 ≤ n := by
          rw [en]
          omega
        have fv : ((n : Nat) : Int).fdiv (c : Int) = ((n / c : Nat) : Int) := by
          rw [Int.fdiv_eq_ediv_of_nonneg _ (by omega)]
          exact (Int.natCast_ediv n c).symm
        have nc : n / c < mo + 1 := Nat.lt_of_le_of_lt (Nat.div_le_self n c) hj2
        have m99 : (f c * (c : Int)).natAbs ≤ 99 * 432 := by
          rw [Int.natAbs_mul, Int.natAbs_natCast]
          exact Nat.mul_le_mul c3 (by omega)
        refine ⟨_, rfl, _, rfl, D, _, _, _, rfl, rfl, SqL.of gd, row_val hj2, _, rfl, _, rfl, a, _, rfl, .inl ⟨_, .inl (c : Int), .inr ⟨od, ga⟩, rfl, by rw [Qm.kvs_val, if_pos hcl]⟩, _, rfl, _, _, rfl, rfl, .inl ⟨by omega, by omega⟩, _, rfl, _, rfl, _, rfl, _, _, rfl, rfl, ⟨by omega, log_small2 (by omega)⟩, p1, _, _, _, rfl, rfl, SqL.of gp, by rw [fv]; exact row_val nc, _, _, rfl, rfl, .inl ⟨by omega, by omega⟩, _, _, rfl, rfl, _, rfl, _, rfl, D, _, _, _, rfl, rfl, gd, row_at hj2, _, rfl, ?_, ?_, ?_, ?_⟩
        · rw [upd_ne nad]
          exact ga
        · rw [upd_ne np]
          exact gp
        · rw [upd_same]
          congr 2
          refine row_set hj2 ?_ fun k hk hne => ?_
          · show _ + (if n < c + (j + 1) * c then _ else 0) = _
            rw [if_pos (by rw [Nat.add_mul]; omega), ← en, if_neg (Nat.lt_irrefl _), Int.add_zero]
            have z : Th.wt c n = (c : Int) * Th.sig (n / c) := by
              unfold Th.wt Ev
              rw [if_pos ⟨by omega, dn⟩, Int.one_mul]
            rw [z, ← Int.mul_assoc]
          · show _ + (if k < c + (j + 1) * c then _ else 0) = _ + (if k < c + j * c then _ else 0)
            by_cases q1 : k < c + j * c
            · rw [if_pos q1, if_pos (by rw [Nat.add_mul]; omega)]
            · rw [if_neg q1]
              by_cases q2 : k < c + (j + 1) * c
              · rw [if_pos q2]
                have z : Th.wt c k = 0 := by
                  refine Th.wt_none fun dk => ?_
                  have d2 := Nat.dvd_sub dk dn
                  have := Nat.le_of_dvd (by omega) d2
                  rw [Nat.add_mul] at q2
                  omega
                rw [z, Int.mul_zero]
              · rw [if_neg q2]
        · intro b o e ne
          rw [upd_ne (ne_of_none e hD1)]
          exact gs _ _ e ne
      · rintro σ H7 ⟨y5, rfl, ga, gp, gd, gs⟩
        refine ⟨_, _, _, _, rfl, ga, gp, ?_, gs⟩
        rw [gd, et]
        refine congrArg some (congrArg HO.lst (row_ext fun k hk => ?_))
        rw [wS_snoc, if_pos]
        have z : ¬ (c + upN c (mo + 1) c * c < mo + 1) := fun z => Nat.lt_irrefl _ ((lt_upN (by omega)).mpr z)
        omega
    rintro σ H6 ⟨x4, x5, x6, x7, rfl, fa, fp, fd, fs⟩
    rw [Qm.kvs_len, List.take_length] at fd
    refine ⟨fa, ?_⟩
    have s6 : Same H (upd H6 a (.dK (Qm.kvs f l))) := fun b o e => by
      by_cases c : b = a
      · rw [c] at e ⊢
        rw [ha] at e
        rw [upd_same]
        exact e
      · rw [upd_ne c]
        exact fs _ _ e c
    have d6 : (upd H6 a (.dK (Qm.kvs f l))) D = some (.lst (rowOf (mo + 1) (wS f l))) := by
      rw [upd_ne nad.symm]
      exact fd
    generalize upd H6 a (.dK (Qm.kvs f l)) = H7 at s6 d6 ⊢
    clear fa fp fd fs
    refine ⟨(by show 1 ≤ sizeLine; decide), fun p6 h6 => ?_⟩
    have s8 := s6.trans (same_new (o := .lst [V.int 1]) h6)
    have hp6 : H p6 = none := s6.free h6
    have d8 := (same_new (o := .lst [V.int 1]) h6) _ _ d6
    have d6' := d6
    clear d6
    have e8 : (upd H7 p6 (.lst [V.int 1])) p6 = some (.lst (rowOf 1 R)) := by
      rw [upd_same]
      have : R 0 = 1 := R0
      show _ = some (HO.lst [V.int (R 0)])
      rw [this]
    generalize upd H7 p6 (.lst [V.int 1]) = H8 at s8 d8 e8 ⊢
    have n6 : D ≠ p6 := ne_of_none d6' h6
    clear h6 d6' s6
    refine ⟨_, rfl, _, _, rfl, rfl, 1, _, rfl, ⟨by decide, by decide, by omega, by omega⟩, ?_⟩
    refine for_range (lo := 1) (n := ((mo : Int) + 1 - 1).toNat) (fun i σ H' => ∃ x5 x7, σ = [some (.ref a), some (.int (mo : Int)), some (.ref p1), some (.ref D), x4, x5, some (.ref p6), x7] ∧ H' p6 = some (.lst (rowOf (i + 1) R)) ∧ SameO p6 H8 H') ⟨_, _, rfl, e8, SameO.refl⟩ ?_ ?_
    · rintro i σ H9 hi ⟨x5, x7, rfl, e9, s9⟩
      have hi2 : i < mo := by omega
      have ec : (1 + (i : Int)) = ((i + 1 : Nat) : Int) := by omega
      rw [ec]
      have d9 := s9 _ _ d8 n6
      refine ⟨_, rfl, .inl ⟨rfl, _, SqL.of e9⟩, _, rfl, _, _, rfl, rfl, 1, _, rfl, ⟨by decide, by decide, by omega, by omega⟩, fun D2 hD2 => ?_⟩
      refine lc_range (lo := 1) (n := (((i + 1 : Nat) : Int) + 1 - 1).toNat) (fun j H' => H' D2 = some (.lst (rowOf j fun k => wS f l (1 + k) * R (i + 1 - (1 + k)))) ∧ Same H9 H') ⟨upd_same, same_new hD2⟩ ?_ ?_
      · rintro j H10 hj ⟨e10, s10⟩
        have hj2 : j < i + 1 := by omega
        have ej : (1 + (j : Int)) = ((1 + j : Nat) : Int) := by omega
        rw [ej]
        have ix : atI (rowOf (i + 1) R) (((i + 1 : Nat) : Int) - ((1 + j : Nat) : Int)) = some (.int (R (i + 1 - (1 + j)))) := by
          have e1 : ((i + 1 : Nat) : Int) - ((1 + j : Nat) : Int) = ((i + 1 - (1 + j) : Nat) : Int) := by omega
          rw [e1]
          exact row_val (by omega)
        refine ⟨rfl, yesT ⟨_, rfl, _, rfl, D, _, _, _, rfl, rfl, SqL.of (s10 _ _ d9), row_val (by omega), _, rfl, _, rfl, _, rfl, _, _, rfl, rfl, p6, _, _, _, rfl, rfl, SqL.of (s10 _ _ e9), ix, _, _, rfl, rfl, .inl (wb _ (by omega) (by omega)), _, e10, ?_, ?_, ?_⟩⟩
        · rw [row_len, sizeLine_eq]
          omega
        · rw [upd_same, row_succ]
        · intro b' o' e'
          rw [upd_ne (ne_of_none e' hD2)]
          exact s10 _ _ e'
      · rintro H10 ⟨e10, s10⟩
        have en : (((i + 1 : Nat) : Int) + 1 - 1).toNat = i + 1 := by omega
        rw [en] at e10
        refine ⟨D2, (List.range (i + 1)).map fun k => wS f l (1 + k) * R (i + 1 - (1 + k)), rfl, SqL.of e10, ?_⟩
        rw [sum_sm]
        refine ⟨_, rfl, _, rfl, _, _, rfl, rfl, ⟨by omega, log_small2 (by omega)⟩, ?_⟩
        refine ⟨p6, _, _, rfl, rfl, s10 _ _ e9, ?_, _, _, rfl, ?_, ?_⟩
        · rw [row_len, sizeLine_eq]
          omega
        · rw [upd_same, row_succ (n := i + 1)]
          have ef := row_div (n := i + 1) (by omega) (hw (i + 1) (by omega) (by omega))
          show some (HO.lst (_ ++ [V.int ((-(sm (fun k => wS f l (1 + k) * R (i + 1 - (1 + k))) (i + 1))).fdiv ((i + 1 : Nat) : Int))])) = _
          rw [ef]
        · exact s9.trans ((SameO.of s10).trans .put)
    · rintro σ H9 ⟨x5, x7, rfl, e9, s9⟩
      have em : ((mo : Int) + 1 - 1).toNat = mo := by omega
      rw [em] at e9
      exact ⟨_, rfl, q p6 H9 hp6 (s9.back s8 hp6) e9⟩

end
end K63

set_option Elab.async false
set_option linter.all false
set_option maxRecDepth 100000
set_option maxHeartbeats 4000000
set_option pp.maxSteps 3000
set_option exponentiation.threshold 500000
namespace K63
open PySem PySem.Spec PyProof.Rows L2 Dr Xv LamX Ps Gn Fm
section
variable {P : Program} {w : World} {K : PySem.W.Frag} {mg : Str → Option Value} {base : Heap}
abbrev XL (P : Program) (w : World) (K : PySem.W.Frag) (mg : Str → Option Value) (base : Heap) (f c : Addr) (A : Around) (outer : List Env) (s : Shared) (H : Hp) (E : XK) : Cx := (cxOf CX0 P w K mg base N_law "law" (defScope s_law) f (.ref c) A outer s H E).nox
/-- _law_caught(lambda: body) -/
theorem pe_law {f c Pt : Addr} {A : Around} {outer : List Env} {s : Shared} {H : Hp} {E : XK} {body : Expr} {scope : Scope} {t : XK → TE} {k : Nat} {p lpos pos : Pos} (M : Mod P w K mg base) (TB : TabB base mg c Pt) (hr : Room (k + 2) (XL P w K mg base f c A outer s H E).A) (L : lamSB (defScope s_law) scope = true)
    (hg : Gl (XL P w K mg base f c A outer s H E) "_law_caught")
    (hbody : ∀ (A' : Around) (outer' : List Env) (s' : Shared) (H' : Hp) (E' : XK) (f' c' : Addr), Room k (A'.deeper (lamEnv (XL P w K mg base f c A outer s H E) scope s'.heap.objs.size f' c')) → PE (lamCx (XL P w K mg base f c A outer s H E) A' outer' s' H' E' scope f' c') body (t E')) :
    PE (XL P w K mg base f c A outer s H E) (.Call (.Name "_law_caught" p) [.Lambda noArgs body scope lpos] [] pos) (tLam [(Pt, qL)] (TCaught K M.a_SeriesError) t) := by
  obtain ⟨oc, od, dV, kV, doc, pm, an, cdv, ct, osl, e, lk, hcd, hD, hK⟩ := M.F__law_caught.ex
  have bC : L2.Binds K M.d__law_caught ["work"] [] := M.b__law_caught
  rw [e] at lk bC
  exact pe_lamcall (X := XL P w K mg base f c A outer s H E) (T := [(Pt, qL)]) (a := "work") hg M.g__law_caught M.k__law_caught lk hcd bC sc__law_caught rfl (Or.inl rfl)
    (caught_gives sc__law_caught rfl rfl rfl rfl M.g_SeriesError) TB rfl (List.mem_singleton.mpr rfl) (fun p hp _ => by rw [List.mem_singleton.mp hp]; rfl) hr (lamS_by L) rfl (fun _ _ _ _ _ => rfl) hbody

def sp__law_common : Sp := fun vs H Q _ => ∃ a b : Nat, vs = [.int (a : Int), .int (b : Int)] ∧ Q (.int ((Nat.gcd a b : Nat) : Int)) H
theorem ok__law_common (M : Mod P w K mg base) : FnOk P w K mg base CX0 1 M.f__law_common M.d__law_common ["one", "other"] sp__law_common := by
  refine M.F__law_common.ok sc__law_common (fun vs H Q E h => ?_) (fun cdv A outer s H vs Q E hr h => ?_)
  · obtain ⟨a, b, rfl, _⟩ := h
    rfl
  · obtain ⟨a, b, rfl, q⟩ := h
    refine ⟨_, PSs.nox (pss_cons (ps_while PassesOwn.never (pt_cmpR op_ne (pv 1) pe_int (nomark _)) 
        (pss_one (ps_par (i := 0) (j := 1) (by rfl) sc__law_common.nd rfl rfl (by decide) rfl rfl (pa_cons (pv 1) (pa_cons (pe_op op_modN (pv 0) (pv 1)) pa_nil)) (by rfl))))
      (pss_one (ps_ret (pe_callB call_abs (by rfl) M.abs0 boot_abs (pa_cons (pv 0) pa_nil))))), ?_⟩
    refine ⟨fun m σ' H' => ∃ x : Nat, σ' = [some (.int (x : Int)), some (.int (m : Int))] ∧ Nat.gcd x m = Nat.gcd a b ∧ H' = H, ⟨b, a, rfl, rfl, rfl⟩, ?_⟩
    rintro m σ H1 ⟨x, rfl, hg, rfl⟩
    refine ⟨_, rfl, rfl, _, rfl, ?_⟩
    by_cases c : m = 0
    · subst c
      refine iteF' (by simp) ?_
      refine ⟨_, rfl, _, rfl, ?_⟩
      have e : Nat.gcd x 0 = x := Nat.gcd_zero_right x
      rw [e] at hg
      rw [hg]
      exact q
    · refine iteT' (by
        rw [Bool.not_eq_true', decide_eq_false_iff_not]
        exact fun z => c (by injection z with z; omega)) ?_
      have e1 : ((x : Int)).fmod (m : Int) = ((x % m : Nat) : Int) := by
        rw [Int.fmod_eq_emod_of_nonneg _ (by omega)]
        exact (Int.natCast_emod x m).symm
      refine ⟨fun σ' H' => σ' = [some (.int (m : Int)), some (.int ((x % m : Nat) : Int))] ∧ H' = H1, ?_, ?_⟩
      · rintro σ' H' ⟨rfl, rfl⟩
        exact ⟨x % m, Nat.mod_lt _ (by omega), m, rfl, by rw [← hg, Nat.gcd_comm m, ← Nat.gcd_rec, Nat.gcd_comm], rfl⟩
      · refine ⟨_, rfl, _, rfl, _, rfl, _, _, rfl, rfl, by omega, tn <| ⟨_, _, rfl, ?_, rfl⟩⟩
        show [some (V.int (m : Int)), some (V.int (((x : Int)).fmod (m : Int)))] = _
        rw [e1]
def sp__law_multiple : Sp := fun vs H Q _ => ∃ a b : Nat, vs = [.int (a : Int), .int (b : Int)] ∧ 0 < a ∧ a < 2 ^ 200 ∧ (a < 2 ^ 64 ∨ b < 2 ^ 64) ∧ Q (.int ((Nat.lcm a b : Nat) : Int)) H
theorem ok__law_multiple (M : Mod P w K mg base) : FnOk P w K mg base CX0 2 M.f__law_multiple M.d__law_multiple ["one", "other"] sp__law_multiple := by
  refine M.F__law_multiple.ok sc__law_multiple (fun vs H Q E h => ?_) (fun cdv A outer s H vs Q E hr h => ?_)
  · obtain ⟨a, b, rfl, _⟩ := h
    rfl
  · obtain ⟨a, b, rfl, a0, ha, hb, q⟩ := h
    have l1 : (Nat.gcd a b).log2 < 200 := (Nat.log2_lt (Nat.ne_of_gt (Nat.gcd_pos_of_pos_left _ a0))).mpr (Nat.lt_of_le_of_lt (Nat.le_of_dvd a0 (Nat.gcd_dvd_left a b)) ha)
    have hc : CMul ((a / Nat.gcd a b : Nat) : Int) (b : Int) := by
      rcases hb with hb | hb
      · have z := Nat.div_le_self a (Nat.gcd a b)
        generalize a / Nat.gcd a b = y at z
        exact .inl ⟨by omega, by omega⟩
      · exact .inr ⟨by omega, by omega⟩
    refine ⟨_, PSs.nox (pss_one (ps_ret (pe_op op_mul (pe_op op_fdivB (pv 0) (pe_call (ok__law_common M) (hr.mono (by decide)) rfl M.g__law_common M.k__law_common M.b__law_common .nil pass0 (pa_cons (pv 0) (pa_cons (pv 1) pa_nil)))) (pv 1)))), ?_⟩
    have g0 : 0 < Nat.gcd a b := Nat.gcd_pos_of_pos_left _ a0
    have g1 : Nat.gcd a b ≤ a := Nat.le_of_dvd a0 (Nat.gcd_dvd_left a b)
    have e1 : ((a : Int)).fdiv ((Nat.gcd a b : Nat) : Int) = ((a / Nat.gcd a b : Nat) : Int) := by
      rw [Int.fdiv_eq_ediv_of_nonneg _ (by omega)]
      exact (Int.natCast_ediv a _).symm
    have e2 : a / Nat.gcd a b * b = Nat.lcm a b := by
      unfold Nat.lcm
      exact Nat.div_mul_right_comm (Nat.gcd_dvd_left a b) b
    refine ⟨_, rfl, _, rfl, _, rfl, tn <| ⟨a, b, rfl, _, _, rfl, rfl, ⟨by omega, ?_⟩, ?_⟩⟩
    · rw [Int.natAbs_natCast]
      omega
    · show tVar 1 _ H fun y H2 => rI CMul (fun i j => V.int (i * j)) (V.int ((a : Int).fdiv ((Nat.gcd a b : Nat) : Int))) y H2 _
      rw [e1]
      refine ⟨_, rfl, _, _, rfl, rfl, hc, ?_⟩
      show Q (V.int (((a / Nat.gcd a b : Nat) : Int) * (b : Int))) H
      rw [← Int.natCast_mul, e2]
      exact q
def kL (l : List Nat) : Nat := l.foldl Nat.lcm 1
theorem kL_snoc (l : List Nat) (c : Nat) : kL (l ++ [c]) = Nat.lcm (kL l) c := by
  unfold kL
  rw [List.foldl_append]
  rfl
theorem kL_ints (l : List Nat) : kL l = lcmL (l.map fun c : Nat => (c : Int)) := by
  unfold kL lcmL
  rw [List.foldl_map]
  rfl
theorem kL_pos {l : List Nat} (h : ∀ c ∈ l, 1 ≤ c) : 0 < kL l := by
  rw [kL_ints]
  refine lcmL_pos fun x hx => ?_
  obtain ⟨c, hc, rfl⟩ := List.mem_map.mp hx
  have := h c hc
  omega
def sp__law_level : Sp := fun vs H Q _ => ∃ (a : Addr) (f : Nat → Int) (l : List Nat), vs = [.ref a] ∧ H a = some (.dK (Qm.kvs f l)) ∧ (∀ c ∈ l, 1 ≤ c ∧ c ≤ 360) ∧ (∀ i, kL (l.take i) < 2 ^ 200) ∧ ∀ H', Same H H' → Q (.int (kL l : Int)) H'
theorem ok__law_level (M : Mod P w K mg base) : FnOk P w K mg base CX0 3 M.f__law_level M.d__law_level ["quotient"] sp__law_level := by
  refine M.F__law_level.ok sc__law_level (fun vs H Q E h => ?_) (fun cdv A outer s H vs Q E hr h => ?_)
  · obtain ⟨a, f, l, rfl, _⟩ := h
    rfl
  · obtain ⟨a, f, l, rfl, ea, hb, hk, q⟩ := h
    refine ⟨_, PSs.nox (pss_cons (ps_set (i := 1) sc__law_level.nd rfl (Or.inl rfl) pe_int)
      (pss_cons (ps_lock (ps_for PassesOwn.never rfl (pi_keys (pv 0)) (pg_name (i := 2) sc__law_level.nd rfl (Or.inl rfl)) 
        (pss_one (ps_set (i := 1) sc__law_level.nd rfl (Or.inl rfl) (pe_call (ok__law_multiple M) (hr.mono (by decide)) rfl M.g__law_multiple M.k__law_multiple M.b__law_multiple .nil pass0 (pa_cons (pv 1) (pa_cons (pv 2) pa_nil)))))))
      (pss_one (ps_ret (pv 1))))), ?_⟩
    refine ⟨a, _, ea, trivial, fun od => ?_⟩
    have e1 : (upd H a (.frz od (.dK (Qm.kvs f l)))) a = some (.frz od (.dK (Qm.kvs f l))) := upd_same
    have back : ∀ H', Same (upd H a (.frz od (.dK (Qm.kvs f l)))) H' → Same H (upd H' a (.dK (Qm.kvs f l))) := fun H' s => same_lock ea s
    refine ⟨_, rfl, a, od, rfl, .inl ⟨_, e1, for_it walk_keys (fun i σ H' => ∃ x2, σ = [some (.ref a), some (.int (kL (l.take i) : Int)), x2] ∧ Same (upd H a (.frz od (.dK (Qm.kvs f l)))) H') ⟨_, rfl, fun _ _ e => e⟩ (fun i σ H' _ ⟨_, _, s⟩ => s _ _ e1) ?_ ?_⟩⟩
    · rintro i x σ H2 H3 hi ⟨x2, rfl, s2⟩ ⟨rfl, k, v, ek, rfl⟩
      obtain ⟨c, hc, rfl, rfl⟩ := Qm.kvs_at ek
      have cb := hb c (List.mem_of_getElem? hc)
      have p0 : 0 < kL (l.take i) := kL_pos fun c hc => (hb c (List.mem_of_mem_take hc)).1
      refine ⟨_, rfl, _, rfl, kL (l.take i), c, rfl, p0, hk i, .inr (by omega), ?_⟩
      refine ⟨some (.int (c : Int)), ?_, s2⟩
      rw [Qm.take_next hc, kL_snoc]
      rfl
    · rintro σ H2 ⟨x2, rfl, s2⟩
      rw [Qm.kvs_len, List.take_length]
      exact ⟨s2 _ _ e1, _, rfl, q _ (back _ s2)⟩
theorem pair_app {α β : Type} {R : α → β → Prop} {x : α} {y : β} : ∀ {xs : List α} {ys : List β}, Paired R xs ys → R x y → Paired R (xs ++ [x]) (ys ++ [y])
  | _, _, .nil, h => .cons h .nil
  | _, _, .cons a b, h => .cons a (pair_app b h)
theorem pair_mono {α β : Type} {R T : α → β → Prop} : ∀ {xs : List α} {ys : List β}, Paired R xs ys → (∀ x y, R x y → T x y) → Paired T xs ys
  | _, _, .nil, _ => .nil
  | _, _, .cons a b, h => .cons (h _ _ a) (pair_mono b h)
theorem merge_from {f : Nat → Int} : ∀ {l acc : List Nat}, (acc ++ l).Nodup → mergeK (Qm.kvs f acc) (Qm.kvs f l) = Qm.kvs f (acc ++ l)
  | [], acc, _ => by
    rw [List.append_nil]
    rfl
  | c :: l, acc, h => by
    have ni : c ∉ acc := fun z => (List.nodup_append.mp h).2.2 c z c List.mem_cons_self rfl
    show mergeK (putK (Qm.kvs f acc) _ _) (Qm.kvs f l) = _
    rw [Qm.kvs_put ni, merge_from (by rwa [List.append_assoc]), List.append_assoc]
    rfl
theorem merge_kvs {f : Nat → Int} {l : List Nat} (h : l.Nodup) : mergeK [] (Qm.kvs f l) = Qm.kvs f l := merge_from (acc := []) h
theorem sort_nat {ys : List Int} {L : List Nat} (hp : ys.Perm (L.map fun c : Nat => (c : Int))) (hd : ys.Pairwise (· ≤ ·)) (nd : L.Nodup) : ∃ s : List Nat, ys = s.map (fun c : Nat => (c : Int)) ∧ s.Pairwise (· < ·) ∧ ∀ d, d ∈ s ↔ d ∈ L := by
  have e0 : ys = (ys.map Int.toNat).map fun c : Nat => (c : Int) := by
    rw [List.map_map]
    conv => lhs; rw [← List.map_id ys]
    refine List.map_congr_left fun x hx => ?_
    obtain ⟨c, _, rfl⟩ := List.mem_map.mp (hp.mem_iff.mp hx)
    show (c : Int) = (((c : Int).toNat : Nat) : Int)
    rw [Int.toNat_natCast]
  have pp : (ys.map Int.toNat).Perm L := by
    have := hp.map Int.toNat
    rw [List.map_map] at this
    have e1 : List.map (Int.toNat ∘ fun c : Nat => (c : Int)) L = L := by
      conv => rhs; rw [← List.map_id L]
      exact List.map_congr_left fun c _ => Int.toNat_natCast c
    rwa [e1] at this
  refine ⟨ys.map Int.toNat, e0, ?_, fun d => pp.mem_iff⟩
  rw [e0, List.pairwise_map] at hd
  have nn : (ys.map Int.toNat).Nodup := pp.nodup_iff.mpr nd
  refine (List.pairwise_iff_getElem.mpr fun i j hi hj hij => ?_)
  have h2 := List.pairwise_iff_getElem.mp hd i j hi hj hij
  have h3 := List.pairwise_iff_getElem.mp nn i j hi hj hij
  omega
def sp__law_ascending : Sp := fun vs H Q _ => ∃ (a : Addr) (f : Nat → Int) (l : List Nat), vs = [.ref a] ∧ H a = some (.dK (Qm.kvs f l)) ∧ l.Nodup ∧ l.length < 64 ∧ (∀ d, f d ≠ 0 → d ∈ l) ∧ (∀ d ∈ l, d ≤ 360) ∧
  ∀ (p : Addr) (H' : Hp), H p = none → Same H H' → H' p = some (.dK (Qm.kvs f (Qm.nz f))) → Q (.ref p) H'
theorem ok__law_ascending (M : Mod P w K mg base) : FnOk P w K mg base CX0 1 M.f__law_ascending M.d__law_ascending ["quotient"] sp__law_ascending := by
  refine M.F__law_ascending.ok sc__law_ascending (fun vs H Q E h => ?_) (fun cdv A outer s H vs Q E hr h => ?_)
  · obtain ⟨a, f, l, rfl, _⟩ := h
    rfl
  · obtain ⟨a, f, l, rfl, ea, nd, l64, hin, h360, q⟩ := h
    have hu : (A.deeper (envOfC (Str.ofString "_law_ascending") (defScope s__law_ascending) s.heap.objs.size M.f__law_ascending cdv)).units + 1 < cLine := by
      have := hu65 hr
      omega
    refine ⟨_, PSs.nox (pss_one (ps_ret (pe_callTy (call_dictP rfl) (by rfl) M.dict0 (by decide +kernel) (pa_cons (pe_lc (own := [("d", 1)]) (g := (gName 1)) (by rfl) sc__law_ascending.nd (pi_list (pe_callB (call_sortedDI rfl) (by rfl) M.sorted0 (by decide +kernel) (pa_cons (pv 0) pa_nil))) (blkOk_by (own := [("d", 1)]) (N := N__law_ascending) (sc := defScope s__law_ascending) (by decide +kernel))
        (fun _ _ _ _ _ => (pg_name (i := 1) sc__law_ascending.nd rfl (Or.inl rfl))) (fun _ _ _ _ _ => (pts_one (pt_cmpR op_ne (pe_dget hu (pv 0) (pv 1) (fun _ _ => rfl)) pe_int (nomark _)))) (fun _ _ _ _ _ => (pe_tup (pa_cons (pv 1) (pa_cons (pe_dget hu (pv 0) (pv 1) (fun _ _ => rfl)) pa_nil))))) pa_nil)))), ?_⟩
    refine ⟨_, rfl, a, Qm.kvs f l, l.map fun c : Nat => (c : Int), rfl, .inl ea, Qm.kvs_keys f l, by rw [List.length_map]; omega, fun ys p hp hd h1 => ?_⟩
    obtain ⟨s, es, sa, sm⟩ : ∃ s : List Nat, ys = s.map (fun c : Nat => (c : Int)) ∧ s.Pairwise (· < ·) ∧ ∀ d, d ∈ s ↔ d ∈ l := sort_nat hp hd nd
    subst es
    have sl : s.length < 64 := by
      have := hp.length_eq
      rw [List.length_map, List.length_map] at this
      omega
    have fz : s.filter (fun c => decide (f c ≠ 0)) = Qm.nz f := Qm.asc_nz (List.Pairwise.filter _ sa) fun d => by
      rw [List.mem_filter, sm, decide_eq_true_eq]
      constructor
      · rintro ⟨h1, h2⟩
        have := h360 d h1
        exact ⟨by omega, h2⟩
      · rintro ⟨_, h2⟩
        exact ⟨hin d h2, h2⟩
    have s6 := same_new (o := .lst ((s.map fun c : Nat => (c : Int)).map V.int)) h1
    have e6 : (upd H p (.lst ((s.map fun c : Nat => (c : Int)).map V.int))) p = some (.lst ((s.map fun c : Nat => (c : Int)).map V.int)) := upd_same
    have f6 := s6 _ _ ea
    generalize upd H p (.lst ((s.map fun c : Nat => (c : Int)).map V.int)) = H6 at s6 e6 f6 ⊢
    refine ⟨p, rfl, ⟨_, SqL.of e6⟩, fun D2 hD2 => lc_list (K := K) (a := p) (xs := (s.map fun c : Nat => (c : Int)).map V.int) (fun i H' => (∃ ps : List Addr, H' D2 = some (.lst (ps.map V.ref)) ∧ ps.length ≤ i ∧ Paired (fun p kv => H' p = some (.tup [kV kv.1, kv.2])) ps (Qm.kvs f ((s.take i).filter fun c => decide (f c ≠ 0)))) ∧ Same H6 H') ⟨⟨[], upd_same, Nat.le_refl _, .nil⟩, same_new hD2⟩ (fun i H' _ ⟨_, s⟩ => SqL.of (s _ _ e6)) ?_ ?_⟩
    · rintro i x H7 hx ⟨⟨ps, h7, pl, pp⟩, s7⟩
      rw [List.getElem?_map, List.getElem?_map] at hx
      cases hc : s[i]? with
      | none =>
        rw [hc] at hx
        cases hx
      | some c =>
        rw [hc] at hx
        cases hx
        have hcl := (sm c).mp (List.mem_of_getElem? hc)
        have il := (List.getElem?_eq_some_iff.mp hc).1
        have gd : ∀ H8, Same H7 H8 → DGet H8 a (.int (c : Int)) (some (.int (f c))) := fun H8 s8 => .inl ⟨Qm.kvs f l, .inl (c : Int), .inl (s8 _ _ (s7 _ _ f6)), rfl, by rw [Qm.kvs_val, if_pos hcl]⟩
        refine ⟨rfl, _, rfl, _, rfl, a, _, rfl, gd _ (fun _ _ e => e), rfl, _, rfl, ?_⟩
        by_cases c0 : f c = 0
        · refine iteF' (by rw [c0]; rfl) ⟨⟨ps, h7, by omega, ?_⟩, s7⟩
          rw [Qm.take_next hc, List.filter_append, List.filter_cons_of_neg (by simpa using c0)]
          simpa using pp
        · refine iteT' (by
            rw [Bool.not_eq_true', decide_eq_false_iff_not]
            exact fun z => c0 (by injection z)) ⟨_, rfl, _, rfl, _, rfl, a, _, rfl, gd _ (fun _ _ e => e), (by show 2 ≤ sizeLine; decide), fun T hT => ?_⟩
          have sT := same_new (o := .tup [V.int (c : Int), V.int (f c)]) hT
          have nT : D2 ≠ T := ne_of_none h7 hT
          refine ⟨_, sT _ _ h7, ?_, ⟨ps ++ [T], ?_, ?_, ?_⟩, fun b o ob => ?_⟩
          · rw [List.length_map, sizeLine_eq]
            omega
          · rw [upd_same, List.map_append]
            rfl
          · rw [List.length_append]
            exact Nat.succ_le_succ pl
          · rw [Qm.take_next hc, List.filter_append, List.filter_cons_of_pos (by simpa using c0)]
            unfold Qm.kvs at pp ⊢
            rw [List.map_append]
            refine pair_app (pair_mono pp fun p kv e => ?_) ?_
            · have nD : p ≠ D2 := ne_of e h7 (fun z => by cases z)
              rw [upd_ne nD]
              exact sT _ _ e
            · rw [upd_ne nT.symm]
              exact upd_same
          · rw [upd_ne (ne_of_none ob hD2)]
            exact sT _ _ (s7 _ _ ob)
    · rintro H7 ⟨⟨ps, h7, pl, pp⟩, s7⟩
      rw [List.length_map, List.length_map, List.take_length, fz] at pp
      refine tn <| ⟨D2, ps, _, rfl, SqL.of h7, pair_mono pp fun p kv e => SqT.of e, fun p5 h5 => ?_⟩
      have s67 := s6.trans s7
      refine q p5 _ (s67.free h5) (s67.trans (same_new h5)) ?_
      rw [upd_same, merge_kvs ((Qm.nz_asc f).imp fun h => Nat.ne_of_lt h)]

end
end K63

set_option Elab.async false
set_option linter.all false
set_option maxRecDepth 100000
set_option maxHeartbeats 4000000
set_option pp.maxSteps 3000
set_option exponentiation.threshold 500000
namespace K63
open PySem PySem.Spec PyProof.Rows L2 Dr Xv LamX Ps Gn Fm
section
variable {P : Program} {w : World} {K : PySem.W.Frag} {mg : Str → Option Value} {base : Heap}
def Acc (f : Nat → Int) (l : List Nat) (n : Nat) : Prop := l.Nodup ∧ l.length ≤ n ∧ (∀ d, f d ≠ 0 → d ∈ l) ∧ ∀ d ∈ l, d ≤ 360
theorem Acc.next {f g : Nat → Int} {l m : List Nat} {n : Nat} (A : Acc f l n) (hm : m.Nodup) (h360 : ∀ d ∈ m, d ≤ 360) : Acc (Qm.hs f g m m.length) (Qm.ls l m m.length) (n + m.length) := by
  obtain ⟨h1, h2, h3, h4⟩ := A
  refine ⟨Qm.ls_nodup h1 hm _, ?_, fun d hd => ?_, fun d hd => ?_⟩
  · have := Qm.ls_len l m m.length
    omega
  · unfold Qm.ls
    by_cases c : d ∈ l
    · exact List.mem_append_left _ c
    · refine List.mem_append_right _ (List.mem_filter.mpr ⟨?_, decide_eq_true c⟩)
      have f0 : f d = 0 := by
        by_cases z : f d = 0
        · exact z
        · exact absurd (h3 d z) c
      by_cases k : d ∈ m.take m.length
      · exact k
      · exfalso
        apply hd
        show f d + (if d ∈ m.take m.length then g d else 0) = 0
        rw [f0, if_neg k]
        rfl
  · rcases List.mem_append.mp hd with z | z
    · exact h4 d z
    · exact h360 d (List.mem_of_mem_take (List.mem_filter.mp z).1)
def sp__law_theta : Sp := fun vs H Q _ => ∃ (a : Addr) (form : List Nat), vs = [.ref a] ∧ H a = some (.tup (fV form)) ∧ Fo form ∧ ∀ (p : Addr) (H' : Hp), H p = none → Same H H' → H' p = some (.dK (Qm.kvs (thE form) (Qm.nz (thE form)))) → Q (.ref p) H'
theorem ok__law_theta (M : Mod P w K mg base) : FnOk P w K mg base CX0 2 M.f__law_theta M.d__law_theta ["form"] sp__law_theta := by
  refine M.F__law_theta.ok sc__law_theta (fun vs H Q E h => ?_) (fun cdv A outer s H vs Q E hr h => ?_)
  · obtain ⟨a, form, rfl, _⟩ := h
    rfl
  · obtain ⟨a, form, rfl, ea, F, q⟩ := h
    have hu : (A.deeper (envOfC (Str.ofString "_law_theta") (defScope s__law_theta) s.heap.objs.size M.f__law_theta cdv)).units + 1 < cLine := by
      have := hu65 hr
      omega
    refine ⟨_, PSs.nox (pss_cons (ps_set (i := 1) sc__law_theta.nd rfl (Or.inl rfl) pe_dnewK)
      (pss_cons (ps_for PassesOwn.never rfl (pi_tup (pv 0)) (pg_name (i := 2) sc__law_theta.nd rfl (Or.inl rfl)) 
        (pss_one (ps_for PassesOwn.never rfl (pi_list (pe_lst (pa_cons (pe_tup (pa_cons (pv 2) (pa_cons (pe_un un_neg pe_int) pa_nil))) (pa_cons (pe_tup (pa_cons (pe_op op_mul pe_int (pv 2)) (pa_cons pe_int pa_nil))) (pa_cons (pe_tup (pa_cons (pe_op op_mul pe_int (pv 2)) (pa_cons (pe_un un_neg pe_int) pa_nil))) pa_nil))))) (pg_tup rfl (pgs_cons (pg_name (i := 3) sc__law_theta.nd rfl (Or.inl rfl)) (pgs_cons (pg_name (i := 4) sc__law_theta.nd rfl (Or.inl rfl)) pgs_nil))) 
          (pss_one (ps_dput hu (pv 1) (pv 3) (pe_op op_add (pe_ifExp (pt_cmp (pc_din hu (pv 3) (pv 1)) (by rfl)) (pe_dget hu (pv 1) (pv 3) (fun _ _ => rfl)) pe_int) (pv 4)) rfl)))))
      (pss_one (ps_ret (pe_call (ok__law_ascending M) (hr.mono (by decide)) rfl M.g__law_ascending M.k__law_ascending M.b__law_ascending .nil pass0 (pa_cons (pv 1) pa_nil)))))), ?_⟩
    refine fun p hp => ?_
    have s0 := same_new (o := .dK []) hp
    have e0 : (upd H p (.dK [])) p = some (.dK []) := upd_same
    generalize upd H p (.dK []) = H1 at s0 e0 ⊢
    have l2 := F.l2
    refine ⟨_, rfl, a, rfl, ⟨_, SqT.of (s0 _ _ ea)⟩, for_tup (K := K) (a := a) (xs := fV form) (fun i σ H' => ∃ (x2 x3 x4 : Option V) (l : List Nat), σ = [some (.ref a), some (.ref p), x2, x3, x4] ∧ Same H H' ∧ H' p = some (.dK (Qm.kvs (thE (form.take i)) l)) ∧ Acc (thE (form.take i)) l (3 * i)) ⟨_, _, _, [], rfl, s0, e0, .nil, Nat.le_refl _, (fun d hd => absurd rfl hd), fun d hd => absurd hd List.not_mem_nil⟩ (fun i σ H' _ ⟨_, _, _, _, _, s, _⟩ => SqT.of (s _ _ ea)) ?_ ?_⟩
    · rintro i x σ H2 hi ⟨x2, x3, x4, l, rfl, s2, e2, A2⟩
      obtain ⟨b, hb, rfl⟩ := fV_at hi
      have bm := List.mem_of_getElem? hb
      have b1 := F.a1 b bm
      have b2 := F.a2 b bm
      have il := (List.getElem?_eq_some_iff.mp hb).1
      have hpa : p ≠ a := (ne_of_none ea hp).symm
      obtain ⟨m, em⟩ : ∃ m, m = [b, 2 * b, 4 * b] := ⟨_, rfl⟩
      have hm : m.Nodup := by
        rw [em]
        simp
        omega
      have h360 : ∀ d ∈ m, d ≤ 360 := fun d hd => by
        rw [em] at hd
        simp at hd
        omega
      have g1 : gaE b b = -2 := by
        unfold gaE
        rw [if_pos rfl]
      have g2 : gaE b (2 * b) = 5 := by
        unfold gaE
        rw [if_neg (by omega), if_pos rfl]
      have g4 : gaE b (4 * b) = -2 := by
        unfold gaE
        rw [if_neg (by omega), if_neg (by omega)]
      have c2 : (2 : Int) * (b : Int) = ((2 * b : Nat) : Int) := by omega
      have c4 : (4 : Int) * (b : Int) = ((4 * b : Nat) : Int) := by omega
      refine ⟨_, rfl, _, rfl, (by show 2 ≤ sizeLine; decide), fun T1 h1 => ⟨_, rfl, _, _, rfl, rfl, .inl ⟨by decide, by decide⟩, (by show 2 ≤ sizeLine; decide), fun T2 h2 => ⟨_, rfl, _, _, rfl, rfl, .inl ⟨by decide, by decide⟩, _, rfl, (by show 2 ≤ sizeLine; decide), fun T3 h3 => ⟨(by show 3 ≤ sizeLine; decide), fun L hL => ?_⟩⟩⟩⟩
      have q1 := same_new (o := .tup [V.int (b : Int), V.int (-2)]) h1
      have q2 := same_new (o := .tup [V.int (2 * (b : Int)), V.int 5]) h2
      have q3 := same_new (o := .tup [V.int (4 * (b : Int)), V.int (-2)]) h3
      have q4 := same_new (o := .lst [V.ref T1, V.ref T2, V.ref T3]) hL
      have k1 := q4 _ _ (q3 _ _ (q2 _ _ (upd_same (H := H2) (a := T1) (o := .tup [V.int (b : Int), V.int (-2)]))))
      have k2 := q4 _ _ (q3 _ _ (upd_same (a := T2) (o := .tup [V.int (2 * (b : Int)), V.int 5])))
      have k3 := q4 _ _ (upd_same (a := T3) (o := .tup [V.int (4 * (b : Int)), V.int (-2)]))
      have kL := upd_same (H := upd (upd (upd H2 T1 (.tup [V.int (b : Int), V.int (-2)])) T2 (.tup [V.int (2 * (b : Int)), V.int 5])) T3 (.tup [V.int (4 * (b : Int)), V.int (-2)])) (a := L) (o := .lst [V.ref T1, V.ref T2, V.ref T3])
      have q14 := q1.trans (q2.trans (q3.trans q4))
      generalize upd (upd (upd (upd H2 T1 (.tup [V.int (b : Int), V.int (-2)])) T2 (.tup [V.int (2 * (b : Int)), V.int 5])) T3 (.tup [V.int (4 * (b : Int)), V.int (-2)])) L (.lst [V.ref T1, V.ref T2, V.ref T3]) = H3 at k1 k2 k3 kL q14 ⊢
      clear q1 q2 q3 q4 h1 h2 h3 hL
      rw [c2] at k2
      rw [c4] at k3
      have e3 := q14 _ _ e2
      have nL : L ≠ p := ne_of kL e3 (fun z => by cases z)
      have get : ∀ (j : Nat) (x : V), [V.ref T1, V.ref T2, V.ref T3][j]? = some x → ∃ (t : Addr) (c : Nat), x = .ref t ∧ m[j]? = some c ∧ H3 t = some (.tup [V.int (c : Int), V.int (gaE b c)]) := fun j x hx => by
        rw [em]
        match j, hx with
        | 0, hx =>
          cases hx
          exact ⟨T1, b, rfl, rfl, by rw [g1]; exact k1⟩
        | 1, hx =>
          cases hx
          exact ⟨T2, 2 * b, rfl, rfl, by rw [g2]; exact k2⟩
        | 2, hx =>
          cases hx
          exact ⟨T3, 4 * b, rfl, rfl, by rw [g4]; exact k3⟩
        | j + 3, hx => cases hx
      have zero : ∀ c, c ∉ l → thE (form.take i) c = 0 := fun c hc => by
        by_cases z : thE (form.take i) c = 0
        · exact z
        · exact absurd (A2.2.2.1 c z) hc
      refine ⟨L, rfl, ⟨_, SqL.of kL⟩, for_list (K := K) (a := L) (xs := [V.ref T1, V.ref T2, V.ref T3]) (fun j σ H' => ∃ (x3 x4 : Option V), σ = [some (.ref a), some (.ref p), some (.int (b : Int)), x3, x4] ∧ SameO p H3 H' ∧ H' p = some (.dK (Qm.kvs (Qm.hs (thE (form.take i)) (gaE b) m j) (Qm.ls l m j)))) ⟨_, _, rfl, .refl, by rw [Qm.hs_zero, Qm.ls_zero]; exact e3⟩ (fun j σ H' _ ⟨_, _, _, so, _⟩ => SqL.of (so _ _ kL nL)) ?_ ?_⟩
      · rintro j x σ H4 hx ⟨y3, y4, rfl, so, e4⟩
        obtain ⟨t, c, rfl, hc, et⟩ := get j x hx
        have nt : t ≠ p := ne_of et e3 (fun z => by cases z)
        refine ⟨t, _, rfl, SqT.of (so _ _ et nt), rfl, _, _, rfl, _, _, rfl, rfl, ?_⟩
        have lk : (Qm.kvs (Qm.hs (thE (form.take i)) (gaE b) m j) (Qm.ls l m j)).length < sizeLine := by
          have z1 := Qm.ls_len l m j
          have z2 := A2.2.1
          have z3 : m.length = 3 := by
            rw [em]
            rfl
          rw [Qm.kvs_len, sizeLine_eq]
          omega
        have hg := Qm.hs_get (g := gaE b) (i := j) hm hc (zero c)
        refine ⟨_, rfl, _, rfl, p, _, rfl, DGet.k (k := .inl (c : Int)) e4, _, rfl, ?_⟩
        cases hv : valV (Qm.kvs (Qm.hs (thE (form.take i)) (gaE b) m j) (Qm.ls l m j)) (Sum.inl (c : Int)) with
        | none =>
          rw [hv] at hg
          have z0 : thE (form.take i) c = 0 := by
            have : V.int 0 = V.int (thE (form.take i) c) := hg
            injection this with this
            exact this.symm
          refine iteF ⟨_, rfl, _, _, rfl, rfl, _, rfl, _, rfl, p, _, rfl, DPut.k (k := .inl (c : Int)) e4 lk, _, _, rfl, so.trans .put, ?_⟩
          rw [upd_same]
          have w := Qm.hs_put (f := thE (form.take i)) (g := gaE b) (l := l) hm hc
          rw [z0] at w
          rw [← w]
        | some v =>
          rw [hv] at hg
          have ev : v = V.int (thE (form.take i) c) := hg
          subst ev
          have gd : DGet H4 p (.int (c : Int)) (some (.int (thE (form.take i) c))) := by
            rw [← hv]
            exact DGet.k (k := .inl (c : Int)) e4
          refine iteT ⟨_, rfl, _, rfl, p, _, rfl, gd, _, rfl, _, _, rfl, rfl, _, rfl, _, rfl, p, _, rfl, DPut.k (k := .inl (c : Int)) e4 lk, _, _, rfl, so.trans .put, ?_⟩
          rw [upd_same, ← Qm.hs_put hm hc]
      · rintro σ H4 ⟨y3, y4, rfl, so, e4⟩
        have n3 : [V.ref T1, V.ref T2, V.ref T3].length = m.length := by
          rw [em]
          rfl
        rw [n3] at e4
        have eh : Qm.hs (thE (form.take i)) (gaE b) m m.length = thE (form.take (i + 1)) := by
          rw [Qm.take_next hb, em]
          exact thE_hs
        have A4 := A2.next (g := gaE b) hm h360
        have m3 : m.length = 3 := by
          rw [em]
          rfl
        rw [eh] at e4 A4
        refine ⟨_, _, _, _, rfl, ?_, e4, ?_⟩
        · exact fun b' o e => so _ _ (q14 _ _ (s2 _ _ e)) (ne_of_none e hp)
        · rw [m3] at A4 ⊢
          exact A4
    · rintro σ H2 ⟨x2, x3, x4, l, rfl, s2, e2, A2⟩
      have el : (fV form).length = form.length := List.length_map _
      rw [el, List.take_length] at e2 A2
      obtain ⟨h1, h2, h3, h4⟩ := A2
      exact ⟨_, rfl, p, thE form, l, rfl, e2, h1, by omega, h3, h4, fun p5 H5 h5 s5 e5 => q p5 H5 (s2.free h5) (s2.trans s5) e5⟩

end
end K63

set_option Elab.async false
set_option linter.all false
set_option maxRecDepth 100000
set_option maxHeartbeats 4000000
set_option pp.maxSteps 3000
set_option exponentiation.threshold 500000
namespace K63
open PySem PySem.Spec PyProof.Rows L2 Dr Xv LamX Ps Gn Fm
section
variable {P : Program} {w : World} {K : PySem.W.Frag} {mg : Str → Option Value} {base : Heap}
def sp__law_form : Sp := fun vs H Q _ => ∃ (d l c : Addr) (mo : Nat), vs = [.ref d, .int (mo : Int)] ∧ Draw H d l c ∧ 1 ≤ mo ∧ mo ≤ 12 ∧ ∀ (p : Addr) (H' : Hp) (form : List Nat), H p = none → p ≠ d → p ≠ l → Draw H' d l c → SameX d l H H' → H' p = some (.tup (fV form)) → Fo form → form.Pairwise (· ≤ ·) → Q (.ref p) H'
theorem ok__law_form (M : Mod P w K mg base) : FnOk P w K mg base CX0 4 M.f__law_form M.d__law_form ["draw", "most"] sp__law_form := by
  refine M.F__law_form.ok sc__law_form (fun vs H Q E h => ?_) (fun cdv A outer s H vs Q E hr h => ?_)
  · obtain ⟨d, l, c, mo, rfl, _⟩ := h
    rfl
  · obtain ⟨d, l, c, mo, rfl, D0, m1, m2, q⟩ := h
    refine ⟨_, PSs.nox (pss_cons (ps_set (i := 2) sc__law_form.nd rfl (Or.inl rfl) (pe_op op_add pe_int (pe_call (ok__law_take M) (hr.mono (by decide)) rfl M.g__law_take M.k__law_take M.b__law_take .nil pass0 (pa_cons (pv 0) (pa_cons (pv 1) pa_nil)))))
      (pss_one (ps_ret (pe_callTy call_tuple_of (by rfl) M.tuple0 (by decide +kernel) (pa_cons (pe_callB cr_sortedI (by rfl) M.sorted0 (by decide +kernel) (pa_cons (pe_lc (own := [("k", 3)]) (g := (gName 3)) (by rfl) sc__law_form.nd (pi_range1 (by rfl) M.range0 (pa_cons (pv 2) pa_nil)) (blkOk_by (own := [("k", 3)]) (N := N__law_form) (sc := defScope s__law_form) (by decide +kernel))
        (fun _ _ _ _ _ => (pg_name (i := 3) sc__law_form.nd rfl (Or.inl rfl))) (fun _ _ _ _ _ => pts_nil) (fun _ _ _ _ _ => (pe_call (ok__law_pick M) (hr.mono (by decide)) rfl M.g__law_pick M.k__law_pick M.b__law_pick .nil pass0 (pa_cons (pv 0) (pa_cons (pe_lst (pa_cons pe_int (pa_cons pe_int (pa_cons pe_int (pa_cons pe_int (pa_cons pe_int (pa_cons pe_int (pa_cons (pe_op op_add pe_int (pe_call (ok__law_take M) (hr.mono (by decide)) rfl M.g__law_take M.k__law_take M.b__law_take .nil pass0 (pa_cons (pv 0) (pa_cons pe_int pa_nil)))) (pa_cons (pe_op op_add pe_int (pe_call (ok__law_take M) (hr.mono (by decide)) rfl M.g__law_take M.k__law_take M.b__law_take .nil pass0 (pa_cons (pv 0) (pa_cons pe_int pa_nil)))) pa_nil))))))))) pa_nil))))) pa_nil)) pa_nil))))), ?_⟩
    refine ⟨_, rfl, _, rfl, d, l, c, (mo : Int), rfl, D0, by omega, log_small (n := mo) (by omega), fun v H1 v0 v1 D1 s1 => ?_⟩
    obtain ⟨n, rfl⟩ : ∃ n : Nat, v = (n : Int) := ⟨v.toNat, by omega⟩
    refine ⟨_, _, rfl, rfl, ?_⟩
    have hn : n ≤ 11 := by omega
    refine ⟨_, rfl, _, rfl, by omega, by omega, fun Dk hDk => lc_range (lo := 0) (n := (1 + (n : Int)).toNat) (fun j H' => ∃ ns : List Int, H' Dk = some (.lst (ns.map V.int)) ∧ ns.length = j ∧ (∀ x ∈ ns, 1 ≤ x ∧ x ≤ 90) ∧ Draw H' d l c ∧ SameX d l H1 H') ⟨[], upd_same, rfl, (fun x hx => absurd hx List.not_mem_nil), D1.same (same_new hDk), sameX_new hDk⟩ ?_ ?_⟩
    · rintro j H6 hj ⟨ns, h6, U, nb, D6, s6⟩
      obtain ⟨kd, kl2, kc⟩ := D1.ne hDk
      refine ⟨rfl, yesT ⟨_, rfl, _, rfl, d, l, c, 9, rfl, D6, by decide, log_small (n := 9) (by decide), fun v H7 v0 v1 D7 s7 => ⟨_, _, rfl, rfl, _, rfl, d, l, c, 90, rfl, D7, by decide, log_small (n := 90) (by decide), fun u H8 u0 u1 D8 s8 => ⟨_, _, rfl, rfl, (by show 8 ≤ sizeLine; decide), fun z hz => ?_⟩⟩⟩⟩
      have s9 := same_new (o := .lst [V.int 1, V.int 1, V.int 2, V.int 3, V.int 4, V.int 5, V.int (1 + v), V.int (1 + u)]) hz
      have D9 := D8.same s9
      have e9 : (upd H8 z (.lst [V.int 1, V.int 1, V.int 2, V.int 3, V.int 4, V.int 5, V.int (1 + v), V.int (1 + u)])) z = some (.lst [V.int 1, V.int 1, V.int 2, V.int 3, V.int 4, V.int 5, V.int (1 + v), V.int (1 + u)]) := upd_same
      obtain ⟨z1, z2, _⟩ := D8.ne hz
      refine ⟨d, l, c, z, [V.int 1, V.int 1, V.int 2, V.int 3, V.int 4, V.int 5, V.int (1 + v), V.int (1 + u)], rfl, D9, (fun H' s' => SqL.of (s' _ _ e9 z1 z2)), by simp, (by show 8 ≤ 1000; decide), fun mv H10 hmv D10 s10 => ?_⟩
      obtain ⟨x, rfl, x1, x2⟩ : ∃ x : Int, mv = .int x ∧ 1 ≤ x ∧ x ≤ 90 := by
        simp only [List.mem_cons, List.not_mem_nil, or_false] at hmv
        rcases hmv with rfl | rfl | rfl | rfl | rfl | rfl | rfl | rfl
        all_goals exact ⟨_, rfl, by omega, by omega⟩
      have s610 : SameX d l H6 H10 := s7.trans (s8.trans ((SameX.of s9).trans s10))
      have h10 := s610 _ _ h6 kd kl2
      refine ⟨_, h10, ?_, ns ++ [x], ?_, ?_, ?_, D10.put kd kl2 kc, ?_⟩
      · rw [List.length_map, sizeLine_eq]
        omega
      · rw [upd_same, List.map_append]
        rfl
      · rw [List.length_append, U]
        rfl
      · intro y hy
        rcases List.mem_append.mp hy with h | h
        · exact nb y h
        · rw [List.mem_singleton.mp h]
          exact ⟨x1, x2⟩
      · exact fun b o e b1 b2 => by
          rw [upd_ne (ne_of_none e hDk)]
          exact (s6.trans s610) b o e b1 b2
    rintro H6 ⟨ns, h6, U, nb, D6, s6⟩
    refine tn <| ⟨Dk, ns, rfl, SqL.of h6, fun ys p5 hp hd h5 => tn <| ⟨p5, _, rfl, .inl ⟨SqL.of upd_same, fun p7 h7 => ?_⟩⟩⟩
    have s7 := same_new (o := .lst (ys.map V.int)) h5
    have s8 := same_new (o := .tup (ys.map V.int)) h7
    have D8 := (D6.same s7).same s8
    have sA : SameX d l H (upd (upd H6 p5 (.lst (ys.map V.int))) p7 (.tup (ys.map V.int))) := s1.trans (s6.trans ((SameX.of s7).trans (.of s8)))
    have yb : ∀ x ∈ ys, 1 ≤ x ∧ x ≤ 90 := fun x hx => nb x (hp.mem_iff.mp hx)
    have ey : ys.map V.int = fV (ys.map Int.toNat) := by
      unfold fV
      rw [List.map_map]
      refine List.map_congr_left fun x hx => ?_
      have := yb x hx
      show V.int x = V.int ((x.toNat : Nat) : Int)
      rw [Int.toNat_of_nonneg (by omega)]
    have yl : (ys.map Int.toNat).length = 1 + n := by
      rw [List.length_map, hp.length_eq, U]
      omega
    obtain ⟨z1, z2, _⟩ := (D6.same s7).ne h7
    have fr : H p7 = none := by
      cases e : H p7 with
      | none => rfl
      | some o =>
        have e2 := (s1.trans (s6.trans (SameX.of s7))) _ _ e z1 z2
        rw [h7] at e2
        cases e2
    refine q p7 _ (ys.map Int.toNat) fr z1 z2 D8 sA (by rw [upd_same, ey]) ⟨by omega, by omega, fun a ha => ?_, fun a ha => ?_⟩ ?_
    · obtain ⟨x, hx, rfl⟩ := List.mem_map.mp ha
      have := yb x hx
      omega
    · obtain ⟨x, hx, rfl⟩ := List.mem_map.mp ha
      have := yb x hx
      omega
    · rw [List.pairwise_map]
      exact hd.imp fun h => by omega

end
end K63

set_option Elab.async false
set_option linter.all false
set_option maxRecDepth 100000
set_option maxHeartbeats 4000000
set_option pp.maxSteps 3000
set_option exponentiation.threshold 500000
namespace K63
open PySem PySem.Spec PyProof.Rows L2 Dr Xv LamX Ps Gn Fm
section
variable {P : Program} {w : World} {K : PySem.W.Frag} {mg : Str → Option Value} {base : Heap}
/-- what the first i places give -/
def lat (f : S) (a i k : Nat) : Int := sm (fun n => if n ≤ k then f n * Th.th a (k - n) else 0) i
theorem lat_all (f : S) (a : Nat) {N k : Nat} (h : k < N) : lat f a N k = cv f (Th.th a) k := by
  obtain ⟨j, rfl⟩ : ∃ j, N = k + 1 + j := ⟨N - (k + 1), by omega⟩
  clear h
  induction j with
  | zero =>
    show sm _ (k + 1) = sm _ (k + 1)
    exact sm_congr (k + 1) fun n hn => if_pos (by omega)
  | succ j ih =>
    show lat f a (k + 1 + j) k + (if k + 1 + j ≤ k then _ else 0) = _
    rw [ih, if_neg (by omega), Int.add_zero]
/-- with the first x squares behind place i -/
def latX (f : S) (a i x k : Nat) : Int := lat f a i k + if i ≤ k then f i * Th.thp a x (k - i) else 0
theorem latX_zero (f : S) (a i k : Nat) : latX f a i 0 k = lat f a i k := by
  unfold latX
  have z : Th.thp a 0 (k - i) = 0 := rfl
  rw [z, Int.mul_zero]
  split <;> omega
theorem latX_next (f : S) (a i x k : Nat) : latX f a i (x + 1) k = latX f a i x k + if k = i + a * x * x then f i * Th.cx x else 0 := by
  unfold latX
  by_cases c : i ≤ k
  · rw [if_pos c, if_pos c]
    show _ + f i * (Th.thp a x (k - i) + (if a * x * x = k - i then Th.cx x else 0)) = _
    rw [Int.mul_add, Int.add_assoc]
    congr 2
    by_cases e : k = i + a * x * x
    · rw [if_pos (by omega), if_pos e]
    · rw [if_neg (by omega), if_neg e, Int.mul_zero]
  · rw [if_neg c, if_neg c, if_neg (by omega)]
    omega
theorem latX_end {f : S} {a i x k mo : Nat} (ha : 1 ≤ a) (hk : k ≤ mo) (h : mo < i + a * x * x) : latX f a i x k = lat f a (i + 1) k := by
  unfold latX
  show lat f a i k + _ = lat f a i k + (if i ≤ k then f i * Th.th a (k - i) else 0)
  congr 1
  by_cases c : i ≤ k
  · rw [if_pos c, if_pos c, Th.thp_sq ha (by omega)]
  · rw [if_neg c, if_neg c]
theorem latX_none {f : S} {a i k : Nat} (h : f i = 0) : latX f a i 0 k = lat f a (i + 1) k := by
  unfold latX
  show lat f a i k + _ = lat f a i k + (if i ≤ k then f i * Th.th a (k - i) else 0)
  rw [h, Int.zero_mul, Int.zero_mul]
def sp__law_ways : Sp := fun vs H Q _ => ∃ (a : Addr) (form : List Nat) (mo : Nat), vs = [.ref a, .int (mo : Int)] ∧ H a = some (.tup (fV form)) ∧ Fo form ∧ mo ≤ 120 ∧ ∀ (p : Addr) (H' : Hp), H p = none → Same H H' → H' p = some (.lst (rowOf (mo + 1) (Th.wy form))) → Q (.ref p) H'
theorem ok__law_ways (M : Mod P w K mg base) : FnOk P w K mg base CX0 1 M.f__law_ways M.d__law_ways ["form", "most"] sp__law_ways := by
  refine M.F__law_ways.ok sc__law_ways (fun vs H Q E h => ?_) (fun cdv A outer s H vs Q E hr h => ?_)
  · obtain ⟨a, form, mo, rfl, _⟩ := h
    rfl
  · obtain ⟨a, form, mo, rfl, ea, F, hmo, q⟩ := h
    refine ⟨_, PSs.nox (pss_cons (ps_set (i := 2) sc__law_ways.nd rfl (Or.inl rfl) (pe_op op_cat (pe_lst (pa_cons pe_int pa_nil)) (pe_lc (own := [("n", 5)]) (g := (gName 5)) (by rfl) sc__law_ways.nd (pi_range1 (by rfl) M.range0 (pa_cons (pv 1) pa_nil)) (blkOk_by (own := [("n", 5)]) (N := N__law_ways) (sc := defScope s__law_ways) (by decide +kernel))
        (fun _ _ _ _ _ => (pg_name (i := 5) sc__law_ways.nd rfl (Or.inl rfl))) (fun _ _ _ _ _ => pts_nil) (fun _ _ _ _ _ => pe_int))))
      (pss_cons (ps_for PassesOwn.never rfl (pi_tup (pv 0)) (pg_name (i := 3) sc__law_ways.nd rfl (Or.inl rfl)) 
        (pss_cons (ps_setLc (i := 4) (own := [("n", 5)]) (g := (gName 5)) (by rfl) sc__law_ways.nd rfl rfl (sw_true rfl rfl rfl (by decide +kernel)) (pi_range1 (by rfl) M.range0 (pa_cons (pe_op op_add (pv 1) pe_int) pa_nil)) (blkOk_by (own := [("n", 5)]) (N := N__law_ways) (sc := defScope s__law_ways) (by decide +kernel))
        (fun _ _ _ _ _ => (pg_name (i := 5) sc__law_ways.nd rfl (Or.inl rfl))) (fun _ _ _ _ _ => pts_nil) (fun _ _ _ _ _ => pe_int))
        (pss_cons (ps_for PassesOwn.never rfl (pi_enum (by rfl) M.enumerate0 (pa_cons (pv 2) pa_nil)) (pg_tup rfl (pgs_cons (pg_name (i := 5) sc__law_ways.nd rfl (Or.inl rfl)) (pgs_cons (pg_name (i := 6) sc__law_ways.nd rfl (Or.inl rfl)) pgs_nil))) 
          (pss_cons (ps_set (i := 7) sc__law_ways.nd rfl (Or.inl rfl) pe_int)
          (pss_one (ps_while PassesOwn.never (PW.pt (pw_and (pt_cmpR op_ne (pv 6) pe_int (nomark _)) (pw_and1 (pt_cmpR op_le (pe_op op_add (pv 5) (pe_op op_mul (pe_op op_mul (pv 3) (pv 7)) (pv 7))) (pv 1) (nomark _))))) 
            (pss_cons (ps_asg (pe_op op_add (pe_ix ix_list (pv 4) (pe_op op_add (pv 5) (pe_op op_mul (pe_op op_mul (pv 3) (pv 7)) (pv 7))) (fun _ _ => rfl)) (pe_ifExp (pt_cmpR op_eq (pv 7) pe_int (nomark _)) (pv 6) (pe_op op_mul pe_int (pv 6)))) (pg_sub (pv 4) (pe_op op_add (pv 5) (pe_op op_mul (pe_op op_mul (pv 3) (pv 7)) (pv 7))) set_list))
            (pss_one (ps_set (i := 7) sc__law_ways.nd rfl (Or.inl rfl) (pe_op op_add (pv 7) pe_int))))))))
        (pss_one (ps_set (i := 2) sc__law_ways.nd rfl (Or.inl rfl) (pv 4))))))
      (pss_one (ps_ret (pv 2))))), ?_⟩
    refine ⟨(by show 1 ≤ sizeLine; decide), fun p1 h1 => ?_⟩
    have s1 := same_new (o := .lst [V.int 1]) h1
    have e1 : (upd H p1 (.lst [V.int 1])) p1 = some (.lst [V.int 1]) := upd_same
    generalize upd H p1 (.lst [V.int 1]) = H1 at s1 e1 ⊢
    refine ⟨_, rfl, _, rfl, by omega, by omega, fun D hD => lc_range (lo := 0) (n := ((mo : Nat) : Int).toNat) (fun i H' => H' D = some (.lst (List.replicate i (V.int 0))) ∧ Same H1 H') ⟨upd_same, same_new hD⟩ ?_ ?_⟩
    · rintro i H4 hi ⟨h4, s5⟩
      refine ⟨rfl, yesT ⟨_, h4, ?_, ?_, fun b o e => by rw [upd_ne (ne_of_none e hD)]; exact s5 _ _ e⟩⟩
      · rw [List.length_replicate, sizeLine_eq]
        omega
      · rw [upd_same, List.replicate_succ']
    rintro H2 ⟨h2, s2⟩
    refine ⟨p1, D, _, _, rfl, rfl, s2 _ _ e1, h2, ?_, fun p4 h4 => ?_⟩
    · rw [List.length_replicate]
      show 1 + _ ≤ sizeLine
      rw [sizeLine_eq]
      omega
    have s3 := same_new (o := .lst ([V.int 1] ++ List.replicate ((mo : Nat) : Int).toNat (V.int 0))) h4
    have e4 : (upd H2 p4 (.lst ([V.int 1] ++ List.replicate ((mo : Nat) : Int).toNat (V.int 0)))) p4 = some (.lst (rowOf (mo + 1) (Th.wy (form.take 0)))) := by
      rw [upd_same, Int.toNat_natCast]
      congr 2
      show [V.int 1] ++ List.replicate mo (V.int 0) = rowOf (mo + 1) one
      have z : Gn.rowOf mo (fun k => one (k + 1)) = List.replicate mo (V.int 0) := row_zero (fun k _ => rfl)
      rw [← z]
      unfold Gn.rowOf
      rw [List.range_succ_eq_map, List.map_cons, List.map_cons, List.map_map, List.map_map, List.map_map]
      rfl
    have s13 := s1.trans (s2.trans s3)
    have hp4 : H p4 = none := s1.free (s2.free h4)
    generalize upd H2 p4 (.lst ([V.int 1] ++ List.replicate ((mo : Nat) : Int).toNat (V.int 0))) = H3 at s13 e4 ⊢
    clear s3 h4 h2 s2 hD e1 s1 h1
    have l2 := F.l2
    refine ⟨_, rfl, a, rfl, ⟨_, SqT.of (s13 _ _ ea)⟩, for_tup (K := K) (a := a) (xs := fV form) (fun i σ H' => ∃ (x3 x4 x5 x6 x7 : Option V) (r : Addr), σ = [some (.ref a), some (.int (mo : Int)), some (.ref r), x3, x4, x5, x6, x7] ∧ Same H H' ∧ H r = none ∧ H' r = some (.lst (rowOf (mo + 1) (Th.wy (form.take i))))) ⟨_, _, _, _, _, p4, rfl, s13, hp4, e4⟩ (fun i σ H' _ ⟨_, _, _, _, _, _, _, s, _⟩ => SqT.of (s _ _ ea)) ?_ ?_⟩
    · rintro i x σ H4 hi ⟨x3, x4, x5, x6, x7, r, rfl, s4, hr4, e5⟩
      obtain ⟨b, hb, rfl⟩ := fV_at hi
      have bm := List.mem_of_getElem? hb
      have b1 := F.a1 b bm
      have b2 := F.a2 b bm
      obtain ⟨f, ef⟩ : ∃ f, f = Th.wy (form.take i) := ⟨_, rfl⟩
      have en : Th.wy (form.take (i + 1)) = cv f (Th.th b) := by
        rw [Qm.take_next hb, Th.wy_snoc, ef]
      rw [en]
      rw [← ef] at e5
      have fb : ∀ k, k ≤ 120 → (f k).natAbs < 2 ^ 62 := fun k hk => by
        rw [ef]
        have z1 := Th.wy_lt (form := form.take i) (fun c hc => F.a1 c (List.mem_of_mem_take hc)) (by rw [List.length_take]; omega) hk
        have z2 := Th.wy_nn (form.take i) k
        omega
      refine ⟨_, rfl, _, _, rfl, rfl, _, rfl, by omega, by omega, fun D hD => lc_range (lo := 0) (n := ((mo : Int) + 1).toNat) (fun i H' => H' D = some (.lst (rowOf i fun _ => 0)) ∧ Same H4 H') ⟨by rw [upd_same]; rfl, same_new hD⟩ ?_ ?_⟩
      · rintro j H5 hj ⟨h5, s5⟩
        refine ⟨rfl, yesT ⟨_, h5, ?_, ?_, fun b o e => by rw [upd_ne (ne_of_none e hD)]; exact s5 _ _ e⟩⟩
        · rw [row_len, sizeLine_eq]
          omega
        · rw [upd_same, row_succ]
      rintro H5 ⟨h5, s5⟩
      have em : ((mo : Int) + 1).toNat = mo + 1 := by omega
      rw [em] at h5
      have e6 := s5 _ _ e5
      have nr : r ≠ D := ne_of_none e5 hD
      have hDH : H D = none := s4.free hD
      refine ⟨_, rfl, r, _, rfl, SqL.of e6, for_it walk_enum (fun j σ H' => ∃ y5 y6 y7, σ = [some (.ref a), some (.int (mo : Int)), some (.ref r), some (.int (b : Int)), some (.ref D), y5, y6, y7] ∧ H' D = some (.lst (rowOf (mo + 1) (lat f b j))) ∧ SameO D H5 H') ⟨_, _, _, rfl, h5, .refl⟩ (fun j σ H' _ ⟨_, _, _, _, _, so⟩ => SqL.of (so _ _ e6 nr)) ?_ ?_⟩
      · rintro j v σ H6 H7 hj ⟨y5, y6, y7, rfl, h6, so⟩ ⟨T, z1, z2, rfl, hT, rfl, g1, g2⟩
        cases Option.some.inj g1
        have hjN : j < mo + 1 := by
          rw [row_len] at hj
          exact hj
        have g3 : (rowOf (mo + 1) f)[j]? = some z2 := g2
        have rg : (rowOf (mo + 1) f)[j]? = some (V.int (f j)) := by
          unfold Gn.rowOf
          rw [List.getElem?_map, List.getElem?_map, List.getElem?_range hjN]
          rfl
        rw [rg] at g3
        cases Option.some.inj g3
        have nT : D ≠ T := ne_of_none h6 hT
        have sT := same_new (o := .tup [.int (j : Nat), .int (f j)]) hT
        refine ⟨T, _, rfl, SqT.of upd_same, rfl, _, _, rfl, _, _, rfl, rfl, ?_⟩
        have h7 := sT _ _ h6
        have so7 : SameO D H5 (upd H6 T (.tup [.int (j : Nat), .int (f j)])) := so.trans (.of sT)
        generalize upd H6 T (.tup [.int (j : Nat), .int (f j)]) = H7 at h7 so7 ⊢
        refine ⟨fun m σ' H' => ∃ x : Nat, σ' = [some (.ref a), some (.int (mo : Int)), some (.ref r), some (.int (b : Int)), some (.ref D), some (.int (j : Int)), some (.int (f j)), some (.int (x : Int))] ∧ m = 200 - x ∧ H' D = some (.lst (rowOf (mo + 1) (latX f b j x))) ∧ SameO D H5 H' ∧ x ≤ 121 ∧ (f j = 0 → x = 0), ⟨200, 0, rfl, rfl, ?_, so7, by decide, fun _ => rfl⟩, ?_⟩
        · rw [h7]
          congr 2
          exact row_ext fun k _ => (latX_zero f b j k).symm
        rintro m σ H8 ⟨x, rfl, rfl, h8, so8, hx, hz⟩
        refine ⟨_, rfl, rfl, _, rfl, ?_⟩
        by_cases fz : f j = 0
        · refine iteF' (by rw [fz]; rfl) (iteF ⟨_, _, _, rfl, ?_, so8⟩)
          rw [h8, hz fz]
          congr 2
          exact row_ext fun k _ => latX_none fz
        · refine iteT' (by
            rw [Bool.not_eq_true', decide_eq_false_iff_not]
            exact fun z => fz (by injection z)) ?_
          have m1 : (b : Int) * (x : Int) * (x : Int) = ((b * x * x : Nat) : Int) := by rw [Int.natCast_mul, Int.natCast_mul]
          have mb : (b * x : Nat) ≤ 90 * 121 := Nat.mul_le_mul b2 hx
          have mi : (b : Int) * (x : Int) = ((b * x : Nat) : Int) := (Int.natCast_mul b x).symm
          have hc1 : CMul (b : Int) (x : Int) := .inl ⟨by omega, by omega⟩
          have hc2 : CMul ((b : Int) * (x : Int)) (x : Int) := .inl ⟨by omega, by omega⟩
          refine ⟨_, rfl, _, rfl, _, rfl, _, _, rfl, rfl, hc1, _, rfl, _, _, rfl, rfl, hc2, _, _, rfl, rfl, _, rfl, _, _, rfl, rfl, _, rfl, ?_⟩
          obtain ⟨k, ek⟩ : ∃ k, k = j + b * x * x := ⟨_, rfl⟩
          have ekI : (j : Int) + (b : Int) * (x : Int) * (x : Int) = (k : Int) := by
            rw [m1]
            omega
          by_cases c : k ≤ mo
          · refine iteT' (decide_eq_true (by omega)) ⟨fun σ' H' => σ' = [some (.ref a), some (.int (mo : Int)), some (.ref r), some (.int (b : Int)), some (.ref D), some (.int (j : Int)), some (.int (f j)), some (.int ((x + 1 : Nat) : Int))] ∧ H' D = some (.lst (rowOf (mo + 1) (latX f b j (x + 1)))) ∧ SameO D H5 H', ?_, ?_⟩
            · rintro σ' H' ⟨rfl, u1, u2⟩
              have x120 : x ≤ 120 := by
                by_cases z : x = 0
                · omega
                · have w1 : 1 * x * 1 ≤ b * x * x := Nat.mul_le_mul (Nat.mul_le_mul_right _ b1) (by omega)
                  omega
              exact ⟨200 - (x + 1), by omega, x + 1, rfl, rfl, u1, u2, by omega, fun z => absurd z fz⟩
            · have kN : k < mo + 1 := by omega
              have ix1 : atI (rowOf (mo + 1) (latX f b j x)) ((j : Int) + (b : Int) * (x : Int) * (x : Int)) = some (.int (latX f b j x k)) := by
                rw [ekI]
                exact row_val kN
              have ix2 : ixN (rowOf (mo + 1) (latX f b j x)).length ((j : Int) + (b : Int) * (x : Int) * (x : Int)) = some k := by
                rw [ekI]
                exact row_at kN
              have fbj := fb j (by omega)
              have last : ∀ y : Int, y = f j * Th.cx x → (rowOf (mo + 1) (latX f b j x)).set k (V.int (latX f b j x k + y)) = rowOf (mo + 1) (latX f b j (x + 1)) := fun y ey => row_set kN (by
                rw [latX_next, if_pos ek, ey]) fun k' hk' hne => by
                rw [latX_next, if_neg (by omega), Int.add_zero]
              refine ⟨_, rfl, _, rfl, _, rfl, _, rfl, _, _, rfl, rfl, hc1, _, rfl, _, _, rfl, rfl, hc2, _, _, rfl, rfl, D, _, _, _, rfl, rfl, SqL.of h8, ix1, _, rfl, rfl, _, rfl, ?_⟩
              by_cases x0 : x = 0
              · refine iteT' (by rw [x0]; rfl) ⟨_, rfl, _, _, rfl, rfl, _, rfl, _, rfl, _, rfl, _, rfl, _, _, rfl, rfl, hc1, _, rfl, _, _, rfl, rfl, hc2, _, _, rfl, rfl, D, _, _, _, rfl, rfl, h8, ix2, ?_⟩
                refine ⟨_, rfl, _, _, rfl, rfl, rfl, ?_, so8.trans .put⟩
                rw [upd_same, last (f j) (by
                  rw [x0]
                  show f j = f j * 1
                  rw [Int.mul_one])]
              · refine iteF' (decide_eq_false fun z => x0 (by injection z with z; omega)) ⟨_, rfl, _, _, rfl, rfl, .inl ⟨by decide, by decide⟩, _, _, rfl, rfl, _, rfl, _, rfl, _, rfl, _, rfl, _, _, rfl, rfl, hc1, _, rfl, _, _, rfl, rfl, hc2, _, _, rfl, rfl, D, _, _, _, rfl, rfl, h8, ix2, ?_⟩
                refine ⟨_, rfl, _, _, rfl, rfl, rfl, ?_, so8.trans .put⟩
                rw [upd_same, last (2 * f j) (by
                  unfold Th.cx
                  rw [if_neg x0, Int.mul_comm])]
          · refine iteF' (decide_eq_false (by omega)) ⟨_, _, _, rfl, ?_, so8⟩
            rw [h8]
            congr 2
            exact row_ext fun k' hk' => latX_end (mo := mo) b1 (by omega) (by omega)
      · rintro σ H6 ⟨y5, y6, y7, rfl, h6, so⟩
        refine ⟨_, rfl, _, _, _, _, _, D, rfl, fun b' o e => so _ _ (s5 _ _ (s4 _ _ e)) (ne_of_none e hDH), hDH, ?_⟩
        rw [h6, row_len]
        congr 2
        exact row_ext fun k hk => lat_all f b hk
    · rintro σ H4 ⟨x3, x4, x5, x6, x7, r, rfl, s4, hr4, e5⟩
      have el : (fV form).length = form.length := List.length_map _
      rw [el, List.take_length] at e5
      exact ⟨_, rfl, q r H4 hr4 s4 e5⟩

end
end K63

set_option Elab.async false
set_option linter.all false
set_option maxRecDepth 100000
set_option maxHeartbeats 4000000
set_option pp.maxSteps 3000
set_option exponentiation.threshold 500000
namespace K63
open PySem PySem.Spec PyProof.Rows L2 Dr Xv LamX Ps Gn Fm
section
variable {P : Program} {w : World} {K : PySem.W.Frag} {mg : Str → Option Value} {base : Heap}
theorem em_supp {a d : Nat} (h : em a d ≠ 0) : d ∣ 4 * a := by
  unfold em at h
  by_cases c1 : d = a
  · exact c1 ▸ Nat.dvd_mul_left a 4
  · by_cases c2 : d = 2 * a
    · exact c2 ▸ ⟨2, by omega⟩
    · by_cases c3 : d = 4 * a
      · exact c3 ▸ Nat.dvd_refl _
      · rw [if_neg c1, if_neg c2, if_neg c3] at h
        exact absurd rfl h
theorem thE_supp : ∀ n (form : List Nat), form.length = n → ∀ d, thE form d ≠ 0 → ∃ a ∈ form, em a d ≠ 0 := by
  intro n
  induction n with
  | zero =>
    intro form e d h
    rw [List.length_eq_zero_iff.mp e] at h
    exact absurd rfl h
  | succ n ih =>
    intro form e d h
    have ne : form ≠ [] := fun z => by
      rw [z] at e
      cases e
    have es := (List.dropLast_concat_getLast ne).symm
    obtain ⟨g, eg⟩ : ∃ g, g = form.dropLast := ⟨_, rfl⟩
    obtain ⟨a, ea⟩ : ∃ a, a = form.getLast ne := ⟨_, rfl⟩
    rw [← eg, ← ea] at es
    clear eg ea
    subst es
    rw [thE_snoc] at h
    by_cases c : em a d = 0
    · rw [c, Int.add_zero] at h
      obtain ⟨b, hb, z⟩ := ih g (by simpa using e) d h
      exact ⟨b, List.mem_append_left _ hb, z⟩
    · exact ⟨a, by simp, c⟩
theorem kL_dvd {l : List Nat} {N : Nat} (h : ∀ c ∈ l, c ∣ N) : kL l ∣ N := by
  have key : ∀ (l : List Nat) (c0 : Nat), c0 ∣ N → (∀ c ∈ l, c ∣ N) → l.foldl Nat.lcm c0 ∣ N := by
    intro l
    induction l with
    | nil => exact fun c0 h0 _ => h0
    | cons x l ih => exact fun c0 h0 h => ih _ (Nat.lcm_dvd h0 (h x List.mem_cons_self)) fun c hc => h c (List.mem_cons_of_mem _ hc)
  exact key l 1 (Nat.one_dvd _) h
theorem dvd_kL {l : List Nat} {c : Nat} (h : c ∈ l) : c ∣ kL l := by
  rw [kL_ints]
  have := lcmL_dvd (List.mem_map.mpr ⟨c, h, rfl⟩ : (c : Int) ∈ l.map fun c : Nat => (c : Int))
  rwa [Int.natAbs_natCast] at this
theorem kL_same {l m : List Nat} (h : ∀ c, c ∈ l ↔ c ∈ m) : kL l = kL m := Nat.dvd_antisymm (kL_dvd fun c hc => dvd_kL ((h c).mp hc)) (kL_dvd fun c hc => dvd_kL ((h c).mpr hc))
theorem lvl_kL (form : List Nat) : lvl form = kL (form.map (4 * ·)) := by
  rw [kL_ints]
  unfold lvl fours
  rw [List.map_map]
  rfl
theorem lvl_pos {form : List Nat} (F : Fo form) : 0 < lvl form := lcmL_pos fun x hx => (fours_b F x hx).1
theorem lvl_lt {form : List Nat} (F : Fo form) : lvl form < 2 ^ 200 := lcm360 (fours_b F) (by rw [fours_len]; exact F.l2)
theorem nz_dvd {form : List Nat} (F : Fo form) : ∀ c ∈ Qm.nz (thE form), c ∣ lvl form := fun c hc => by
  obtain ⟨a, ha, z⟩ := thE_supp _ form rfl c (Qm.nz_mem.mp hc).2
  refine Nat.dvd_trans (em_supp z) ?_
  rw [lvl_kL]
  exact dvd_kL (List.mem_map.mpr ⟨a, ha, rfl⟩)
/-- the level of the exponents is no greater -/
theorem nz_level {form : List Nat} (F : Fo form) (i : Nat) : kL ((Qm.nz (thE form)).take i) ≤ lvl form :=
  Nat.le_of_dvd (lvl_pos F) (kL_dvd fun c hc => nz_dvd F c (List.mem_of_mem_take hc))
theorem four_lvl {form : List Nat} (F : Fo form) : Nat.lcm 4 (lvl form) = lvl form := by
  obtain ⟨a, ha⟩ := List.exists_mem_of_ne_nil form (List.ne_nil_of_length_pos F.l1)
  refine Nat.dvd_antisymm (Nat.lcm_dvd ?_ (Nat.dvd_refl _)) (Nat.dvd_lcm_right _ _)
  refine Nat.dvd_trans (Nat.dvd_mul_right 4 a) ?_
  rw [lvl_kL]
  exact dvd_kL (List.mem_map.mpr ⟨a, ha, rfl⟩)
/-- keys, each once -/
def uq (l : List Nat) : List Nat := l.foldl (fun acc c => if c ∈ acc then acc else acc ++ [c]) []
theorem dd_snoc (l : List Nat) (c : Nat) : uq (l ++ [c]) = if c ∈ uq l then uq l else uq l ++ [c] := by
  unfold uq
  rw [List.foldl_append]
  rfl
theorem dd_mem (l : List Nat) : ∀ c, c ∈ uq l ↔ c ∈ l := by
  have key : ∀ (l acc : List Nat) (c : Nat), c ∈ l.foldl (fun acc c => if c ∈ acc then acc else acc ++ [c]) acc ↔ c ∈ acc ∨ c ∈ l := by
    intro l
    induction l with
    | nil => exact fun acc c => ⟨Or.inl, fun h => h.elim id fun z => absurd z List.not_mem_nil⟩
    | cons x l ih =>
      intro acc c
      rw [List.foldl_cons, ih, List.mem_cons]
      by_cases z : x ∈ acc
      · rw [if_pos z]
        constructor
        · rintro (h | h)
          · exact .inl h
          · exact .inr (.inr h)
        · rintro (h | h | h)
          · exact .inl h
          · exact .inl (h ▸ z)
          · exact .inr h
      · rw [if_neg z, List.mem_append, List.mem_singleton]
        exact or_assoc
  intro c
  unfold uq
  rw [key]
  exact ⟨fun h => h.elim (fun z => absurd z List.not_mem_nil) id, Or.inr⟩
/-- dict([(c, 1) ..]) -/
theorem merge_ones (l : List Nat) : mergeK [] (l.map fun c : Nat => ((Sum.inl (c : Int) : Key), V.int 1)) = Qm.kvs (fun _ => 1) (uq l) := by
  have key : ∀ (l acc : List Nat), mergeK (Qm.kvs (fun _ => 1) acc) (l.map fun c : Nat => ((Sum.inl (c : Int) : Key), V.int 1)) = Qm.kvs (fun _ => 1) (l.foldl (fun acc c => if c ∈ acc then acc else acc ++ [c]) acc) := by
    intro l
    induction l with
    | nil => exact fun acc => rfl
    | cons x l ih =>
      intro acc
      show mergeK (putK (Qm.kvs (fun _ => 1) acc) (Sum.inl (x : Int)) (V.int 1)) _ = Qm.kvs (fun _ => 1) (l.foldl _ (if x ∈ acc then acc else acc ++ [x]))
      by_cases c : x ∈ acc
      · rw [if_pos c, ← ih]
        congr 1
        exact Qm.kvs_set (f := fun _ => 1) (g := fun _ => 1) c fun _ _ _ => rfl
      · rw [if_neg c, ← ih]
        congr 1
        exact Qm.kvs_put (f := fun _ => 1) c
  exact key l []
theorem dd_level (form : List Nat) : kL (uq (form.map (4 * ·))) = lvl form := by
  rw [lvl_kL]
  exact kL_same (dd_mem _)

end
end K63

set_option Elab.async false
set_option linter.all false
set_option maxRecDepth 100000
set_option maxHeartbeats 4000000
set_option pp.maxSteps 3000
set_option exponentiation.threshold 500000
namespace K63
open PySem PySem.Spec PyProof.Rows L2 Dr Xv LamX Ps Gn Fm
section
variable {P : Program} {w : World} {K : PySem.W.Frag} {mg : Str → Option Value} {base : Heap}
theorem em_bound (a d : Nat) : (em a d).natAbs ≤ 5 := by
  unfold em
  split
  · decide
  · split
    · decide
    · split <;> decide
theorem thE_bound : ∀ n (form : List Nat), form.length = n → ∀ d, (thE form d).natAbs ≤ 5 * n := by
  intro n
  induction n with
  | zero =>
    intro form e d
    rw [List.length_eq_zero_iff.mp e]
    exact Nat.zero_le _
  | succ n ih =>
    intro form e d
    have ne : form ≠ [] := fun z => by
      rw [z] at e
      cases e
    have es := (List.dropLast_concat_getLast ne).symm
    obtain ⟨g, eg⟩ : ∃ g, g = form.dropLast := ⟨_, rfl⟩
    obtain ⟨a, ea⟩ : ∃ a, a = form.getLast ne := ⟨_, rfl⟩
    rw [← eg, ← ea] at es
    clear eg ea
    subst es
    rw [thE_snoc]
    have i := ih g (by simpa using e) d
    have b := em_bound a d
    have := Int.natAbs_add_le (thE g d) (em a d)
    omega
theorem sig_bound (k : Nat) : (Th.sig k).natAbs ≤ 60 * 61 := by
  have := sS_bound (p := fun _ => 1) (c := 1) (fun _ => by decide) 60 k
  unfold Th.sig
  omega
theorem wt_bound {c k : Nat} (h : c ≤ 360) : (Th.wt c k).natAbs ≤ 360 * 3660 := by
  unfold Th.wt
  rw [Int.natAbs_mul, Int.natAbs_natCast, Int.natAbs_mul]
  refine Nat.mul_le_mul h ?_
  have e : (Ev c k).natAbs ≤ 1 := by
    unfold Ev
    split <;> decide
  have s := sig_bound (k / c)
  exact Nat.le_trans (Nat.mul_le_mul e s) (by decide)
theorem wS_bound {f : Nat → Int} {B : Nat} : ∀ {l : List Nat}, (∀ c ∈ l, c ≤ 360 ∧ (f c).natAbs ≤ B) → ∀ k, (wS f l k).natAbs ≤ l.length * (B * (360 * 3660))
  | [], _, k => by
    rw [wS_nil]
    exact Nat.zero_le _
  | c :: l, h, k => by
    have i := wS_bound (f := f) (B := B) (l := l) (fun d hd => h d (List.mem_cons_of_mem _ hd)) k
    obtain ⟨h1, h2⟩ := h c List.mem_cons_self
    have e : wS f (c :: l) k = f c * Th.wt c k + wS f l k := by
      unfold wS
      rw [List.map_cons, List.sum_cons]
    have z : (f c * Th.wt c k).natAbs ≤ B * (360 * 3660) := by
      rw [Int.natAbs_mul]
      exact Nat.mul_le_mul h2 (wt_bound h1)
    rw [e, List.length_cons, Nat.succ_mul]
    have := Int.natAbs_add_le (f c * Th.wt c k) (wS f l k)
    omega
/-- what the law's row needs -/
theorem row_ready {form : List Nat} (F : Fo form) : (∀ c ∈ Qm.nz (thE form), 1 ≤ c ∧ c < 433 ∧ (thE form c).natAbs ≤ 99) ∧ (∀ k, 1 ≤ k → k ≤ 60 → -(2 ^ 64) < wS (thE form) (Qm.nz (thE form)) k ∧ wS (thE form) (Qm.nz (thE form)) k < 2 ^ 64) ∧
    ∀ n : Nat, 1 ≤ n → n ≤ 60 → (n : Int) * Th.wy form n = -(sm (fun k => wS (thE form) (Qm.nz (thE form)) (1 + k) * Th.wy form (n - (1 + k))) n) := by
  have l2 := F.l2
  have tb := fun d => thE_bound _ form rfl d
  have hc : ∀ c ∈ Qm.nz (thE form), c ≤ 360 ∧ (thE form c).natAbs ≤ 60 := fun c hc => by
    have h1 := (Qm.nz_mem.mp hc).1
    have h2 := tb c
    omega
  refine ⟨fun c h => ?_, fun k _ _ => ?_, fun n h1 h2 => ?_⟩
  · obtain ⟨x1, x2⟩ := hc c h
    have d := nz_dvd F c h
    have := Nat.pos_of_dvd_of_pos d (lvl_pos F)
    omega
  · have b := wS_bound hc k
    have ln := thE_len form fun a ha => ⟨F.a1 a ha, F.a2 a ha⟩
    have b2 : (Qm.nz (thE form)).length * (60 * (360 * 3660)) ≤ 36 * (60 * (360 * 3660)) := Nat.mul_le_mul_right _ (by omega)
    omega
  · have L := Th.lgN_wy (fun f d => thE f d) (fun _ => rfl) (fun f a d => thE_snoc f a d) _ form rfl fun a ha => ⟨F.a1 a ha, by have := F.a2 a ha; omega⟩
    rw [Th.lgN_at L h2]
    congr 1
    refine sm_congr n fun k _ => ?_
    congr 1
    exact (Th.nz_WS _ _).symm

end
end K63

set_option Elab.async false
set_option linter.all false
set_option maxRecDepth 100000
set_option maxHeartbeats 4000000
set_option pp.maxSteps 3000
set_option exponentiation.threshold 500000
namespace K63
open PySem PySem.Spec PyProof.Rows L2 Dr Xv LamX Ps Gn Fm
section
variable {P : Program} {w : World} {K : PySem.W.Frag} {mg : Str → Option Value} {base : Heap}
theorem gaps_zero (f : S) : gaps f 0 = [] := rfl
theorem gaps_mem_le {f : S} {m : Nat} {x : Int} (h : x ∈ gaps f m) : x ≤ (m : Int) := by
  unfold gaps gapN at h
  obtain ⟨j, hj, rfl⟩ := List.mem_map.mp h
  obtain ⟨i, hi, rfl⟩ := List.mem_map.mp hj
  have := List.mem_range.mp (List.mem_filter.mp hi).1
  omega
/-- those up to m -/
theorem gaps_cut (f : S) (m : Nat) : ∀ k, (gaps f (m + k)).filter (fun x => decide (x ≤ (m : Int))) = gaps f m
  | 0 => List.filter_eq_self.mpr fun x hx => by
    have := gaps_mem_le (f := f) (m := m + 0) hx
    simpa using this
  | k + 1 => by
    rw [← Nat.add_assoc, gaps_succ, List.filter_append, gaps_cut f m k]
    split
    · rw [List.filter_cons_of_neg (by simp; omega), List.filter_nil, List.append_nil]
    · rw [List.filter_nil, List.append_nil]
theorem gaps_nil {f : S} {m : Nat} : gaps f m = [] ↔ ∀ n, 1 ≤ n → n ≤ m → f n ≠ 0 := by
  induction m with
  | zero => exact ⟨fun _ n h1 h2 => by omega, fun _ => rfl⟩
  | succ m ih =>
    rw [gaps_succ, List.append_eq_nil_iff, ih]
    constructor
    · rintro ⟨h1, h2⟩ n n1 n2
      by_cases c : n = m + 1
      · rw [c]
        intro z
        rw [if_pos z] at h2
        cases h2
      · exact h1 n n1 (by omega)
    · intro h
      refine ⟨fun n h1 h2 => h n h1 (by omega), ?_⟩
      rw [if_neg (h (m + 1) (by omega) (Nat.le_refl _))]
theorem wy_zero {form : List Nat} (h : ∀ a ∈ form, 1 ≤ a) : Th.wy form 0 = 1 := by
  induction form with
  | nil => rfl
  | cons a f ih =>
    rw [Th.wy_cons]
    show 0 + Th.wy f 0 * Th.th a 0 = 1
    rw [ih fun b hb => h b (List.mem_cons_of_mem _ hb), Th.th_zero (h a List.mem_cons_self)]
    rfl
/-- each up to 15: each up to 120 -/
theorem tells_all {form : List Nat} (F : Fo form) (h : gaps (Th.wy form) 15 = []) : ∀ n, n ≤ 120 → Th.wy form n ≠ 0 := fun n hn => by
  have t : ∀ m, m < 16 → Th.Tells form m := fun m hm => by
    refine (Th.wy_tells F.a1).mp ?_
    by_cases c : m = 0
    · rw [c, wy_zero F.a1]
      decide
    · have z := gaps_nil.mp h m (by omega) (by omega)
      have := Th.wy_nn form m
      omega
  have := (Th.wy_tells F.a1).mpr (Th.fifteen F.a1 t n (by omega))
  omega
/-- the asked forms are forms -/
theorem okF_of {form : List Nat} (F : Fo form) (s : form.Pairwise (· ≤ ·)) : okF (some (fV form)) = true := by
  have e : fV form = (form.map fun a : Nat => (a : Int)).map V.int := by
    unfold fV
    rw [List.map_map]
    rfl
  rw [e]
  show ((List.map V.int (form.map fun a : Nat => (a : Int))).all isNum && isFm (numsV (List.map V.int (form.map fun a : Nat => (a : Int))))) = true
  rw [numsV_map, all_num, Bool.true_and]
  unfold isFm
  rw [Bool.and_eq_true, Bool.and_eq_true, decide_eq_true_eq, List.length_map]
  refine ⟨⟨⟨F.l1, F.l2⟩, ?_⟩, ?_⟩
  · unfold Pt.small
    refine List.all_eq_true.mpr fun x hx => ?_
    obtain ⟨a, ha, rfl⟩ := List.mem_map.mp hx
    have h1 := F.a1 a ha
    have h2 := F.a2 a ha
    rw [Bool.and_eq_true, decide_eq_true_eq, decide_eq_true_eq]
    omega
  · refine List.all_eq_true.mpr fun p hp => decide_eq_true ?_
    obtain ⟨i, hi⟩ := List.mem_iff_getElem?.mp hp
    rw [List.getElem?_zip_eq_some] at hi
    obtain ⟨h1, h2⟩ := hi
    rw [List.getElem?_drop, Nat.add_comm 1 i] at h2
    rw [List.getElem?_map] at h1 h2
    cases g1 : form[i]? with
    | none =>
      rw [g1] at h1
      cases h1
    | some x =>
      cases g2 : form[i + 1]? with
      | none =>
        rw [g2] at h2
        cases h2
      | some y =>
        rw [g1] at h1
        rw [g2] at h2
        have e1 : (x : Int) = p.1 := Option.some.inj h1
        have e2 : (y : Int) = p.2 := Option.some.inj h2
        obtain ⟨l1, q1⟩ := List.getElem?_eq_some_iff.mp g1
        obtain ⟨l2, q2⟩ := List.getElem?_eq_some_iff.mp g2
        have := List.pairwise_iff_getElem.mp s i (i + 1) l1 l2 (Nat.lt_succ_self i)
        rw [q1, q2] at this
        omega

end
end K63

set_option Elab.async false
set_option linter.all false
set_option maxRecDepth 100000
set_option maxHeartbeats 4000000
set_option pp.maxSteps 3000
set_option exponentiation.threshold 500000
namespace K63
open PySem PySem.Spec PyProof.Rows L2 Dr Xv LamX Ps Gn Fm
theorem asg {te : TE} {g : TG} {tb : TS} {D : Ends} {σ : L2.St} {H : Hp} (h : te σ H fun x H1 => g x σ H1 fun σ' H' => tb D σ' H') : tSeq (tAsg te g) tb D σ H := h
theorem tst {r : R2} {ta tb : TE} {σ : L2.St} {H : Hp} {Q : Bool → Hp → Prop} (h : ta σ H fun x H1 => tb σ H1 fun y H2 => r x y H2 fun z H3 => ∃ k, z = .bl k ∧ Q k H3) : tTest (tOp r ta tb) σ H Q := h
theorem _root_.Gn.Sta.perm {Pt : Addr} {H : Hp} {d l c : Addr} {os os' : List (Addr × HO)} (S : Sta Pt H d l c os) (h : os.Perm os') : Sta Pt H d l c os' := ⟨S.W, fun x hx => S.O x (h.mem_iff.mpr hx), (h.pairwise_iff fun z => z.symm).mp S.P⟩
def tFours (K : PySem.W.Frag) : TE := tCB (fun xs H_1 Q => ∃ a ps kvs, xs = [V.ref a] ∧ SqL K H_1 a (List.map V.ref ps) ∧ Paired (fun p kv => SqT K H_1 p [kV kv.fst, kv.snd]) ps kvs ∧ ∀ (p : Addr), H_1 p = none → Q (V.ref p) (upd H_1 p (HO.dK (mergeK [] kvs))))
  (tCons (tLc (iTup K (tVar 3)) (gName 16) tYes (tTup (tCons (tOp (rI CMul fun i j => V.int (i * j)) (tC (V.int 4)) (tVar 16)) (tCons (tC (V.int 1)) tNil))) [16]) tNil)
def tLev (K : PySem.W.Frag) : TT := tOr
  (tTest (tOp (rI0 fun i j => V.bl (decide (j < i))) (tCall sp__law_level [] E0 (tCons (tCall sp__law_theta [] E0 (tCons (tVar 3) tNil)) tNil)) (tC (V.int 360))))
  (tTest (tOp (rI0 fun i j => V.bl (decide (j < i))) (tCall sp__law_multiple [] E0 (tCons (tC (V.int 4)) (tCons (tCall sp__law_level [] E0 (tCons (tFours K) tNil)) tNil))) (tC (V.int 360))))
section
variable {K : PySem.W.Frag}
/-- four times each number, once -/
theorem fours_ok {form : List Nat} {fa : Addr} {H : Hp} {y0 y1 y2 y4 y5 y6 y7 y8 y9 y10 y11 y12 y13 y14 y15 y16 : Option V} {Q : VK} (F : Fo form) (hf : H fa = some (.tup (fV form)))
    (q : ∀ (p : Addr) (H' : Hp), H p = none → Same H H' → H' p = some (.dK (Qm.kvs (fun _ => 1) (uq (form.map (4 * ·))))) → Q (.ref p) H') :
    tFours K [y0, y1, y2, some (.ref fa), y4, y5, y6, y7, y8, y9, y10, y11, y12, y13, y14, y15, y16] H Q := by
  have l2 := F.l2
  refine ⟨_, rfl, fa, rfl, ⟨_, SqT.of hf⟩, fun D2 hD2 => lc_tup (K := K) (a := fa) (xs := fV form) (fun i H' => (∃ ps : List Addr, H' D2 = some (.lst (ps.map V.ref)) ∧ ps.length ≤ i ∧ Paired (fun p kv => H' p = some (.tup [kV kv.1, kv.2])) ps ((form.take i).map fun c : Nat => ((Sum.inl ((4 * c : Nat) : Int) : Key), V.int 1))) ∧ Same H H') ⟨⟨[], upd_same, Nat.le_refl _, .nil⟩, same_new hD2⟩ (fun i H' _ ⟨_, s⟩ => SqT.of (s _ _ hf)) ?_ ?_⟩
  · rintro i x H7 hx ⟨⟨ps, h7, pl, pp⟩, s7⟩
    obtain ⟨a, ha, rfl⟩ := fV_at hx
    have il := (List.getElem?_eq_some_iff.mp ha).1
    have aM := F.a2 a (List.mem_of_getElem? ha)
    refine ⟨rfl, yesT ⟨_, rfl, _, _, rfl, rfl, ?_, (by show 2 ≤ sizeLine; decide), fun T hT => ?_⟩⟩
    · exact .inl ⟨by decide, by decide⟩
    have sT := same_new (o := .tup [V.int (4 * (a : Int)), V.int 1]) hT
    have nT : D2 ≠ T := ne_of_none h7 hT
    refine ⟨_, sT _ _ h7, ?_, ⟨ps ++ [T], ?_, ?_, ?_⟩, fun b o ob => ?_⟩
    · rw [List.length_map, sizeLine_eq]
      omega
    · rw [upd_same, List.map_append]
      rfl
    · rw [List.length_append]
      exact Nat.succ_le_succ pl
    · rw [Qm.take_next ha, List.map_append]
      refine pair_app (pair_mono pp fun p kv e => ?_) ?_
      · have nD : p ≠ D2 := ne_of e h7 (fun z => by cases z)
        rw [upd_ne nD]
        exact sT _ _ e
      · rw [upd_ne nT.symm]
        exact upd_same
    · rw [upd_ne (ne_of_none ob hD2)]
      exact sT _ _ (s7 _ _ ob)
  · rintro H7 ⟨⟨ps, h7, pl, pp⟩, s7⟩
    have lf : (fV form).length = form.length := List.length_map _
    rw [lf, List.take_length] at pp
    refine tn <| ⟨D2, ps, _, rfl, SqL.of h7, pair_mono pp fun p kv e => SqT.of e, fun p5 h5 => ?_⟩
    refine q p5 _ (s7.free h5) (s7.trans (same_new h5)) ?_
    have e := merge_ones (form.map (4 * ·))
    rw [List.map_map] at e
    rw [upd_same, ← e]
    rfl
theorem lev2 {te : TE} {σ : L2.St} {H : Hp} {Q : Bool → Hp → Prop} (h : te σ H fun x H1 => sp__law_level [x] H1 (fun z H2 => sp__law_multiple [.int 4, z] H2 (fun u H3 => ∃ i j, u = .int i ∧ V.int 360 = .int j ∧ ∃ k, V.bl (decide (j < i)) = .bl k ∧ Q k H3) E0) E0) :
    tTest (tOp (rI0 fun i j => V.bl (decide (j < i))) (tCall sp__law_multiple [] E0 (tCons (tC (V.int 4)) (tCons (tCall sp__law_level [] E0 (tCons te tNil)) tNil))) (tC (V.int 360))) σ H Q := h
theorem lev_ok {form : List Nat} {fa : Addr} {H : Hp} {y0 y1 y2 y4 y5 y6 y7 y8 y9 y10 y11 y12 y13 y14 y15 y16 : Option V} {Q : Bool → Hp → Prop} (F : Fo form) (hf : H fa = some (.tup (fV form)))
    (q : ∀ H' : Hp, Same H H' → Q (decide (360 < lvl form)) H') :
    tLev K [y0, y1, y2, some (.ref fa), y4, y5, y6, y7, y8, y9, y10, y11, y12, y13, y14, y15, y16] H Q := by
  have h432 := (row_ready F).1
  refine ⟨_, rfl, tn <| ⟨fa, form, rfl, hf, F, fun th H1 hth s1 e1 => tn <| ⟨th, thE form, Qm.nz (thE form), rfl, e1, fun c hc => ⟨(h432 c hc).1, ?_⟩, fun i => Nat.lt_of_le_of_lt (nz_level F i) (lvl_lt F), fun H2 s2 => ?_⟩⟩⟩
  · have := (Qm.nz_mem.mp hc).1
    omega
  refine ⟨_, _, rfl, rfl, _, rfl, ?_⟩
  have nl := nz_level F (Qm.nz (thE form)).length
  rw [List.take_length] at nl
  by_cases c : (360 : Int) < ((kL (Qm.nz (thE form)) : Nat) : Int)
  · refine iteT' (decide_eq_true c) ?_
    have := q H2 (s1.trans s2)
    rw [decide_eq_true (by omega)] at this
    exact this
  refine iteF' (decide_eq_false c) ?_
  refine lev2 (fours_ok F (s2 _ _ (s1 _ _ hf)) fun p H3 hp s3 e3 => ?_)
  have dl : ∀ c ∈ uq (form.map (4 * ·)), c ∣ lvl form := fun c hc => by
    have := dvd_kL ((dd_mem _ c).mp hc)
    rwa [← lvl_kL] at this
  refine ⟨p, fun _ => 1, uq (form.map (4 * ·)), rfl, e3, fun c hc => ?_, fun i => ?_, fun H4 s4 => ?_⟩
  · obtain ⟨a, ha, rfl⟩ := List.mem_map.mp ((dd_mem _ c).mp hc)
    have h1 := F.a1 a ha
    have h2 := F.a2 a ha
    omega
  · exact Nat.lt_of_le_of_lt (Nat.le_of_dvd (lvl_pos F) (kL_dvd fun c hc => dl c (List.mem_of_mem_take hc))) (lvl_lt F)
  rw [dd_level]
  refine ⟨4, lvl form, rfl, by decide, by decide, .inl (by decide), ?_⟩
  rw [four_lvl F]
  refine ⟨_, _, rfl, rfl, _, rfl, ?_⟩
  have z := q H4 (((s1.trans s2).trans s3).trans s4)
  have e : decide ((360 : Int) < ((lvl form : Nat) : Int)) = decide (360 < lvl form) := by
    by_cases c : 360 < lvl form
    · rw [decide_eq_true c, decide_eq_true (by omega)]
    · rw [decide_eq_false c, decide_eq_false (by omega)]
  rw [e]
  exact z
end
end K63

set_option Elab.async false
set_option linter.all false
set_option maxRecDepth 100000
set_option maxHeartbeats 4000000
set_option pp.maxSteps 3000
set_option exponentiation.threshold 500000
namespace K63
open PySem PySem.Spec PyProof.Rows L2 Dr Xv LamX Ps Gn Fm
theorem boot_rep : bootBuiltins "repr" = some (.builtin "repr") := by decide +kernel
def forBody : Stmt → List Stmt
  | .For _ _ b _ _ => b
  | _ => []
abbrev lapB : List Stmt := forBody ((defBody s_law).getD 1 (.Pass ⟨0, 0, 0, 0⟩))
abbrev tailB : List Stmt := (defBody s_law).drop 2
def Slots (a d : Addr) (σ : L2.St) : Prop := ∃ x2 x3 x4 x5 x6 x7 x8 x9 x10 x11 x12 x13 x14 x15 x16 : Option V, σ = [some (.ref a), some (.ref d), x2, x3, x4, x5, x6, x7, x8, x9, x10, x11, x12, x13, x14, x15, x16]
section
variable {P : Program} {w : World} {K : PySem.W.Frag} {mg : Str → Option Value} {base : Heap} {f c Pt : Addr} {A : Around} {outer : List Env} {s : Shared} {H : Hp} {E : XK}
theorem ne_same {K : PySem.W.Frag} {H : Hp} {a b : Addr} {xs : List Int} {Q : VK} (ha : SqL K H a (xs.map V.int)) (hb : SqL K H b (xs.map V.int)) (q : Q (.bl false) H) : rNeD K (.ref a) (.ref b) H Q :=
  ⟨.list (intsD xs), .list (intsD xs), .lst ha (ints_dp _), .lst hb (ints_dp _), ints_shaped _, ints_shaped _, by rw [eq_no]; exact q⟩
theorem ne_ints' {K : PySem.W.Frag} {H : Hp} {a b : Addr} {xs ys : List Int} {Q : VK} (ha : SqL K H a (xs.map V.int)) (hb : SqL K H b (ys.map V.int)) (q : Q (.bl (!PyData.eqv (.list (intsD xs)) (.list (intsD ys)))) H) : rNeD K (.ref a) (.ref b) H Q :=
  ⟨.list (intsD xs), .list (intsD ys), .lst ha (ints_dp _), .lst hb (ints_dp _), ints_shaped _, ints_shaped _, q⟩
theorem perm5 {α : Type} {a b c d e : α} {l : List α} : (a :: b :: c :: d :: e :: l).Perm (d :: c :: e :: a :: b :: l) :=
  (List.perm_middle (l₁ := [a, b, c])).trans (.cons _ ((List.perm_middle (l₁ := [a, b])).trans (.cons _ (List.perm_middle (l₁ := [a, b])))))
theorem keep_snoc {ns : List Int} {i : Nat} {z : Int} (m : Int) (hz : ns[i]? = some z) : (ns.take (i + 1)).filter (fun x => decide (x ≤ m)) = (ns.take i).filter (fun x => decide (x ≤ m)) ++ if z ≤ m then [z] else [] := by
  rw [List.take_succ, hz, List.filter_append]
  congr 1
  by_cases c : z ≤ m
  · rw [if_pos c]
    show [z].filter _ = _
    rw [List.filter_cons_of_pos (by simpa using c), List.filter_nil]
  · rw [if_neg c]
    show [z].filter _ = _
    rw [List.filter_cons_of_neg (by simpa using c), List.filter_nil]
def SlotsL (a d : Addr) (i : Int) (σ : L2.St) : Prop := ∃ x3 x4 x5 x6 x7 x8 x9 x10 x11 x12 x13 x14 x15 x16 : Option V, σ = [some (.ref a), some (.ref d), some (.int i), x3, x4, x5, x6, x7, x8, x9, x10, x11, x12, x13, x14, x15, x16]
theorem lap_ok (M : Mod P w K mg base) (TB : TabB base mg c Pt) (hg : (XL P w K mg base f c A outer s H E).A.guards = some []) (hr : Room 10 (XL P w K mg base f c A outer s H E).A) :
    ∃ t, PSs (XL P w K mg base f c A outer s H E) lapB t ∧ ∀ (D : Ends) (σ : L2.St) (H0 : Hp) (os : List (Addr × HO)) (ra d l cc : Addr) (i : Int), SlotsL ra d i σ → Sta Pt H0 d l cc os → (∀ σ' H', Slots ra d σ' → Sta Pt H' d l cc os → D.nx σ' H') → (∀ σ' H', Slots ra d σ' → Sta Pt H' d l cc os → D.ct σ' H') → t D σ H0 := by
  have hrL : Room 10 (XL P w K mg base f c A outer s H E).A := hr
  have hu := hu_of hr
  have hx : ∀ {X : Cx}, Passes (L2.CX X.prog X.w) X (fun _ _ _ => False) := fun {X} => passes_call L2.takes0 (fun _ _ _ _ z => z)
  refine ⟨_, (C8.pss_cut (ps_asg (pe_tup (pa_cons (pe_call (ok__law_form M) (hr.mono (by decide)) rfl M.g__law_form M.k__law_form M.b__law_form .nil pass0 (pa_cons (pv 1) (pa_cons (pe_ifExp (pt_cmpR op_gt (pv 2) pe_int (nomark _)) pe_int pe_int) pa_nil))) (pa_cons (pe_call (ok__law_take M) (hr.mono (by decide)) rfl M.g__law_take M.k__law_take M.b__law_take .nil pass0 (pa_cons (pv 1) (pa_cons pe_int pa_nil))) (pa_cons (pe_lst pa_nil) pa_nil)))) (pg_tup rfl (pgs_cons (pg_name (i := 3) sc_law.nd rfl (Or.inr rfl)) (pgs_cons (pg_name (i := 4) sc_law.nd rfl (Or.inr rfl)) (pgs_cons (pg_name (i := 5) sc_law.nd rfl (Or.inr rfl)) pgs_nil)))))
      (pss_cons (ps_set (i := 6) sc_law.nd rfl (Or.inr rfl) (pe_call (ok__law_ways M) (hr.mono (by decide)) rfl M.g__law_ways M.k__law_ways M.b__law_ways .nil pass0 (pa_cons (pv 3) (pa_cons (pe_callB (call_max2 rfl) (by rfl) M.max0 (by decide +kernel) (pa_cons (pv 4) (pa_cons pe_int pa_nil))) pa_nil))))
      (C8.pss_cut (ps_if (PW.pt (pw_or (pt_cmpR op_isnot_bl (pe_call (ok_is_form M) (hr.mono (by decide)) rfl M.g_is_form M.k_is_form M.b_is_form .nil pass0 (pa_cons (pv 3) pa_nil)) pe_bl (nomark _)) (pw_or (pt_cmpR (op_neD hr.units) (pe_call (ok_form_row M) (hr.mono (by decide)) rfl M.g_form_row M.k_form_row M.b_form_row .nil hx (pa_cons (pv 3) (pa_cons (pv 4) pa_nil))) (pe_slice sl_list (pv 6) po_none (po_some (pe_op op_add (pv 4) pe_int))) (nomark _)) (pw_or1 (pt_cmpR (op_neD hr.units) (pe_callK0 (ok_form_row M) (hr.mono (by decide)) rfl M.g_form_row M.k_form_row M.h_form_row hx (pk_cons (pv 4) (pk_cons (pv 3) pk_nil))) (pe_slice sl_list (pv 6) po_none (po_some (pe_op op_add (pv 4) pe_int))) (nomark _)))))) 
        (pss_one (ps_ret pe_bl)) pss_nil)
      (pss_cons (ps_setLc (i := 7) (own := [("n", 14)]) (g := (gName 14)) (by rfl) sc_law.nd rfl rfl (sw_true rfl rfl rfl (by decide +kernel)) (pi_range2 (by rfl) M.range0 (pa_cons pe_int (pa_cons (pe_callB call_len (by rfl) M.len0 PySem.boot_len (pa_cons (pv 6) pa_nil)) pa_nil))) (blkOk_by (own := [("n", 14)]) (N := N_law) (sc := defScope s_law) (by decide +kernel))
        (fun _ _ _ _ _ => (pg_name (i := 14) sc_law.nd rfl (Or.inl rfl))) (fun _ _ _ _ _ => (pts_one (pt_cmpR op_eq (pe_ix (r := rIxL K) ix_list (pv 6) (pv 14) (fun _ _ => rfl)) pe_int (nomark _)))) (fun _ _ _ _ _ => (pv 14)))
      (C8.pss_cut (ps_if (pt_cmpR (op_neD hr.units) (pe_call (ok_gaps_of M) (hr.mono (by decide)) rfl M.g_gaps_of M.k_gaps_of M.b_gaps_of .nil hx (pa_cons (pv 3) (pa_cons (pv 4) pa_nil))) (pe_lc (own := [("n", 14)]) (g := (gName 14)) (by rfl) sc_law.nd (pi_list (pv 7)) (blkOk_by (own := [("n", 14)]) (N := N_law) (sc := defScope s_law) (by decide +kernel))
        (fun _ _ _ _ _ => (pg_name (i := 14) sc_law.nd rfl (Or.inl rfl))) (fun _ _ _ _ _ => (pts_one (pt_cmpR op_le (pv 14) (pv 4) (nomark _)))) (fun _ _ _ _ _ => (pv 14))) (nomark _)) 
        (pss_one (ps_ret pe_bl)) pss_nil)
      (pss_cons (ps_setLc (i := 8) (own := [("n", 14)]) (g := (gName 14)) (by rfl) sc_law.nd rfl rfl (sw_true rfl rfl rfl (by decide +kernel)) (pi_list (pv 7)) (blkOk_by (own := [("n", 14)]) (N := N_law) (sc := defScope s_law) (by decide +kernel))
        (fun _ _ _ _ _ => (pg_name (i := 14) sc_law.nd rfl (Or.inl rfl))) (fun _ _ _ _ _ => (pts_one (pt_cmpR op_le (pv 14) pe_int (nomark _)))) (fun _ _ _ _ _ => (pv 14)))
      (C8.pss_cut (ps_if (pt_cmpR op_ne (pe_callK0 (ok_least_missed M) (hr.mono (by decide)) rfl M.g_least_missed M.k_least_missed M.h_least_missed hx (pk_cons (pv 3) pk_nil)) (pe_ifExp (pt_cmpR (op_neD hr.units) (pv 8) (pe_lst pa_nil) (nomark _)) (pe_ix ix_list (pv 8) pe_int (fun _ _ => rfl)) pe_non) (nomark _)) 
        (pss_one (ps_ret pe_bl)) pss_nil)
      (C8.pss_cut (ps_if (PW.pt (pw_and (pt_cmpR (op_eqD hr.units) (pv 8) (pe_lst pa_nil) (nomark _)) (pw_and1 (pt_cmpR (op_neD hr.units) (pe_lc (own := [("n", 14), ("ways", 15)]) (g := (gTup K 2 (gCons (gName 14) (gCons (gName 15) gNil)))) (by rfl) sc_law.nd (pi_enum (by rfl) M.enumerate0 (pa_cons (pe_call (ok__law_ways M) (hr.mono (by decide)) rfl M.g__law_ways M.k__law_ways M.b__law_ways .nil pass0 (pa_cons (pv 3) (pa_cons pe_int pa_nil))) pa_nil)) (blkOk_by (own := [("n", 14), ("ways", 15)]) (N := N_law) (sc := defScope s_law) (by decide +kernel))
        (fun _ _ _ _ _ => (pg_tup rfl (pgs_cons (pg_name (i := 14) sc_law.nd rfl (Or.inl rfl)) (pgs_cons (pg_name (i := 15) sc_law.nd rfl (Or.inl rfl)) pgs_nil)))) (fun _ _ _ _ _ => (pts_one (pt_cmpR op_eq (pv 15) pe_int (nomark _)))) (fun _ _ _ _ _ => (pv 14))) (pe_lst pa_nil) (nomark _))))) 
        (pss_one (ps_ret pe_bl)) pss_nil)
      (pss_cons (ps_set (i := 9) sc_law.nd rfl (Or.inl rfl) (pe_law (t := fun E' => (tBM K "list" rAppend (tVar 5) (tCons (tCall (sp_form_term M.a_BadForm M.a_TooMany) [] E' (tCons (tVar 3) tNil)) tNil))) M TB hrL (by decide +kernel) rfl
          (fun A' outer' s' H' E' f' c' hr' => (pe_bm PySem.F.plainAttrs_list PySem.F.slot_list_append PySem.F.type_list_append mt_append (pv 5) (pa_cons (pe_call (ok_form_term M) (hr'.mono (by decide)) rfl M.g_form_term M.k_form_term M.b_form_term .nil (passes_call (takes_of rfl rfl rfl rfl) (fun _ _ _ _ h => h)) (pa_cons (pv 3) pa_nil)) pa_nil)))))
      (C8.pss_cut (ps_if (PW.pt (pw_or (pt_cmpR op_gt (pe_call (ok__law_level M) (hr.mono (by decide)) rfl M.g__law_level M.k__law_level M.b__law_level .nil pass0 (pa_cons (pe_call (ok__law_theta M) (hr.mono (by decide)) rfl M.g__law_theta M.k__law_theta M.b__law_theta .nil pass0 (pa_cons (pv 3) pa_nil)) pa_nil)) pe_int (nomark _)) (pw_or1 (pt_cmpR op_gt (pe_call (ok__law_multiple M) (hr.mono (by decide)) rfl M.g__law_multiple M.k__law_multiple M.b__law_multiple .nil pass0 (pa_cons pe_int (pa_cons (pe_call (ok__law_level M) (hr.mono (by decide)) rfl M.g__law_level M.k__law_level M.b__law_level .nil pass0 (pa_cons (pe_callTy (call_dictP rfl) (by rfl) M.dict0 (by decide +kernel) (pa_cons (pe_lc (own := [("a", 16)]) (g := (gName 16)) (by rfl) sc_law.nd (pi_tup (pv 3)) (blkOk_by (own := [("a", 16)]) (N := N_law) (sc := defScope s_law) (by decide +kernel))
        (fun _ _ _ _ _ => (pg_name (i := 16) sc_law.nd rfl (Or.inl rfl))) (fun _ _ _ _ _ => pts_nil) (fun _ _ _ _ _ => (pe_tup (pa_cons (pe_op op_mul pe_int (pv 16)) (pa_cons pe_int pa_nil))))) pa_nil)) pa_nil)) pa_nil))) pe_int (nomark _))))) 
        (C8.pss_cut (ps_if (PW.pt (pw_or (pt_not (pt_val (pe_callB call_isC (by rfl) M.isinstance0 boot_isinstance (pa_cons (pv 9) (pa_cons (pe_glob (v := .ref M.a_TooMany) rfl M.g_TooMany rfl) pa_nil))))) (pw_or1 (pt_cmpR op_ne (pe_erC (pv 9)) pe_int (nomark _))))) 
          (pss_one (ps_ret pe_bl)) pss_nil)
        (pss_one ps_continue)) pss_nil)
      (pss_one (ps_if (PW.pt (pw_or (pt_cmpR op_notN (pv 9) pe_non (nomark _)) (pw_or (pt_cmpR op_ne (pe_callB (cr_repQ hg (hu65 hr)) (by rfl) M.repr0 boot_rep (pa_cons (pe_ix ix_list (pv 5) pe_int (fun _ _ => rfl)) pa_nil)) (pe_callB (cr_repQ hg (hu65 hr)) (by rfl) M.repr0 boot_rep (pa_cons (pe_tup (pa_cons pe_int (pa_cons (pe_call (ok__law_theta M) (hr.mono (by decide)) rfl M.g__law_theta M.k__law_theta M.b__law_theta .nil pass0 (pa_cons (pv 3) pa_nil)) (pa_cons (pe_tup pa_nil) pa_nil)))) pa_nil)) (nomark _)) (pw_or1 (pt_cmpR (op_neD hr.units) (pe_call (ok__law_row M) (hr.mono (by decide)) rfl M.g__law_row M.k__law_row M.b__law_row .nil pass0 (pa_cons (pe_ix ix_tup (pe_ix ix_list (pv 5) pe_int (fun _ _ => rfl)) pe_int (fun _ _ => rfl)) (pa_cons (pv 4) pa_nil))) (pe_slice sl_list (pv 6) po_none (po_some (pe_op op_add (pv 4) pe_int))) (nomark _)))))) 
        (pss_one (ps_ret pe_bl)) pss_nil)))))))))))), ?_⟩
  rintro D σ H0 os ra d l cc i ⟨x3, x4, x5, x6, x7, x8, x9, x10, x11, x12, x13, x14, x15, x16, rfl⟩ S0 fin finc
  -- form, most, told
  refine ⟨fun σ' H' => ∃ (fa : Addr) (form : List Nat) (mo : Nat) (y : Addr), σ' = [some (.ref ra), some (.ref d), some (.int i), some (.ref fa), some (.int (mo : Int)), some (.ref y), x6, x7, x8, x9, x10, x11, x12, x13, x14, x15, x16] ∧ Sta Pt H' d l cc ((y, .lst []) :: (fa, .tup (fV form)) :: os) ∧ Fo form ∧ form.Pairwise (· ≤ ·) ∧ mo ≤ 59, ?_, ?_⟩
  · refine ⟨_, rfl, _, rfl, _, _, rfl, rfl, _, rfl, ?_⟩
    have K1 : ∀ (p : Addr) (H1 : Hp) (form : List Nat), H0 p = none → p ≠ d → p ≠ l → Draw H1 d l cc → SameX d l H0 H1 → H1 p = some (.tup (fV form)) → Sta Pt H1 d l cc ((p, .tup (fV form)) :: os) := fun p H1 form hp n1 n2 D1 s1 e1 => by
      have S1 := S0.sx s1 D1
      have n3 := S0.W.dr.ne hp
      refine ⟨S1.W, fun x hx => ?_, List.pairwise_cons.mpr ⟨fun x hx => (ne_of_none (S0.O x hx).1 hp).symm, S0.P⟩⟩
      rcases List.mem_cons.mp hx with rfl | hx
      · exact ⟨e1, n3.1, n3.2.1, n3.2.2, fun _ e => nomatch e⟩
      · exact S1.O x hx
    have K2 : ∀ (p : Addr) (H1 : Hp) (form : List Nat), Sta Pt H1 d l cc ((p, .tup (fV form)) :: os) → Fo form → form.Pairwise (· ≤ ·) → ∀ (v : Int) (H2 : Hp), 0 ≤ v → v < 60 → Draw H2 d l cc → SameX d l H1 H2 → ∀ y Tp, H2 y = none → (upd H2 y (.lst [])) Tp = none → ∃ (fa : Addr) (form' : List Nat) (mo : Nat) (y' : Addr), [some (.ref ra), some (.ref d), some (.int i), some (.ref p), some (.int v), some (.ref y), x6, x7, x8, x9, x10, x11, x12, x13, x14, x15, x16] = [some (.ref ra), some (.ref d), some (.int i), some (.ref fa), some (.int (mo : Int)), some (.ref y'), x6, x7, x8, x9, x10, x11, x12, x13, x14, x15, x16] ∧ Sta Pt (upd (upd H2 y (.lst [])) Tp (.tup [.ref p, .int v, .ref y])) d l cc ((y', .lst []) :: (fa, .tup (fV form')) :: os) ∧ Fo form' ∧ form'.Pairwise (· ≤ ·) ∧ mo ≤ 59 := fun p H1 form S1 F sd v H2 v0 v1 D2 s2 y Tp hy hT => by
      obtain ⟨n, rfl⟩ : ∃ n : Nat, v = (n : Int) := ⟨v.toNat, by omega⟩
      exact ⟨p, form, n, y, rfl, ((S1.sx s2 D2).newL hy).same (same_new hT), F, sd, by omega⟩
    by_cases hi : 0 < i
    · refine iteT' (decide_eq_true hi) ⟨d, l, cc, 6, rfl, S0.dr, by decide, by decide, fun p H1 form hp n1 n2 D1 s1 e1 F sd => ?_⟩
      refine ⟨_, rfl, tn0 <| ⟨d, l, cc, 60, rfl, D1, by decide, log_small (n := 60) (by decide), fun v H2 v0 v1 D2 s2 => ⟨(by show 0 ≤ sizeLine; decide), fun y hy => tn <| ⟨(by show 3 ≤ sizeLine; decide), fun Tp hT => ⟨Tp, _, rfl, SqT.of upd_same, rfl, _, _, rfl, _, _, rfl, _, _, rfl, rfl, ?_⟩⟩⟩⟩⟩
      exact K2 p H1 form (K1 p H1 form hp n1 n2 D1 s1 e1) F sd v H2 v0 v1 D2 s2 y Tp hy hT
    · refine iteF' (decide_eq_false hi) ⟨d, l, cc, 12, rfl, S0.dr, by decide, by decide, fun p H1 form hp n1 n2 D1 s1 e1 F sd => ?_⟩
      refine ⟨_, rfl, tn0 <| ⟨d, l, cc, 60, rfl, D1, by decide, log_small (n := 60) (by decide), fun v H2 v0 v1 D2 s2 => ⟨(by show 0 ≤ sizeLine; decide), fun y hy => tn <| ⟨(by show 3 ≤ sizeLine; decide), fun Tp hT => ⟨Tp, _, rfl, SqT.of upd_same, rfl, _, _, rfl, _, _, rfl, _, _, rfl, rfl, ?_⟩⟩⟩⟩⟩
      exact K2 p H1 form (K1 p H1 form hp n1 n2 D1 s1 e1) F sd v H2 v0 v1 D2 s2 y Tp hy hT
  clear S0 x3 x4 x5
  rintro σ H1 ⟨fa, form, mo, y, rfl, S1, F, sd, hmo⟩
  have ok : okF (some (fV form)) = true := okF_of F sd
  have sh : short (some (fV form)) := fun xs e => by
    have := F.l2
    rw [← Option.some.inj e, sizeLine_eq]
    unfold fV
    rw [List.length_map]
    omega
  have ap : ∀ H, AllPV H (some (fV form)) := fun H xs e v hv => by
    rw [← Option.some.inj e] at hv
    obtain ⟨a, _, rfl⟩ := List.mem_map.mp hv
    exact .int _
  have wi : within (.int (mo : Int)) 0 3000 = true := by
    unfold within
    exact decide_eq_true (by omega)
  have rk : ∀ {G : Prop}, okF (some (fV form)) = false → G := fun z => nomatch ok.symm.trans z
  have rw' : ∀ {G : Prop}, within (.int (mo : Int)) 0 3000 = false → G := fun z => nomatch wi.symm.trans z
  -- due
  obtain ⟨Mx, eM, m1, m2, m3⟩ : ∃ Mx : Nat, (if (15 : Int) > (mo : Int) then (15 : Int) else (mo : Int)) = (Mx : Int) ∧ 15 ≤ Mx ∧ mo ≤ Mx ∧ Mx ≤ 59 := by
    by_cases c : (15 : Int) > (mo : Int)
    · exact ⟨15, by rw [if_pos c]; rfl, by omega, by omega, by omega⟩
    · exact ⟨mo, by rw [if_neg c], by omega, by omega, by omega⟩
  refine ⟨_, rfl, _, rfl, _, _, rfl, ?_⟩
  refine tn <| ⟨fa, form, Mx, by show [V.ref fa, V.int _] = _; rw [eM], S1.g 1 rfl, F, by omega, fun du H2 hdu s2 e2 => ?_⟩
  have S2 := S1.resL hdu s2 e2
  clear S1 s2 e2 hdu
  obtain ⟨R, eR⟩ : ∃ R, R = Th.wy form := ⟨_, rfl⟩
  rw [← eR] at S2
  have eN : ((mo : Int) + 1) = ((mo + 1 : Nat) : Int) := by omega
  have cutE : cutV (rowOf (Mx + 1) R) none (some ((mo : Int) + 1)) = rowOf (mo + 1) R := by
    rw [eN]
    exact row_take (by omega)
  -- is_form, form_row
  refine ⟨fun σ' H' => σ' = [some (.ref ra), some (.ref d), some (.int i), some (.ref fa), some (.int (mo : Int)), some (.ref y), some (.ref du), x7, x8, x9, x10, x11, x12, x13, x14, x15, x16] ∧ Sta Pt H' d l cc ((du, .lst (rowOf (Mx + 1) R)) :: (y, .lst []) :: (fa, .tup (fV form)) :: os), ?_, ?_⟩
  · refine ⟨_, rfl, tn <| ⟨_, some (fV form), rfl, .tup (S2.g 2 rfl), sh, ap _, fun H3 s3 => ⟨_, _, rfl, rfl, _, rfl, iteF' (by rw [ok]; rfl) ?_⟩⟩⟩
    have S3 := S2.same s3
    refine ⟨_, rfl, _, rfl, tn <| ⟨_, _, some (fV form), rfl, .tup (S3.g 2 rfl), sh, ap _, .int _, rk, fun _ => rw', fun _ _ => ⟨form, mo, rfl, rfl, by omega, fun r1 H4 hr1 s4 e4 => ?_⟩⟩⟩
    refine ⟨_, rfl, _, rfl, _, _, rfl, rfl, _, rfl, du, _, rfl, SqL.of (s4 _ _ (S3.g 0 rfl)), fun r2 hr2 => ?_⟩
    have S4 := (S3.same s4).same (same_new (o := .lst (cutV (rowOf (Mx + 1) R) none (some ((mo : Int) + 1)))) hr2)
    have e5 := (same_new (o := .lst (cutV (rowOf (Mx + 1) R) none (some ((mo : Int) + 1)))) hr2) _ _ e4
    have e6 : (upd H4 r2 (.lst (cutV (rowOf (Mx + 1) R) none (some ((mo : Int) + 1))))) r2 = some (.lst ((intsOf (mo + 1) R).map V.int)) := by
      rw [upd_same, cutE]
      rfl
    rw [← eR] at e5
    generalize upd H4 r2 (.lst (cutV (rowOf (Mx + 1) R) none (some ((mo : Int) + 1)))) = H5 at S4 e5 e6 ⊢
    refine ne_same (xs := intsOf (mo + 1) R) (SqL.of e5) (SqL.of e6) ⟨_, rfl, iteF ?_⟩
    clear e5 e6 S3 hr1 hr2 s4 e4
    refine ⟨_, rfl, _, rfl, tn <| ⟨_, _, some (fV form), rfl, .tup (S4.g 2 rfl), sh, ap _, .int _, rk, fun _ => rw', fun _ _ => ⟨form, mo, rfl, rfl, by omega, fun r1 H6 hr1 s4 e4 => ?_⟩⟩⟩
    refine ⟨_, rfl, _, rfl, _, _, rfl, rfl, _, rfl, du, _, rfl, SqL.of (s4 _ _ (S4.g 0 rfl)), fun r2 hr2 => ?_⟩
    have S5 := (S4.same s4).same (same_new (o := .lst (cutV (rowOf (Mx + 1) R) none (some ((mo : Int) + 1)))) hr2)
    have e5 := (same_new (o := .lst (cutV (rowOf (Mx + 1) R) none (some ((mo : Int) + 1)))) hr2) _ _ e4
    have e6 : (upd H6 r2 (.lst (cutV (rowOf (Mx + 1) R) none (some ((mo : Int) + 1))))) r2 = some (.lst ((intsOf (mo + 1) R).map V.int)) := by
      rw [upd_same, cutE]
      rfl
    rw [← eR] at e5
    generalize upd H6 r2 (.lst (cutV (rowOf (Mx + 1) R) none (some ((mo : Int) + 1)))) = H7 at S5 e5 e6 ⊢
    exact ne_same (xs := intsOf (mo + 1) R) (SqL.of e5) (SqL.of e6) ⟨_, rfl, iteF ⟨rfl, S5⟩⟩
  rintro σ H3 ⟨rfl, S3⟩
  clear S2 H2 x6
  -- gaps
  refine ⟨_, rfl, _, Mx + 1, rfl, .inl ⟨_, SqL.of (S3.g 0 rfl), by rw [row_len]⟩, _, _, rfl, ⟨by decide, by decide, by omega, by omega⟩, fun ga hga => ?_⟩
  refine lc_range (lo := 1) (n := (((Mx + 1 : Nat) : Int) - 1).toNat) (fun j H' => H' ga = some (.lst ((gaps R j).map V.int)) ∧ Same H3 H') ⟨upd_same, same_new hga⟩ ?_ ?_
  · rintro j H4 hj ⟨h4, s4⟩
    have ej : (1 : Int) + (j : Int) = ((j + 1 : Nat) : Int) := by omega
    rw [ej]
    refine ⟨rfl, _, rfl, _, rfl, du, _, _, _, rfl, rfl, SqL.of (s4 _ _ (S3.g 0 rfl)), row_val (by omega), rfl, _, rfl, ?_⟩
    by_cases c : R (j + 1) = 0
    · refine iteT' (decide_eq_true (congrArg V.int c)) ?_
      refine ⟨_, rfl, _, h4, ?_, ?_, fun b o e => by rw [upd_ne (ne_of_none e hga)]; exact s4 _ _ e⟩
      · rw [List.length_map, sizeLine_eq]
        have := gaps_len R j
        omega
      · rw [upd_same, gaps_succ, if_pos c, List.map_append]
        rfl
    · refine iteF' (decide_eq_false fun z => c (by injection z)) ⟨?_, s4⟩
      rw [gaps_succ, if_neg c, List.append_nil]
      exact h4
  rintro H4 ⟨e4, s4⟩
  rw [show (((Mx + 1 : Nat) : Int) - 1).toNat = Mx by omega] at e4
  have S4 := S3.resL hga s4 e4
  clear S3 s4 e4 hga
  have gl := gaps_len R Mx
  -- gaps_of
  refine ⟨fun σ' H' => σ' = [some (.ref ra), some (.ref d), some (.int i), some (.ref fa), some (.int (mo : Int)), some (.ref y), some (.ref du), some (.ref ga), x8, x9, x10, x11, x12, x13, x14, x15, x16] ∧ Sta Pt H' d l cc ((ga, .lst ((gaps R Mx).map V.int)) :: (du, .lst (rowOf (Mx + 1) R)) :: (y, .lst []) :: (fa, .tup (fV form)) :: os), ?_, ?_⟩
  · refine ⟨_, rfl, _, rfl, tn <| ⟨_, _, some (fV form), rfl, .tup (S4.g 3 rfl), sh, ap _, .int _, rk, fun _ => rw', fun _ _ => ⟨form, mo, rfl, rfl, by omega, fun g1 H5 hg1 s5 e5 => ?_⟩⟩⟩
    rw [← eR] at e5
    refine ⟨_, rfl, ga, rfl, ⟨_, SqL.of (s5 _ _ (S4.g 0 rfl))⟩, fun D2 hD2 => lc_list (K := K) (a := ga) (xs := (gaps R Mx).map V.int) (fun i H' => H' D2 = some (.lst ((((gaps R Mx).take i).filter (fun x => decide (x ≤ (mo : Int)))).map V.int)) ∧ Same H5 H') ⟨upd_same, same_new hD2⟩ (fun i H' _ ⟨_, s⟩ => SqL.of (s _ _ (s5 _ _ (S4.g 0 rfl)))) ?_ ?_⟩
    · rintro i x H' hi ⟨h1, s⟩
      obtain ⟨z, hz, rfl⟩ := int_at hi
      refine ⟨rfl, _, rfl, _, rfl, _, _, rfl, rfl, _, rfl, ?_⟩
      rw [keep_snoc _ hz]
      by_cases c : z ≤ (mo : Int)
      · refine iteT' (decide_eq_true c) ⟨_, rfl, _, h1, ?_, ?_, fun b o e => by rw [upd_ne (ne_of_none e hD2)]; exact s _ _ e⟩
        · have := List.length_filter_le (fun x => decide (x ≤ (mo : Int))) ((gaps R Mx).take i)
          rw [List.length_take] at this
          rw [List.length_map, sizeLine_eq]
          omega
        · rw [upd_same, if_pos c, List.map_append]
          rfl
      · refine iteF' (decide_eq_false c) ⟨?_, s⟩
        rw [if_neg c, List.append_nil]
        exact h1
    · rintro H6 ⟨e6, s6⟩
      have eg : gaps R Mx = gaps R (mo + (Mx - mo)) := by rw [show mo + (Mx - mo) = Mx by omega]
      rw [List.length_map, List.take_length, eg, gaps_cut] at e6
      exact ne_same (SqL.of (s6 _ _ e5)) (SqL.of e6) ⟨_, rfl, iteF ⟨rfl, (S4.same s5).same s6⟩⟩
  rintro σ H5 ⟨rfl, S5⟩
  clear S4 H4 x7
  -- early
  refine ⟨_, rfl, ga, rfl, ⟨_, SqL.of (S5.g 0 rfl)⟩, fun ea hea => lc_list (K := K) (a := ga) (xs := (gaps R Mx).map V.int) (fun i H' => H' ea = some (.lst ((((gaps R Mx).take i).filter (fun x => decide (x ≤ (15 : Int)))).map V.int)) ∧ Same H5 H') ⟨upd_same, same_new hea⟩ (fun i H' _ ⟨_, s⟩ => SqL.of (s _ _ (S5.g 0 rfl))) ?_ ?_⟩
  · rintro i x H' hi ⟨h1, s⟩
    obtain ⟨z, hz, rfl⟩ := int_at hi
    refine ⟨rfl, _, rfl, _, _, rfl, rfl, _, rfl, ?_⟩
    rw [keep_snoc _ hz]
    by_cases c : z ≤ (15 : Int)
    · refine iteT' (decide_eq_true c) ⟨_, rfl, _, h1, ?_, ?_, fun b o e => by rw [upd_ne (ne_of_none e hea)]; exact s _ _ e⟩
      · have := List.length_filter_le (fun x => decide (x ≤ (15 : Int))) ((gaps R Mx).take i)
        rw [List.length_take] at this
        rw [List.length_map, sizeLine_eq]
        omega
      · rw [upd_same, if_pos c, List.map_append]
        rfl
    · refine iteF' (decide_eq_false c) ⟨?_, s⟩
      rw [if_neg c, List.append_nil]
      exact h1
  rintro H6 ⟨e6, s6⟩
  have eg : gaps R Mx = gaps R (15 + (Mx - 15)) := by rw [show 15 + (Mx - 15) = Mx by omega]
  have eg2 : (gaps R Mx).filter (fun x => decide (x ≤ (15 : Int))) = gaps R 15 := by
    rw [eg]
    exact gaps_cut R 15 (Mx - 15)
  rw [List.length_map, List.take_length, eg2] at e6
  have S6 := S5.resL hea s6 e6
  clear S5 s6 e6 hea eg eg2
  -- least_missed
  refine ⟨fun σ' H' => σ' = [some (.ref ra), some (.ref d), some (.int i), some (.ref fa), some (.int (mo : Int)), some (.ref y), some (.ref du), some (.ref ga), some (.ref ea), x9, x10, x11, x12, x13, x14, x15, x16] ∧ Sta Pt H' d l cc ((ea, .lst ((gaps R 15).map V.int)) :: (ga, .lst ((gaps R Mx).map V.int)) :: (du, .lst (rowOf (Mx + 1) R)) :: (y, .lst []) :: (fa, .tup (fV form)) :: os), ?_, ?_⟩
  · refine ⟨_, rfl, tn <| ⟨_, some (fV form), rfl, .tup (S6.g 4 rfl), sh, ap _, rk, fun _ => ⟨form, rfl, fun H7 s7 => ?_⟩⟩⟩
    rw [← eR]
    have S7 := S6.same s7
    refine ⟨_, rfl, (by show 0 ≤ sizeLine; decide), fun z hz => ?_⟩
    have e7 := (same_new (o := .lst []) hz) _ _ (S7.g 0 rfl)
    have S8 := S7.same (same_new (o := .lst []) hz)
    have ez : (upd H7 z (.lst [])) z = some (.lst (List.map V.int [])) := upd_same
    generalize upd H7 z (.lst []) = H8 at e7 S8 ez ⊢
    refine ne_ints' (SqL.of e7) (SqL.of ez) ⟨_, rfl, ?_⟩
    rw [ints_ne]
    cases hgap : gaps R 15 with
    | nil =>
      rw [hgap] at S8
      exact iteF' (decide_eq_false (fun z => z rfl)) ⟨rfl, _, rfl, iteF ⟨rfl, S8⟩⟩
    | cons g gs =>
      rw [hgap] at S8 e7
      refine iteT' (decide_eq_true (fun z => nomatch z)) ⟨_, rfl, ea, _, _, .int g, rfl, rfl, SqL.of e7, (by
        unfold atI ixN
        rw [if_pos (by decide), if_pos (by simp)]
        rfl), rfl, _, rfl, iteF' (by
        show (!decide (V.int g = V.int g)) = false
        simp) ⟨rfl, S8⟩⟩
  rintro σ H7 ⟨rfl, S7⟩
  clear S6 H6 x8
  -- what is told to 15 is told to 120
  refine ⟨fun σ' H' => σ' = [some (.ref ra), some (.ref d), some (.int i), some (.ref fa), some (.int (mo : Int)), some (.ref y), some (.ref du), some (.ref ga), some (.ref ea), x9, x10, x11, x12, x13, x14, x15, x16] ∧ Sta Pt H' d l cc ((ea, .lst ((gaps R 15).map V.int)) :: (ga, .lst ((gaps R Mx).map V.int)) :: (du, .lst (rowOf (Mx + 1) R)) :: (y, .lst []) :: (fa, .tup (fV form)) :: os), ?_, ?_⟩
  · refine ⟨_, rfl, (by show 0 ≤ sizeLine; decide), fun z hz => ?_⟩
    have e7 := (same_new (o := .lst []) hz) _ _ (S7.g 0 rfl)
    have S8 := S7.same (same_new (o := .lst []) hz)
    have ez : (upd H7 z (.lst [])) z = some (.lst (List.map V.int [])) := upd_same
    generalize upd H7 z (.lst []) = H8 at e7 S8 ez ⊢
    refine ⟨.list (intsD (gaps R 15)), .list (intsD []), .lst (SqL.of e7) (ints_dp _), .lst (SqL.of ez) (ints_dp _), ints_shaped _, ints_shaped _, _, rfl, ?_⟩
    by_cases hgap : gaps R 15 = []
    · refine iteT' (by rw [hgap]; rfl) ?_
      refine ⟨_, rfl, tn0 <| ⟨fa, form, 120, rfl, S8.g 4 rfl, F, by decide, fun wa H9 hwa s9 e9 => ?_⟩⟩
      refine tn <| ⟨wa, _, rfl, SqL.of e9, fun D2 hD2 => lc_it walk_enum (fun i' H' => H' D2 = some (.lst (List.map V.int [])) ∧ Same H9 H') ⟨upd_same, same_new hD2⟩ (fun i' H' _ ⟨_, s⟩ => SqL.of (s _ _ e9)) ?_ ?_⟩
      · rintro j x Ha Hb hj ⟨h1, s⟩ ⟨T, u, v, rfl, hT, rfl, hu', hv⟩
        rw [row_len] at hj
        have hj2 : j < 120 + 1 := by omega
        have ev : v = .int (Th.wy form j) := by
          have z : (rowOf (120 + 1) (Th.wy form))[j]? = some v := hv
          rw [row_get hj2] at z
          exact (Option.some.inj z).symm
        subst ev
        obtain rfl : u = .int (j : Int) := (Option.some.inj hu').symm
        have sT := same_new (o := .tup [.int (j : Int), .int (Th.wy form j)]) hT
        have nz := tells_all F (by rw [← eR]; exact hgap) j (by omega)
        refine ⟨T, _, rfl, SqT.of upd_same, rfl, _, _, rfl, _, _, rfl, rfl, rfl, _, rfl, rfl, _, rfl, iteF' (decide_eq_false fun z => nz (by injection z)) ⟨?_, s.trans sT⟩⟩
        exact sT _ _ h1
      · rintro Hc ⟨e10, s10⟩
        refine ⟨(by show 0 ≤ sizeLine; decide), fun z2 hz2 => ?_⟩
        refine ne_same (xs := []) (SqL.of ((same_new (o := .lst []) hz2) _ _ e10)) (SqL.of upd_same) ⟨_, rfl, iteF ⟨rfl, ((S8.same s9).same s10).same (same_new hz2)⟩⟩
    · have : PyData.eqv (.list (intsD (gaps R 15))) (.list (intsD [])) = false := by
        have z := ints_ne (gaps R 15)
        rw [decide_eq_true hgap] at z
        simpa using z
      exact iteF' this (iteF ⟨rfl, S8⟩)
  rintro σ H8 ⟨rfl, S8⟩
  clear S7 H7
  -- form_term
  refine ⟨S8.tb, fun H9 eN9 T9 => ?_⟩
  have S9 := S8.ext eN9 T9
  clear S8 eN9 T9
  have S10 := (S9.perm perm5).sub (os' := (y, .lst []) :: (du, .lst (rowOf (Mx + 1) R)) :: (fa, .tup (fV form)) :: os) (.cons₂ _ (.cons₂ _ (.cons₂ _ (.cons _ (.cons _ (List.Sublist.refl _))))))
  clear S9
  refine ⟨_, rfl, .inl ⟨rfl, _, SqL.of (S10.g 0 rfl)⟩, _, rfl, tn <| ⟨_, some (fV form), rfl, .tup (S10.g 2 rfl), sh, ap _, rk, fun _ => ⟨form, rfl, fun hf dd H11 hdd s11 e11 => ⟨M.U_TooMany.m, fun far hfar => ?_⟩, fun hl t q e H11 ht hq he s11 et eq ee => ?_⟩⟩⟩
  · have S11 := (S10.res hdd s11 e11 (fun _ z => nomatch z)).new (o := ErX (.ref M.a_TooMany) (some dd) far) hfar (fun _ z => by
      unfold ErX at z
      cases z)
    generalize upd H11 far (ErX (.ref M.a_TooMany) (some dd) far) = H12 at S11 ⊢
    clear S10 hdd s11 e11 hfar
    refine ⟨fun _ _ => False, (show tLev K _ H12 _ from lev_ok F (S11.g 4 rfl) fun H13 s13 => ?_), fun _ _ z => z.elim⟩
    rw [decide_eq_true hf]
    have S13 := S11.same s13
    refine iteT ?_
    have ef : ErC H13 far M.a_TooMany (some [(("most" : Str), .int 360)]) := .inr ⟨dd, _, rfl, S13.g 0 rfl, S13.g 1 rfl⟩
    refine ⟨fun σ' H' => Slots ra d σ' ∧ Sta Pt H' d l cc os, ?_, fun σ' H' z => finc _ _ z.1 z.2⟩
    exact ⟨_, rfl, far, M.a_TooMany, _, _, _, true, rfl, ef, M.U_TooMany.e, fun u r => r, M.U_TooMany.i, _, rfl, iteF' rfl ⟨_, rfl, far, M.a_TooMany, _, .int 360, rfl, ef, M.U_TooMany.x, M.U_TooMany.no, rfl, rfl, _, rfl, iteF' (by decide) ⟨⟨_, _, _, _, _, _, _, _, _, _, _, _, _, _, _, rfl⟩, S13.tl.tl.tl.tl.tl⟩⟩⟩
  have nty : t ≠ y := (ne_of_none (S10.g 0 rfl) ht).symm
  have nqy : q ≠ y := (ne_of_none (S10.g 0 rfl) hq).symm
  have ney : e ≠ y := (ne_of_none (S10.g 0 rfl) he).symm
  have S11 := S10.same s11
  refine tn <| ⟨y, _, _, rfl, rfl, S11.g 0 rfl, (by show 0 < sizeLine; decide), ⟨_, rfl, ?_⟩⟩
  have S12 : Sta Pt (upd H11 y (.lst ([] ++ [.ref t]))) d l cc ((y, .lst [.ref t]) :: _) := S11.put
  have et2 : (upd H11 y (.lst ([] ++ [.ref t]))) t = some (.tup [.int 1, .ref q, .ref e]) := by rw [upd_ne nty]; exact et
  have eq2 : (upd H11 y (.lst ([] ++ [.ref t]))) q = some (.dK (Qm.kvs (thE form) (Qm.nz (thE form)))) := by rw [upd_ne nqy]; exact eq
  have ee2 : (upd H11 y (.lst ([] ++ [.ref t]))) e = some (.tup []) := by rw [upd_ne ney]; exact ee
  generalize upd H11 y (.lst ([] ++ [.ref t])) = H12 at S12 et2 eq2 ee2 ⊢
  clear S10 S11 ht hq he s11 et eq ee nty nqy ney
  refine ⟨fun σ' H' => σ' = [some (.ref ra), some (.ref d), some (.int i), some (.ref fa), some (.int (mo : Int)), some (.ref y), some (.ref du), some (.ref ga), some (.ref ea), some .non, x10, x11, x12, x13, x14, x15, x16] ∧ Same H12 H', (show tLev K _ H12 _ from lev_ok F (S12.g 2 rfl) fun H13 s13 => iteF' (decide_eq_false (by omega)) ⟨rfl, s13⟩), ?_⟩
  rintro σ H13 ⟨rfl, s13⟩
  have S13 := S12.same s13
  have et3 := s13 _ _ et2
  have eq3 := s13 _ _ eq2
  have ee3 := s13 _ _ ee2
  clear S12 et2 eq2 ee2 s13
  obtain ⟨L, eL⟩ : ∃ L : List (Int × Int), L = (Qm.nz (thE form)).map fun c : Nat => ((c : Int), thE form c) := ⟨_, rfl⟩
  have eK : Qm.kvs (thE form) (Qm.nz (thE form)) = kvI L := by
    rw [eL]
    unfold kvI Qm.kvs
    rw [List.map_map]
    rfl
  obtain ⟨h432, hws, hrec⟩ := row_ready F
  have lL : L.length ≤ 100 := by
    have := thE_len form fun a ha => ⟨F.a1 a ha, F.a2 a ha⟩
    have := F.l2
    rw [eL, List.length_map]
    omega
  have bL : ∀ p ∈ L, p.1.natAbs < 2 ^ 64 ∧ p.2.natAbs < 2 ^ 64 := fun p hp => by
    rw [eL] at hp
    obtain ⟨c, hc, rfl⟩ := List.mem_map.mp hp
    have := h432 c hc
    show ((c : Int)).natAbs < 2 ^ 64 ∧ (thE form c).natAbs < 2 ^ 64
    omega
  refine ⟨_, rfl, rfl, _, rfl, iteF' (by decide) ?_⟩
  refine ⟨_, rfl, y, [.ref t], 0, .ref t, rfl, rfl, SqL.of (S13.g 0 rfl), atI_nat (xs := [V.ref t]) (j := 0) rfl, tn <| ⟨t, q, e, L, rfl, et3, by rw [eq3, eK], ee3, lL, bL, ?_⟩⟩
  refine ⟨_, rfl, tn <| ⟨fa, form, rfl, S13.g 2 rfl, F, fun th H14 hth s14 e14 => ⟨(by show 0 ≤ sizeLine; decide), fun e2 he2 => tn <| ⟨(by show 3 ≤ sizeLine; decide), fun t2 ht2 => ?_⟩⟩⟩⟩
  have s15 := same_new (o := .tup []) he2
  have ee5 : (upd H14 e2 (.tup [])) e2 = some (.tup []) := upd_same
  have s16 := same_new (o := .tup [.int 1, .ref th, .ref e2]) ht2
  have et6 : (upd (upd H14 e2 (.tup [])) t2 (.tup [.int 1, .ref th, .ref e2])) t2 = some (.tup [.int 1, .ref th, .ref e2]) := upd_same
  have S16 := ((S13.same s14).same s15).same s16
  have th6 := s16 _ _ (s15 _ _ e14)
  have ee6 := s16 _ _ ee5
  have et7 := s16 _ _ (s15 _ _ (s14 _ _ et3))
  have eq7 := s16 _ _ (s15 _ _ (s14 _ _ eq3))
  generalize upd (upd H14 e2 (.tup [])) t2 (.tup [.int 1, .ref th, .ref e2]) = H16 at S16 et6 th6 ee6 et7 eq7 ⊢
  clear S13 et3 eq3 ee3 hth s14 e14 he2 ht2 s15 ee5 s16
  refine tn <| ⟨t2, th, e2, L, rfl, et6, by rw [th6, eK], ee6, lL, bL, ⟨rfl, _, rfl, iteF' (by simp) ?_⟩⟩
  refine ⟨_, rfl, y, [.ref t], 0, .ref t, rfl, rfl, SqL.of (S16.g 0 rfl), atI_nat (xs := [V.ref t]) (j := 0) rfl, ?_⟩
  refine ⟨t, [.int 1, .ref q, .ref e], 1, .ref q, rfl, rfl, SqT.of et7, atI_nat (xs := [.int 1, V.ref q, .ref e]) (j := 1) rfl, ?_⟩
  refine ⟨_, rfl, tn <| ⟨q, thE form, Qm.nz (thE form), mo, R, rfl, eq7, h432, by omega, by rw [eR]; exact wy_zero F.a1, hws, fun n h1 h2 => by rw [eR]; exact hrec n h1 (by omega), fun r1 H17 hr1 s17 e17 => ?_⟩⟩
  refine ⟨_, rfl, _, rfl, _, _, rfl, rfl, _, rfl, du, _, rfl, SqL.of (s17 _ _ (S16.g 1 rfl)), fun r2 hr2 => ?_⟩
  have S17 := (S16.same s17).same (same_new (o := .lst (cutV (rowOf (Mx + 1) R) none (some ((mo : Int) + 1)))) hr2)
  have e18 := (same_new (o := .lst (cutV (rowOf (Mx + 1) R) none (some ((mo : Int) + 1)))) hr2) _ _ e17
  have e19 : (upd H17 r2 (.lst (cutV (rowOf (Mx + 1) R) none (some ((mo : Int) + 1))))) r2 = some (.lst ((intsOf (mo + 1) R).map V.int)) := by
    rw [upd_same, cutE]
    rfl
  generalize upd H17 r2 (.lst (cutV (rowOf (Mx + 1) R) none (some ((mo : Int) + 1)))) = H18 at S17 e18 e19 ⊢
  exact ne_same (xs := intsOf (mo + 1) R) (SqL.of e18) (SqL.of e19) ⟨_, rfl, iteF (fin _ _ ⟨_, _, _, _, _, _, _, _, _, _, _, _, _, _, _, rfl⟩ S17.tl.tl.tl)⟩
end
end K63

set_option Elab.async false
set_option linter.all false
set_option maxRecDepth 100000
set_option maxHeartbeats 4000000
set_option pp.maxSteps 3000
set_option exponentiation.threshold 500000
namespace K63
open PySem PySem.Spec PyProof.Rows L2 Dr Xv LamX Ps Gn Fm
def flatV : V → Bool
  | .non => true
  | .bl _ => true
  | .int _ => true
  | .str _ => true
  | _ => false
theorem flat_pv {H : Hp} {v : V} (h : flatV v = true) : PV H v := by
  cases v with
  | non => exact .non
  | bl b => exact .bl b
  | int i => exact .int i
  | str x => exact .str x
  | _ => cases h
/-- no form, wherever these objects are -/
def BadF (os : List (Addr × HO)) (v : V) : Prop := ∀ H : Hp, (∀ x ∈ os, H x.1 = some x.2) → ∃ o, Tp H v o ∧ short o ∧ AllPV H o ∧ okF o = false
theorem bad_tup {os : List (Addr × HO)} {a : Addr} {xs : List V} (h : (a, HO.tup xs) ∈ os) (hf : xs.all flatV = true) (hl : xs.length ≤ 1000) (ho : okF (some xs) = false) : BadF os (.ref a) := by
  refine fun H hH => ⟨some xs, .tup (hH _ h), fun ys e => ?_, fun ys e v hv => ?_, ho⟩
  · cases e
    rw [sizeLine_eq]
    omega
  · cases e
    exact flat_pv (List.all_eq_true.mp hf v hv)
theorem no_tup {H : Hp} {v : V} (h : Tp H v none) : ∃ o, Tp H v o ∧ short o ∧ AllPV H o ∧ okF o = false := ⟨none, h, (fun _ e => by cases e), (fun _ e => by cases e), rfl⟩
theorem isf_bad {os : List (Addr × HO)} {v : V} {H : Hp} {Q : VK} {E : XK} (hb : BadF os v) (hH : ∀ x ∈ os, H x.1 = some x.2) (q : ∀ H', Same H H' → Q (.bl false) H') : sp_is_form [v] H Q E := by
  obtain ⟨o, h1, h2, h3, h4⟩ := hb H hH
  refine ⟨v, o, rfl, h1, h2, h3, fun H' s => ?_⟩
  rw [h4]
  exact q H' s
section
variable {cF cM : Addr} {os : List (Addr × HO)} {v o : V} {H : Hp} {Q : VK} {E : XK}
theorem row_bad (hb : BadF os v) (hH : ∀ x ∈ os, H x.1 = some x.2) (ho : PV H o) (q : ∀ H', Same H H' → E (.ref cF) none H') : sp_form_row cF cM [v, o] H Q E := by
  obtain ⟨o', h1, h2, h3, h4⟩ := hb H hH
  exact ⟨v, o, o', rfl, h1, h2, h3, ho, (fun _ => q), (fun z => nomatch h4.symm.trans z), (fun z => nomatch h4.symm.trans z)⟩
theorem gaps_bad (hb : BadF os v) (hH : ∀ x ∈ os, H x.1 = some x.2) (ho : PV H o) (q : ∀ H', Same H H' → E (.ref cF) none H') : sp_gaps_of cF cM [v, o] H Q E := by
  obtain ⟨o', h1, h2, h3, h4⟩ := hb H hH
  exact ⟨v, o, o', rfl, h1, h2, h3, ho, (fun _ => q), (fun z => nomatch h4.symm.trans z), (fun z => nomatch h4.symm.trans z)⟩
theorem term_bad (hb : BadF os v) (hH : ∀ x ∈ os, H x.1 = some x.2) (q : ∀ H', Same H H' → E (.ref cF) none H') : sp_form_term cF cM [v] H Q E := by
  obtain ⟨o', h1, h2, h3, h4⟩ := hb H hH
  exact ⟨v, o', rfl, h1, h2, h3, (fun _ => q), (fun z => nomatch h4.symm.trans z)⟩
theorem miss_bad (hb : BadF os v) (hH : ∀ x ∈ os, H x.1 = some x.2) (q : ∀ H', Same H H' → E (.ref cF) none H') : sp_least_missed cF [v] H Q E := by
  obtain ⟨o', h1, h2, h3, h4⟩ := hb H hH
  exact ⟨v, o', rfl, h1, h2, h3, (fun _ => q), (fun z => nomatch h4.symm.trans z)⟩
theorem one_ok : okF (some [V.int 1]) = true := by decide
theorem row_odd {t : Addr} (ht : H t = some (.tup [.int 1])) (ho : PV H o) (hw : within o 0 3000 = false) (q : ∀ H', Same H H' → E (.ref cM) none H') : sp_form_row cF cM [.ref t, o] H Q E :=
  ⟨_, o, some [.int 1], rfl, .tup ht, (fun xs e => by rw [← Option.some.inj e, sizeLine_eq]; decide), (fun xs e v hv => by rw [← Option.some.inj e] at hv; rw [List.mem_singleton.mp hv]; exact .int _), ho, (fun z => nomatch one_ok.symm.trans z), (fun _ _ => q), fun _ z => nomatch hw.symm.trans z⟩
theorem gaps_odd {t : Addr} (ht : H t = some (.tup [.int 1])) (ho : PV H o) (hw : within o 0 3000 = false) (q : ∀ H', Same H H' → E (.ref cM) none H') : sp_gaps_of cF cM [.ref t, o] H Q E :=
  ⟨_, o, some [.int 1], rfl, .tup ht, (fun xs e => by rw [← Option.some.inj e, sizeLine_eq]; decide), (fun xs e v hv => by rw [← Option.some.inj e] at hv; rw [List.mem_singleton.mp hv]; exact .int _), ho, (fun z => nomatch one_ok.symm.trans z), (fun _ _ => q), fun _ z => nomatch hw.symm.trans z⟩
end
section
variable {P : Program} {w : World} {K : PySem.W.Frag} {mg : Str → Option Value} {base : Heap} {f c Pt : Addr} {A : Around} {outer : List Env} {s : Shared} {H : Hp} {E : XK}
theorem tail_ok (M : Mod P w K mg base) (TB : TabB base mg c Pt) (hr : Room 10 (XL P w K mg base f c A outer s H E).A) :
    ∃ t, PSs (XL P w K mg base f c A outer s H E) tailB t ∧ ∀ (D : Ends) (σ : L2.St) (H0 : Hp) (os : List (Addr × HO)) (ra d l cc : Addr), Slots ra d σ → Sta Pt H0 d l cc os → (∀ H', D.rt (.bl true) H') → t D σ H0 := by
  have hrL : Room 10 (XL P w K mg base f c A outer s H E).A := hr
  have hu := hu_of hr
  have hx : ∀ {X : Cx}, Passes (L2.CX X.prog X.w) X (fun _ _ _ => False) := fun {X} => passes_call L2.takes0 (fun _ _ _ _ z => z)
  refine ⟨_, (pss_cons (ps_set (i := 10) sc_law.nd rfl (Or.inl rfl) (pe_lst (pa_cons pe_non (pa_cons pe_int (pa_cons (pe_tup pa_nil) (pa_cons (pe_lst (pa_cons pe_int (pa_cons pe_int pa_nil))) (pa_cons (pe_tup (pa_cons pe_int pa_nil)) (pa_cons (pe_tup (pa_cons pe_int (pa_cons pe_int pa_nil))) (pa_cons (pe_tup (pa_cons pe_int pa_nil)) (pa_cons (pe_tup (pa_cons pe_int (pa_cons pe_bl pa_nil))) (pa_cons (pe_tup (pa_cons pe_str pa_nil)) (pa_cons (pe_op op_repT (pe_tup (pa_cons pe_int pa_nil)) pe_int) (pa_cons (pe_tup (pa_cons pe_int (pa_cons pe_non pa_nil))) (pa_cons (pe_tup (pa_cons (pe_un un_neg pe_int) (pa_cons pe_int pa_nil))) pa_nil))))))))))))))
      (pss_cons (ps_asg (pe_tup (pa_cons (pe_call (ok__law_pick M) (hr.mono (by decide)) rfl M.g__law_pick M.k__law_pick M.b__law_pick .nil pass0 (pa_cons (pv 1) (pa_cons (pv 10) pa_nil))) (pa_cons (pe_call (ok__law_pick M) (hr.mono (by decide)) rfl M.g__law_pick M.k__law_pick M.b__law_pick .nil pass0 (pa_cons (pv 1) (pa_cons (pe_lst (pa_cons pe_non (pa_cons (pe_un un_neg pe_int) (pa_cons pe_int (pa_cons pe_bl pa_nil))))) pa_nil))) pa_nil))) (pg_tup rfl (pgs_cons (pg_name (i := 11) sc_law.nd rfl (Or.inr rfl)) (pgs_cons (pg_name (i := 12) sc_law.nd rfl (Or.inr rfl)) pgs_nil))))
      (pss_cons (ps_set (i := 13) sc_law.nd rfl (Or.inl rfl) (pe_lst (pa_cons (pe_cmpR op_is_bl (pe_callK0 (ok_is_form M) (hr.mono (by decide)) rfl M.g_is_form M.k_is_form M.h_is_form pass0 (pk_cons (pv 11) pk_nil)) pe_bl (nomark _)) pa_nil)))
      (pss_cons (ps_expr (pe_bm PySem.F.plainAttrs_list PySem.F.slot_list_append PySem.F.type_list_append mt_append (pv 13) (pa_cons (pe_callB call_isC (by rfl) M.isinstance0 boot_isinstance (pa_cons (pe_law (t := fun E' => (tCall (sp_form_row M.a_BadForm M.a_BadMost) [] E' (tCons (tVar 11) (tCons (tVar 12) tNil)))) M TB hrL (by decide +kernel) rfl
          (fun A' outer' s' H' E' f' c' hr' => (pe_call (ok_form_row M) (hr'.mono (by decide)) rfl M.g_form_row M.k_form_row M.b_form_row .nil (passes_call (takes_of rfl rfl rfl rfl) (fun _ _ _ _ h => h)) (pa_cons (pv 11) (pa_cons (pv 12) pa_nil))))) (pa_cons (pe_glob (v := .ref M.a_BadForm) rfl M.g_BadForm rfl) pa_nil))) pa_nil)))
      (pss_cons (ps_expr (pe_bm PySem.F.plainAttrs_list PySem.F.slot_list_append PySem.F.type_list_append mt_append (pv 13) (pa_cons (pe_callB call_isC (by rfl) M.isinstance0 boot_isinstance (pa_cons (pe_law (t := fun E' => (tCall (sp_gaps_of M.a_BadForm M.a_BadMost) [] E' (tCons (tVar 11) (tCons (tVar 12) tNil)))) M TB hrL (by decide +kernel) rfl
          (fun A' outer' s' H' E' f' c' hr' => (pe_call (ok_gaps_of M) (hr'.mono (by decide)) rfl M.g_gaps_of M.k_gaps_of M.b_gaps_of .nil (passes_call (takes_of rfl rfl rfl rfl) (fun _ _ _ _ h => h)) (pa_cons (pv 11) (pa_cons (pv 12) pa_nil))))) (pa_cons (pe_glob (v := .ref M.a_BadForm) rfl M.g_BadForm rfl) pa_nil))) pa_nil)))
      (pss_cons (ps_expr (pe_bm PySem.F.plainAttrs_list PySem.F.slot_list_append PySem.F.type_list_append mt_append (pv 13) (pa_cons (pe_callB call_isC (by rfl) M.isinstance0 boot_isinstance (pa_cons (pe_law (t := fun E' => (tCall (sp_form_term M.a_BadForm M.a_TooMany) [] E' (tCons (tVar 11) tNil))) M TB hrL (by decide +kernel) rfl
          (fun A' outer' s' H' E' f' c' hr' => (pe_call (ok_form_term M) (hr'.mono (by decide)) rfl M.g_form_term M.k_form_term M.b_form_term .nil (passes_call (takes_of rfl rfl rfl rfl) (fun _ _ _ _ h => h)) (pa_cons (pv 11) pa_nil)))) (pa_cons (pe_glob (v := .ref M.a_BadForm) rfl M.g_BadForm rfl) pa_nil))) pa_nil)))
      (pss_cons (ps_expr (pe_bm PySem.F.plainAttrs_list PySem.F.slot_list_append PySem.F.type_list_append mt_append (pv 13) (pa_cons (pe_callB call_isC (by rfl) M.isinstance0 boot_isinstance (pa_cons (pe_law (t := fun E' => (tCall (sp_least_missed M.a_BadForm) [] E' (tCons (tVar 11) tNil))) M TB hrL (by decide +kernel) rfl
          (fun A' outer' s' H' E' f' c' hr' => (pe_call (ok_least_missed M) (hr'.mono (by decide)) rfl M.g_least_missed M.k_least_missed M.b_least_missed .nil (passes_call (takes_of rfl rfl rfl rfl) (fun _ _ _ _ h => h)) (pa_cons (pv 11) pa_nil)))) (pa_cons (pe_glob (v := .ref M.a_BadForm) rfl M.g_BadForm rfl) pa_nil))) pa_nil)))
      (pss_cons (ps_expr (pe_bm PySem.F.plainAttrs_list PySem.F.slot_list_append PySem.F.type_list_append mt_append (pv 13) (pa_cons (pe_callB call_isC (by rfl) M.isinstance0 boot_isinstance (pa_cons (pe_law (t := fun E' => (tCall (sp_form_row M.a_BadForm M.a_BadMost) [] E' (tCons (tTup (tCons (tC (.int 1)) tNil)) (tCons (tVar 12) tNil)))) M TB hrL (by decide +kernel) rfl
          (fun A' outer' s' H' E' f' c' hr' => (pe_call (ok_form_row M) (hr'.mono (by decide)) rfl M.g_form_row M.k_form_row M.b_form_row .nil (passes_call (takes_of rfl rfl rfl rfl) (fun _ _ _ _ h => h)) (pa_cons (pe_tup (pa_cons pe_int pa_nil)) (pa_cons (pv 12) pa_nil))))) (pa_cons (pe_glob (v := .ref M.a_BadMost) rfl M.g_BadMost rfl) pa_nil))) pa_nil)))
      (pss_cons (ps_expr (pe_bm PySem.F.plainAttrs_list PySem.F.slot_list_append PySem.F.type_list_append mt_append (pv 13) (pa_cons (pe_callB call_isC (by rfl) M.isinstance0 boot_isinstance (pa_cons (pe_law (t := fun E' => (tCall (sp_gaps_of M.a_BadForm M.a_BadMost) [] E' (tCons (tTup (tCons (tC (.int 1)) tNil)) (tCons (tVar 12) tNil)))) M TB hrL (by decide +kernel) rfl
          (fun A' outer' s' H' E' f' c' hr' => (pe_call (ok_gaps_of M) (hr'.mono (by decide)) rfl M.g_gaps_of M.k_gaps_of M.b_gaps_of .nil (passes_call (takes_of rfl rfl rfl rfl) (fun _ _ _ _ h => h)) (pa_cons (pe_tup (pa_cons pe_int pa_nil)) (pa_cons (pv 12) pa_nil))))) (pa_cons (pe_glob (v := .ref M.a_BadMost) rfl M.g_BadMost rfl) pa_nil))) pa_nil)))
      (pss_one (ps_ret (pe_cmpR op_notIn_seq pe_bl (pv 13) (by rfl))))))))))))), ?_⟩
  rintro D σ H0 os ra d l cc ⟨x2, x3, x4, x5, x6, x7, x8, x9, x10, x11, x12, x13, x14, x15, x16, rfl⟩ S00 q
  have S0 := S00.sub (os' := []) (List.nil_sublist _)
  clear S00
  -- some
  refine ⟨(by show 0 ≤ sizeLine; decide), fun e0 he0 => ⟨(by show 2 ≤ sizeLine; decide), fun a1 ha1 => ⟨(by show 1 ≤ sizeLine; decide), fun a2 ha2 => ⟨(by show 2 ≤ sizeLine; decide), fun a3 ha3 => ⟨(by show 1 ≤ sizeLine; decide), fun a4 ha4 => ⟨(by show 2 ≤ sizeLine; decide), fun a5 ha5 => ⟨(by show 1 ≤ sizeLine; decide), fun a6 ha6 => ⟨(by show 1 ≤ sizeLine; decide), fun a7 ha7 => ?_⟩⟩⟩⟩⟩⟩⟩⟩
  have S1 := ((((((((S0.newT (xs := []) he0).newL (xs := [.int 1, .int 1]) ha1).newT (xs := [.int 0]) ha2).newT (xs := [.int 2, .int 1]) ha3).newT (xs := [.int 91]) ha4).newT (xs := [.int 1, .bl true]) ha5).newT (xs := [.str "1"]) ha6).newT (xs := [.int 1]) ha7)
  have e7 := S1.g 0 rfl
  refine ⟨a7, 13, [.int 1], rfl, rfl, SqT.of e7, (fun z => nomatch z), by decide, by decide, by decide, fun a8 ha8 => ⟨(by show 2 ≤ sizeLine; decide), fun a9 ha9 => ⟨1, rfl, (by show 2 ≤ sizeLine; decide), fun a10 ha10 => ⟨(by show 12 ≤ sizeLine; decide), fun z hz => ?_⟩⟩⟩⟩
  have S3 := (((S1.newT (xs := (List.replicate (13 : Int).toNat [V.int 1]).flatten) ha8).newT (xs := [.int 1, .non]) ha9).newT (xs := [.int (-1), .int 1]) ha10).newL (xs := [.non, .int 5, .ref e0, .ref a1, .ref a2, .ref a3, .ref a4, .ref a5, .ref a6, .ref a8, .ref a9, .ref a10]) hz
  clear S1 e7
  refine ⟨_, rfl, _, rfl, tn <| ⟨d, l, cc, z, [.non, .int 5, .ref e0, .ref a1, .ref a2, .ref a3, .ref a4, .ref a5, .ref a6, .ref a8, .ref a9, .ref a10], rfl, S3.dr, (fun H' s' => SqL.of (S3.gx 0 rfl s')), by simp, (by show 12 ≤ 1000; decide), fun bad H2 hbad D2 s2 => ?_⟩⟩
  have S4 := (S3.sx s2 D2).tl
  clear S3 he0 ha1 ha2 ha3 ha4 ha5 ha6 ha7 ha8 ha9 ha10 hz s2 D2
  obtain ⟨os, eo⟩ : ∃ os, os = [(a10, HO.tup [V.int (-1), V.int 1]), (a9, HO.tup [V.int 1, V.non]), (a8, HO.tup (List.replicate (13 : Int).toNat [V.int 1]).flatten), (a7, HO.tup [V.int 1]), (a6, HO.tup [V.str "1"]), (a5, HO.tup [V.int 1, V.bl true]), (a4, HO.tup [V.int 91]), (a3, HO.tup [V.int 2, V.int 1]), (a2, HO.tup [V.int 0]), (a1, HO.lst [V.int 1, V.int 1]), (e0, HO.tup [])] := ⟨_, rfl⟩
  have hB : BadF os bad := by
    simp only [List.mem_cons, List.not_mem_nil, or_false] at hbad
    rcases hbad with rfl | rfl | rfl | rfl | rfl | rfl | rfl | rfl | rfl | rfl | rfl | rfl
    · exact fun H hH => no_tup .non
    · exact fun H hH => no_tup (.int 5)
    · exact bad_tup (xs := []) (by rw [eo]; simp) (by decide) (by decide) (by decide)
    · exact fun H hH => no_tup (.lst (hH (a1, .lst [.int 1, .int 1]) (by rw [eo]; simp)))
    · exact bad_tup (xs := [.int 0]) (by rw [eo]; simp) (by decide) (by decide) (by decide)
    · exact bad_tup (xs := [.int 2, .int 1]) (by rw [eo]; simp) (by decide) (by decide) (by decide)
    · exact bad_tup (xs := [.int 91]) (by rw [eo]; simp) (by decide) (by decide) (by decide)
    · exact bad_tup (xs := [.int 1, .bl true]) (by rw [eo]; simp) (by decide) (by decide) (by decide)
    · exact bad_tup (xs := [.str "1"]) (by rw [eo]; simp) (by decide) (by decide) (by decide)
    · exact bad_tup (xs := (List.replicate (13 : Int).toNat [V.int 1]).flatten) (by rw [eo]; simp) (by decide +kernel) (by decide +kernel) (by decide +kernel)
    · exact bad_tup (xs := [.int 1, .non]) (by rw [eo]; simp) (by decide) (by decide) (by decide)
    · exact bad_tup (xs := [.int (-1), .int 1]) (by rw [eo]; simp) (by decide) (by decide) (by decide)
  rw [← eo] at S4
  clear eo hbad
  have oB : ∀ {H : Hp} {pre : List (Addr × HO)}, Sta Pt H d l cc (pre ++ os) → ∀ x ∈ os, H x.1 = some x.2 := fun S x hx => (S.O x (List.mem_append_right _ hx)).1
  -- odd
  refine ⟨_, rfl, 1, rfl, (by show 4 ≤ sizeLine; decide), fun z hz => ?_⟩
  have S5 := S4.newL (xs := [.non, .int (-1), .int 3001, .bl true]) hz
  refine tn <| ⟨d, l, cc, z, [.non, .int (-1), .int 3001, .bl true], rfl, S5.dr, (fun H' s' => SqL.of (S5.gx 0 rfl s')), by simp, (by show 4 ≤ 1000; decide), fun odd H3 hodd D3 s3 => ?_⟩
  have S6 := (S5.sx s3 D3).tl
  clear S4 S5 hz s3 D3
  have hO : (∀ H, PV H odd) ∧ within odd 0 3000 = false := by
    simp only [List.mem_cons, List.not_mem_nil, or_false] at hodd
    rcases hodd with rfl | rfl | rfl | rfl
    · exact ⟨fun _ => .non, rfl⟩
    · exact ⟨fun _ => .int _, rfl⟩
    · exact ⟨fun _ => .int _, rfl⟩
    · exact ⟨fun _ => .bl _, rfl⟩
  clear hodd
  refine tn <| ⟨(by show 2 ≤ sizeLine; decide), fun Tp hT => ⟨Tp, _, rfl, SqT.of upd_same, rfl, _, _, rfl, _, _, rfl, rfl, ?_⟩⟩
  have S7 := S6.same (same_new (o := .tup [bad, odd]) hT)
  generalize upd H3 Tp (.tup [bad, odd]) = H4 at S7 ⊢
  clear S6 hT
  -- checks
  refine ⟨_, rfl, tn <| isf_bad hB (oB (pre := []) S7) fun H5 s5 => ⟨_, _, rfl, rfl, (by show 1 ≤ sizeLine; decide), fun ck hck => ?_⟩⟩
  have C0 : Sta Pt (upd H5 ck (.lst [V.bl (decide (false = false))])) d l cc ((ck, .lst (List.replicate 1 (.bl true))) :: os) := (S7.same s5).newL hck
  generalize upd H5 ck (.lst [V.bl (decide (false = false))]) = K0 at C0 ⊢
  clear S7 s5 hck
  -- call 0
  refine ⟨_, rfl, .inl ⟨rfl, _, SqL.of (C0.g 0 rfl)⟩, C0.tb, fun J0 eN T0 => ?_⟩
  have B0 := C0.ext eN T0
  refine ⟨_, rfl, _, rfl, tn <| row_bad hB (oB (pre := [_]) B0) (hO.1 _) fun L0 s0 => ⟨M.E_BadForm.m, fun a ha => ?_⟩⟩
  refine ⟨a, M.a_BadForm, none, _, _, _, rfl, .inl ⟨rfl, upd_same⟩, M.E_BadForm.e, fun u r => r, M.E_BadForm.i, ?_⟩
  have G0 := (B0.same s0).same (same_new (o := ErX (.ref M.a_BadForm) none a) ha)
  refine ⟨ck, _, _, rfl, rfl, G0.g 0 rfl, (by rw [List.length_replicate]; decide), ?_⟩
  have C1 := G0.put (ys := List.replicate 2 (.bl true))
  clear C0 B0 G0 ha eN T0 s0
  -- call 1
  refine ⟨_, rfl, .inl ⟨rfl, _, SqL.of (C1.g 0 rfl)⟩, C1.tb, fun J1 eN T1 => ?_⟩
  have B1 := C1.ext eN T1
  refine ⟨_, rfl, _, rfl, tn <| gaps_bad hB (oB (pre := [_]) B1) (hO.1 _) fun L1 s1 => ⟨M.E_BadForm.m, fun a ha => ?_⟩⟩
  refine ⟨a, M.a_BadForm, none, _, _, _, rfl, .inl ⟨rfl, upd_same⟩, M.E_BadForm.e, fun u r => r, M.E_BadForm.i, ?_⟩
  have G1 := (B1.same s1).same (same_new (o := ErX (.ref M.a_BadForm) none a) ha)
  refine ⟨ck, _, _, rfl, rfl, G1.g 0 rfl, (by rw [List.length_replicate]; decide), ?_⟩
  have C2 := G1.put (ys := List.replicate 3 (.bl true))
  clear C1 B1 G1 ha eN T1 s1
  -- call 2
  refine ⟨_, rfl, .inl ⟨rfl, _, SqL.of (C2.g 0 rfl)⟩, C2.tb, fun J2 eN T2 => ?_⟩
  have B2 := C2.ext eN T2
  refine ⟨_, rfl, tn <| term_bad hB (oB (pre := [_]) B2) fun L2 s2 => ⟨M.E_BadForm.m, fun a ha => ?_⟩⟩
  refine ⟨a, M.a_BadForm, none, _, _, _, rfl, .inl ⟨rfl, upd_same⟩, M.E_BadForm.e, fun u r => r, M.E_BadForm.i, ?_⟩
  have G2 := (B2.same s2).same (same_new (o := ErX (.ref M.a_BadForm) none a) ha)
  refine ⟨ck, _, _, rfl, rfl, G2.g 0 rfl, (by rw [List.length_replicate]; decide), ?_⟩
  have C3 := G2.put (ys := List.replicate 4 (.bl true))
  clear C2 B2 G2 ha eN T2 s2
  -- call 3
  refine ⟨_, rfl, .inl ⟨rfl, _, SqL.of (C3.g 0 rfl)⟩, C3.tb, fun J3 eN T3 => ?_⟩
  have B3 := C3.ext eN T3
  refine ⟨_, rfl, tn <| miss_bad hB (oB (pre := [_]) B3) fun L3 s3 => ⟨M.E_BadForm.m, fun a ha => ?_⟩⟩
  refine ⟨a, M.a_BadForm, none, _, _, _, rfl, .inl ⟨rfl, upd_same⟩, M.E_BadForm.e, fun u r => r, M.E_BadForm.i, ?_⟩
  have G3 := (B3.same s3).same (same_new (o := ErX (.ref M.a_BadForm) none a) ha)
  refine ⟨ck, _, _, rfl, rfl, G3.g 0 rfl, (by rw [List.length_replicate]; decide), ?_⟩
  have C4 := G3.put (ys := List.replicate 5 (.bl true))
  clear C3 B3 G3 ha eN T3 s3
  -- call 4
  refine ⟨_, rfl, .inl ⟨rfl, _, SqL.of (C4.g 0 rfl)⟩, C4.tb, fun J4 eN T4 => ?_⟩
  have B4 := C4.ext eN T4
  refine ⟨(by show 1 ≤ sizeLine; decide), fun t1 ht1 => ⟨_, rfl, tn <| row_odd upd_same (hO.1 _) hO.2 fun L4 s4 => ⟨M.E_BadMost.m, fun a ha => ?_⟩⟩⟩
  refine ⟨a, M.a_BadMost, none, _, _, _, rfl, .inl ⟨rfl, upd_same⟩, M.E_BadMost.e, fun u r => r, M.E_BadMost.i, ?_⟩
  have G4 := ((B4.same (same_new (o := .tup [.int 1]) ht1)).same s4).same (same_new (o := ErX (.ref M.a_BadMost) none a) ha)
  refine ⟨ck, _, _, rfl, rfl, G4.g 0 rfl, (by rw [List.length_replicate]; decide), ?_⟩
  have C5 := G4.put (ys := List.replicate 6 (.bl true))
  clear C4 B4 G4 ha eN T4 s4 ht1
  -- call 5
  refine ⟨_, rfl, .inl ⟨rfl, _, SqL.of (C5.g 0 rfl)⟩, C5.tb, fun J5 eN T5 => ?_⟩
  have B5 := C5.ext eN T5
  refine ⟨(by show 1 ≤ sizeLine; decide), fun t1 ht1 => ⟨_, rfl, tn <| gaps_odd upd_same (hO.1 _) hO.2 fun L5 s5 => ⟨M.E_BadMost.m, fun a ha => ?_⟩⟩⟩
  refine ⟨a, M.a_BadMost, none, _, _, _, rfl, .inl ⟨rfl, upd_same⟩, M.E_BadMost.e, fun u r => r, M.E_BadMost.i, ?_⟩
  have G5 := ((B5.same (same_new (o := .tup [.int 1]) ht1)).same s5).same (same_new (o := ErX (.ref M.a_BadMost) none a) ha)
  refine ⟨ck, _, _, rfl, rfl, G5.g 0 rfl, (by rw [List.length_replicate]; decide), ?_⟩
  have C6 := G5.put (ys := List.replicate 7 (.bl true))
  clear C5 B5 G5 ha eN T5 s5 ht1
  -- return
  refine ⟨_, rfl, ck, _, rfl, .inl (SqL.of (C6.g 0 rfl)), rfl, rfl, ?_⟩
  exact q _
end
end K63

set_option Elab.async false
set_option linter.all false
set_option maxRecDepth 100000
set_option maxHeartbeats 0
set_option pp.maxSteps 3000
namespace K63
open PySem PySem.Spec PyProof.Rows L2 Dr Xv LamX Ps Gn Fm
section
variable {P : Program} {w : World} {K : PySem.W.Frag} {mg : Str → Option Value} {base : Heap} {c Pt : Addr}
/-- the script as one of the law's objects (none where it is the module's) -/
theorem scr_own {H : Hp} {a d l cc : Addr} {xs : List V} (h : SqL K H a xs) (hd : H d = none) (hl : H l = none) (hc : H cc = none) : ∃ os : List (Addr × HO), os.length ≤ 1 ∧
    (∀ x ∈ os, H x.1 = some x.2 ∧ x.1 ≠ d ∧ x.1 ≠ l ∧ x.1 ≠ cc ∧ ∀ ps, x.2 ≠ .tbl ps) ∧ ∀ H', (∀ x ∈ os, H' x.1 = some x.2) → SqL K H' a xs := by
  have mk : ∀ o, H a = some o → (∀ ps, o ≠ .tbl ps) → (∀ H' : Hp, H' a = some o → SqL K H' a xs) → ∃ os : List (Addr × HO), os.length ≤ 1 ∧ (∀ x ∈ os, H x.1 = some x.2 ∧ x.1 ≠ d ∧ x.1 ≠ l ∧ x.1 ≠ cc ∧ ∀ ps, x.2 ≠ .tbl ps) ∧ ∀ H', (∀ x ∈ os, H' x.1 = some x.2) → SqL K H' a xs := fun o e nt k =>
    ⟨[(a, o)], Nat.le_refl _, fun x hx => by
      rw [List.mem_singleton.mp hx]
      exact ⟨e, ne_of_none e hd, ne_of_none e hl, ne_of_none e hc, nt⟩, fun H' h' => k H' (h' _ (List.mem_singleton.mpr rfl))⟩
  rcases h with (e | ⟨o, e⟩) | e
  · exact mk _ e (fun _ z => nomatch z) fun H' e' => .inl (.inl e')
  · exact mk _ e (fun _ z => nomatch z) fun H' e' => .inl (.inr ⟨o, e'⟩)
  · exact ⟨[], Nat.zero_le _, (fun x hx => absurd hx List.not_mem_nil), fun H' _ => Or.inr e⟩
def sp_law (K : PySem.W.Frag) (Pt : Addr) : Sp := fun vs H Q _ => ∃ (a : Addr) (ns : List Int), vs = [.ref a] ∧ SqL K H a (ns.map V.int) ∧ ns.length ≤ 1000 ∧ H Pt = some (.tbl #[]) ∧ ∀ H', Q (.bl true) H'
theorem ok_law (M : Mod P w K mg base) (hc : M.d_law.code = .ref c) (TB : TabB base mg c Pt) : FnG P w K mg base 11 M.f_law M.d_law ["script"] (sp_law K Pt) := by
  refine fnG_code M.F_law hc sc_law (fun vs H Q E h => ?_) fun A outer s H vs Q E hg hr h => ?_
  · obtain ⟨a, ns, rfl, _⟩ := h
    rfl
  · obtain ⟨a, ns, rfl, hS, hlen, hT, q⟩ := h
    have hr' : Room 10 (XL P w K mg base M.f_law c A outer s H E).A := hr
    have hg' : (XL P w K mg base M.f_law c A outer s H E).A.guards = some [] := hg
    obtain ⟨tL, hL, rL⟩ := lap_ok (f := M.f_law) (c := c) (A := A) (outer := outer) (s := s) (H := H) (E := E) (Pt := Pt) M TB hg' hr'
    obtain ⟨tT, hTl, rT⟩ := tail_ok (f := M.f_law) (c := c) (A := A) (outer := outer) (s := s) (H := H) (E := E) M TB hr'
    refine ⟨_, PSs.nox (pss_cons (ps_set (i := 1) sc_law.nd rfl (Or.inl rfl) (pe_call (ok__law_begun M) (hr.mono (by decide)) rfl M.g__law_begun M.k__law_begun M.b__law_begun .nil pass0 (pa_cons (pv 0) pa_nil)))
      (pss_cons (ps_for PassesOwn.never rfl (pi_range1 (by rfl) M.range0 (pa_cons (pe_op op_add pe_int (pe_callB (call_min2 rfl) (by rfl) M.min0 (by decide +kernel) (pa_cons (pe_callB call_len (by rfl) M.len0 PySem.boot_len (pa_cons (pv 0) pa_nil)) (pa_cons pe_int pa_nil)))) pa_nil)) (pg_name (i := 2) sc_law.nd rfl (Or.inl rfl)) hL)
      hTl)), ?_⟩
    refine ⟨_, rfl, a, ns, rfl, hS, hlen, fun d l cc H1 hd hl hcc s1 D1 => ?_⟩
    have W0 : Wd Pt H1 d l cc := ⟨D1, fun p hp => by
      rw [List.mem_singleton.mp hp]
      exact TabS.nil (s1 _ _ hT)⟩
    obtain ⟨os, o1, o2, o3⟩ := scr_own hS hd hl hcc
    have W1 : Sta Pt H1 d l cc os := ⟨W0, fun x hx => ⟨s1 _ _ (o2 x hx).1, (o2 x hx).2⟩, by
      cases os with
      | nil => exact List.Pairwise.nil
      | cons x r =>
        cases r with
        | nil => exact List.pairwise_singleton _ _
        | cons y r =>
          simp at o1⟩
    have hb : ∀ n : Nat, 0 ≤ (if (3 : Int) < (n : Int) then (3 : Int) else (n : Int)) ∧ (if (3 : Int) < (n : Int) then (3 : Int) else (n : Int)) ≤ 3 := fun n => by
      by_cases h4 : (3 : Int) < (n : Int)
      · rw [if_pos h4]
        exact ⟨by decide, by decide⟩
      · rw [if_neg h4]
        omega
    obtain ⟨hb1, hb2⟩ := hb (ns.map V.int).length
    refine ⟨_, rfl, _, _, rfl, .inl ⟨_, s1.seq hS, rfl⟩, _, _, rfl, _, _, rfl, rfl, _, rfl, ?_, ?_, ?_⟩
    · show -(2 ^ 62) ≤ 2 + _
      omega
    · show 2 + _ < 2 ^ 62
      omega
    refine for_range (lo := 0) (n := _) (fun i σ H' => Slots a d σ ∧ Sta Pt H' d l cc os) ⟨⟨_, _, _, _, _, _, _, _, _, _, _, _, _, _, _, rfl⟩, W1⟩ ?_ ?_
    · rintro i σ H2 hi ⟨⟨x2, x3, x4, x5, x6, x7, x8, x9, x10, x11, x12, x13, x14, x15, x16, rfl⟩, W2⟩
      exact rL _ _ _ os a d l cc (0 + (i : Int)) ⟨_, _, _, _, _, _, _, _, _, _, _, _, _, _, rfl⟩ W2 (fun σ' H' hs W' => ⟨hs, W'⟩) (fun σ' H' hs W' => ⟨hs, W'⟩)
    · rintro σ H2 ⟨hs, W2⟩
      exact rT _ _ _ os a d l cc hs W2 fun H' => q H'
end
end K63

set_option Elab.async false
set_option linter.all false
set_option maxRecDepth 100000
set_option maxHeartbeats 0
namespace K63
open PySem PySem.Spec PyProof.Rows L2 Dr Xv LamX Ps Gn Fm
def dd (x : Str) (st : Stmt) : He.DefD := ⟨(x, none), x, x, defArgs st, defBody st, defScope st, [], []⟩
def fn : List He.DefD := [dd "law" s_law, dd "lcm_of" s_lcm_of, dd "is_number" s_is_number, dd "is_within" s_is_within, dd "are_numbers" s_are_numbers, dd "is_number_tuple" s_is_number_tuple, dd "check_most" s_check_most, dd "product_of_quotients" s_product_of_quotients, dd "is_form" s_is_form, dd "check_form" s_check_form, dd "form_row" s_form_row, dd "_with_square" s__with_square, dd "form_term" s_form_term, dd "has_level" s_has_level, dd "least_missed" s_least_missed, dd "gaps_of" s_gaps_of, dd "_law_begun" s__law_begun, dd "_law_blend" s__law_blend, dd "_law_take" s__law_take, dd "_law_pick" s__law_pick, dd "_law_caught" s__law_caught, dd "_law_common" s__law_common, dd "_law_sigmas" s__law_sigmas, dd "_law_row" s__law_row, dd "_law_multiple" s__law_multiple, dd "_law_level" s__law_level, dd "_law_ascending" s__law_ascending, dd "_law_form" s__law_form, dd "_law_ways" s__law_ways, dd "_law_theta" s__law_theta, ⟨("TooMany", some "__init__"), "__init__", "TooMany.__init__", defArgs s_init_TooMany, defBody s_init_TooMany, defScope s_init_TooMany, [], []⟩]
def fa : List He.Fa := [.glo "law", .glo "lcm_of", .glo "is_number", .glo "is_within", .glo "are_numbers", .glo "is_number_tuple", .glo "check_most", .glo "product_of_quotients", .glo "is_form", .glo "check_form", .glo "form_row", .glo "_with_square", .glo "form_term", .glo "has_level", .glo "least_missed", .glo "gaps_of", .glo "_law_begun", .glo "_law_blend", .glo "_law_take", .glo "_law_pick", .glo "_law_caught", .glo "_law_common", .glo "_law_sigmas", .glo "_law_row", .glo "_law_multiple", .glo "_law_level", .glo "_law_ascending", .glo "_law_form", .glo "_law_ways", .glo "_law_theta", .glo "SeriesError", .glo "BadForm", .glo "BadMost", .glo "TooMany", .int "GREATEST_LEVEL" 360, .int "GREATEST_MOST" 3000, .int "MOST_NUMBERS" 12, .int "GREATEST_NUMBER_IN_FORM" 90, .int "LAST_THAT_TELLS" 15, .free "abs", .free "all", .free "bool", .free "dict", .free "enumerate", .free "int", .free "isinstance", .free "len", .free "list", .free "max", .free "min", .free "range", .free "repr", .free "sorted", .free "sum", .free "tuple", .free "zip"]
abbrev R : PySem.W.OpenRow := PySem.W.OpenLaw.row PySem.Challenge.rw_etasure_k63_forms_and_their_ways
abbrev ga (K : PySem.W.Frag) (x : Str) : Addr := He.ga K x
def up (K : PySem.W.Frag) (x : Str) : List Value := .ref (ga K x) :: .ref (ga K "SeriesError") :: veT
def upS (K : PySem.W.Frag) : List Value := .ref (ga K "SeriesError") :: veT
def ext (K : PySem.W.Frag) : Bool := clsB K (ga K "SeriesError") (upS K) && (clsB K (ga K "BadForm") (up K "BadForm") && (clsB K (ga K "BadMost") (up K "BadMost") && (PySem.W.excIn K (ga K "BadForm") veT "ValueError.__new__" && (PySem.W.excIn K (ga K "BadMost") veT "ValueError.__new__" && (He.eqO (PySem.W.specialIn K (.builtin "object.__class__") "__get__") (some (some (.builtin "getset_descriptor.__get__"))) && (eqB (PySem.W.takesIn K (.builtin "object.__class__")) (some true) && (clsB K (ga K "TooMany") (up K "TooMany") && (oexB K (ga K "TooMany") && (He.eqO (PySem.W.findIn K (.ref (ga K "TooMany")) "__setattr__") (some (some (.builtin "object.__setattr__"))) && (He.eqO (PySem.W.findIn K (.ref (ga K "TooMany")) "__init__") (some (some (.ref (He.ma K (ga K "TooMany") "__init__")))) && (eqV2 (PySem.W.typeIn K (.ref (He.ma K (ga K "TooMany") "__init__"))) (some (.type "function")) && (He.eqO (PySem.W.findIn K (.ref (ga K "TooMany")) "most") (some none) && (PySem.W.readsIn K (ga K "SeriesError") (.type "type") && (He.eqO (PySem.W.specialIn K (.ref (ga K "SeriesError")) "__getattribute__") (some (some (.builtin "type.__getattribute__"))) && (cfB (PySem.W.findCls K (.ref (ga K "SeriesError")) (.type "type") "__init__") && (He.eqO (PySem.W.nsIn K mainGlobals "isqrt") (some (some (.builtin "math.isqrt"))) && (He.eqO (PySem.W.nsIn K mainGlobals "lcm") (some (some (.builtin "math.lcm"))))))))))))))))))))
def ob (s : PySem.W.SharedT) : AlE := obsE fa fn ext 4 (HandSHeadRun.getT s)
theorem ob_eq (s : PySem.W.SharedT) : ob s = (hookE fa fn ext 4).obs s.abs := by
  have e : HandSHeadRun.getT s = s.abs.heap.get? := funext (HandSHeadRun.getT_eq s)
  show obsE fa fn ext 4 (HandSHeadRun.getT s) = obsE fa fn ext 4 s.abs.heap.get?
  rw [e]
def loose : List PySem.Str := (List.map Str.ofString ["lcm_of", "SeriesError", "BadForm", "BadMost", "TooMany", "GREATEST_LEVEL", "GREATEST_MOST", "is_number", "is_within", "are_numbers", "is_number_tuple", "check_most", "product_of_quotients", "MOST_NUMBERS", "GREATEST_NUMBER_IN_FORM", "LAST_THAT_TELLS", "is_form", "check_form", "form_row", "_with_square", "form_term", "has_level", "least_missed", "gaps_of", "_law_begun", "_law_blend", "_law_take", "_law_pick", "_law_caught", "_law_common", "_law_sigmas", "_law_row", "_law_multiple", "_law_level", "_law_ascending", "_law_form", "_law_ways", "_law_theta"])
theorem errs_of {K : PySem.W.Frag} (e : ext K = true) : ErrT K (ga K "BadForm") (ga K "SeriesError") ∧ ErrT K (ga K "BadMost") (ga K "SeriesError") ∧ PySem.W.nsIn K mainGlobals "isqrt" = some (some (.builtin "math.isqrt")) ∧ PySem.W.nsIn K mainGlobals "lcm" = some (some (.builtin "math.lcm")) ∧ InitT K (ga K "TooMany") (ga K "SeriesError") (He.ma K (ga K "TooMany") "__init__") "most" := by
  unfold ext at e
  simp only [Bool.and_eq_true] at e
  obtain ⟨eS, e_BadForm, e_BadMost, x_BadForm, x_BadMost, e7, e8, c_TooMany, o_TooMany, s_TooMany, n_TooMany, t_TooMany, a_TooMany, rS, sS, vS, i_isqrt, i_lcm⟩ := e
  have cS := clsB_ok eS
  have ne : ∀ x, up K x ≠ [] := fun x z => by cases z
  have hasT : ∀ (x : Str) (v : Value), veT.contains v = true → (up K x).contains v = true := fun x v hv => by
    unfold up
    rw [List.contains_cons, List.contains_cons, hv, Bool.or_true, Bool.or_true]
  have e7' := He.eqO_ok e7
  have e8' : PySem.W.takesIn K (.builtin "object.__class__") = some true := of_decide_eq_true e8
  have xS := cS.excC (fun z => by cases z) (by unfold upS; rw [List.contains_cons, show veT.contains (.type "BaseException") = true from rfl, Bool.or_true]) (by unfold upS; rw [List.contains_cons, show veT.contains (.type "object") = true from rfl, Bool.or_true]) e7' e8'
  have subS : ∀ x, (up K x).contains (.ref (ga K "SeriesError")) = true := fun x => by
    unfold up
    rw [List.contains_cons, List.contains_cons]
    simp
  have mk : ∀ x, ClsOk K (ga K x) (up K x) → PySem.W.excIn K (ga K x) veT "ValueError.__new__" = true → ErrT K (ga K x) (ga K "SeriesError") := fun x cx hx =>
    have xx := cx.excC (ne x) (hasT x _ rfl) (hasT x _ rfl) e7' e8'
    { x := hx, k := cx.kp, b := xx.hs, t := cx.ty, m := PySem.W.exm_ref xS.hs xS.hd cS.ty (by rw [cx.sub (ne x), subS x]), e := xx, i := cx.kit (ne x) cx (by rw [decide_eq_true rfl]; rfl) }
  have mkI : ∀ x fI f, ClsOk K (ga K x) (up K x) → oexB K (ga K x) = true → He.eqO (PySem.W.findIn K (.ref (ga K x)) "__setattr__") (some (some (.builtin "object.__setattr__"))) = true → He.eqO (PySem.W.findIn K (.ref (ga K x)) "__init__") (some (some (.ref fI))) = true → eqV2 (PySem.W.typeIn K (.ref fI)) (some (.type "function")) = true → He.eqO (PySem.W.findIn K (.ref (ga K x)) f) (some none) = true → InitT K (ga K x) (ga K "SeriesError") fI f := fun x fI f cx o1 s1 n1 t1 a1 =>
    have xx := cx.excC (ne x) (hasT x _ rfl) (hasT x _ rfl) e7' e8'
    { ox := ⟨oexB_ok o1, He.eqO_ok s1, xx.hs, cx.ty, cx.kp⟩, iC := He.eqO_ok n1, tI := of_decide_eq_true t1, no := He.eqO_ok a1, m := PySem.W.exm_ref xS.hs xS.hd cS.ty (by rw [cx.sub (ne x), subS x]), e := xx, i := cx.kit (ne x) cx (by rw [decide_eq_true rfl]; rfl), x := ⟨xx.hg, xx.hk, xx.hs, xx.hd⟩, kS := cS.kp, rS := rS, sS := He.eqO_ok sS, vS := cfB_ok vS }
  exact ⟨mk _ (clsB_ok e_BadForm) x_BadForm, mk _ (clsB_ok e_BadMost) x_BadMost, He.eqO_ok i_isqrt, He.eqO_ok i_lcm, mkI _ _ _ (clsB_ok c_TooMany) o_TooMany s_TooMany n_TooMany t_TooMany a_TooMany⟩
theorem run (w : World) : HandSHeadRun.RunEqI R (PySem.W.view R.prog [0, 45]) (hookE fa fn ext 4) ob 40000 loose w := by
  unfold HandSHeadRun.RunEqI
  kernel_rfl
theorem mod_of {P : Program} {w : World} {K : PySem.W.Frag} {h : Heap} {mg : Str → Option Value} {f : Addr} (X : K.In h) (G : h.Ns mainGlobals mg) (hfa : mg ("law" : Str) = some (.ref f)) (c : He.SaysD fa fn K) (ex : ext K = true) :
    ∃ fd, FnP K "law" s_law f fd ∧ ∀ base : Heap, ∃ M : Mod P w K mg base, M.f_law = f ∧ M.d_law = fd := by
  obtain ⟨fd0, F0⟩ := c.def_ 0 (d := dd "law" s_law) rfl
  obtain ⟨fd1, F1⟩ := c.def_ 1 (d := dd "lcm_of" s_lcm_of) rfl
  obtain ⟨fd2, F2⟩ := c.def_ 2 (d := dd "is_number" s_is_number) rfl
  obtain ⟨fd3, F3⟩ := c.def_ 3 (d := dd "is_within" s_is_within) rfl
  obtain ⟨fd4, F4⟩ := c.def_ 4 (d := dd "are_numbers" s_are_numbers) rfl
  obtain ⟨fd5, F5⟩ := c.def_ 5 (d := dd "is_number_tuple" s_is_number_tuple) rfl
  obtain ⟨fd6, F6⟩ := c.def_ 6 (d := dd "check_most" s_check_most) rfl
  obtain ⟨fd7, F7⟩ := c.def_ 7 (d := dd "product_of_quotients" s_product_of_quotients) rfl
  obtain ⟨fd8, F8⟩ := c.def_ 8 (d := dd "is_form" s_is_form) rfl
  obtain ⟨fd9, F9⟩ := c.def_ 9 (d := dd "check_form" s_check_form) rfl
  obtain ⟨fd10, F10⟩ := c.def_ 10 (d := dd "form_row" s_form_row) rfl
  obtain ⟨fd11, F11⟩ := c.def_ 11 (d := dd "_with_square" s__with_square) rfl
  obtain ⟨fd12, F12⟩ := c.def_ 12 (d := dd "form_term" s_form_term) rfl
  obtain ⟨fd13, F13⟩ := c.def_ 13 (d := dd "has_level" s_has_level) rfl
  obtain ⟨fd14, F14⟩ := c.def_ 14 (d := dd "least_missed" s_least_missed) rfl
  obtain ⟨fd15, F15⟩ := c.def_ 15 (d := dd "gaps_of" s_gaps_of) rfl
  obtain ⟨fd16, F16⟩ := c.def_ 16 (d := dd "_law_begun" s__law_begun) rfl
  obtain ⟨fd17, F17⟩ := c.def_ 17 (d := dd "_law_blend" s__law_blend) rfl
  obtain ⟨fd18, F18⟩ := c.def_ 18 (d := dd "_law_take" s__law_take) rfl
  obtain ⟨fd19, F19⟩ := c.def_ 19 (d := dd "_law_pick" s__law_pick) rfl
  obtain ⟨fd20, F20⟩ := c.def_ 20 (d := dd "_law_caught" s__law_caught) rfl
  obtain ⟨fd21, F21⟩ := c.def_ 21 (d := dd "_law_common" s__law_common) rfl
  obtain ⟨fd22, F22⟩ := c.def_ 22 (d := dd "_law_sigmas" s__law_sigmas) rfl
  obtain ⟨fd23, F23⟩ := c.def_ 23 (d := dd "_law_row" s__law_row) rfl
  obtain ⟨fd24, F24⟩ := c.def_ 24 (d := dd "_law_multiple" s__law_multiple) rfl
  obtain ⟨fd25, F25⟩ := c.def_ 25 (d := dd "_law_level" s__law_level) rfl
  obtain ⟨fd26, F26⟩ := c.def_ 26 (d := dd "_law_ascending" s__law_ascending) rfl
  obtain ⟨fd27, F27⟩ := c.def_ 27 (d := dd "_law_form" s__law_form) rfl
  obtain ⟨fd28, F28⟩ := c.def_ 28 (d := dd "_law_ways" s__law_ways) rfl
  obtain ⟨fd29, F29⟩ := c.def_ 29 (d := dd "_law_theta" s__law_theta) rfl
  obtain ⟨fdi0, DI0⟩ := c.def_ 30 rfl
  obtain ⟨X_BadForm, X_BadMost, XI_isqrt, XI_lcm, XU_TooMany⟩ := errs_of ex
  obtain ⟨t_GREATEST_LEVEL, c_GREATEST_LEVEL⟩ := He.int_ok X G (c.fact 34 (f := .int "GREATEST_LEVEL" 360) rfl)
  obtain ⟨t_GREATEST_MOST, c_GREATEST_MOST⟩ := He.int_ok X G (c.fact 35 (f := .int "GREATEST_MOST" 3000) rfl)
  obtain ⟨t_MOST_NUMBERS, c_MOST_NUMBERS⟩ := He.int_ok X G (c.fact 36 (f := .int "MOST_NUMBERS" 12) rfl)
  obtain ⟨t_GREATEST_NUMBER_IN_FORM, c_GREATEST_NUMBER_IN_FORM⟩ := He.int_ok X G (c.fact 37 (f := .int "GREATEST_NUMBER_IN_FORM" 90) rfl)
  obtain ⟨t_LAST_THAT_TELLS, c_LAST_THAT_TELLS⟩ := He.int_ok X G (c.fact 38 (f := .int "LAST_THAT_TELLS" 15) rfl)
  have gl := hfa.symm.trans (He.glo_ok X G (c.fact 0 (f := .glo "law") rfl))
  cases gl
  have g0 := He.glo_ok X G (c.fact 0 (f := .glo "law") rfl)
  have g1 := He.glo_ok X G (c.fact 1 (f := .glo "lcm_of") rfl)
  have g2 := He.glo_ok X G (c.fact 2 (f := .glo "is_number") rfl)
  have g3 := He.glo_ok X G (c.fact 3 (f := .glo "is_within") rfl)
  have g4 := He.glo_ok X G (c.fact 4 (f := .glo "are_numbers") rfl)
  have g5 := He.glo_ok X G (c.fact 5 (f := .glo "is_number_tuple") rfl)
  have g6 := He.glo_ok X G (c.fact 6 (f := .glo "check_most") rfl)
  have g7 := He.glo_ok X G (c.fact 7 (f := .glo "product_of_quotients") rfl)
  have g8 := He.glo_ok X G (c.fact 8 (f := .glo "is_form") rfl)
  have g9 := He.glo_ok X G (c.fact 9 (f := .glo "check_form") rfl)
  have g10 := He.glo_ok X G (c.fact 10 (f := .glo "form_row") rfl)
  have g11 := He.glo_ok X G (c.fact 11 (f := .glo "_with_square") rfl)
  have g12 := He.glo_ok X G (c.fact 12 (f := .glo "form_term") rfl)
  have g13 := He.glo_ok X G (c.fact 13 (f := .glo "has_level") rfl)
  have g14 := He.glo_ok X G (c.fact 14 (f := .glo "least_missed") rfl)
  have g15 := He.glo_ok X G (c.fact 15 (f := .glo "gaps_of") rfl)
  have g16 := He.glo_ok X G (c.fact 16 (f := .glo "_law_begun") rfl)
  have g17 := He.glo_ok X G (c.fact 17 (f := .glo "_law_blend") rfl)
  have g18 := He.glo_ok X G (c.fact 18 (f := .glo "_law_take") rfl)
  have g19 := He.glo_ok X G (c.fact 19 (f := .glo "_law_pick") rfl)
  have g20 := He.glo_ok X G (c.fact 20 (f := .glo "_law_caught") rfl)
  have g21 := He.glo_ok X G (c.fact 21 (f := .glo "_law_common") rfl)
  have g22 := He.glo_ok X G (c.fact 22 (f := .glo "_law_sigmas") rfl)
  have g23 := He.glo_ok X G (c.fact 23 (f := .glo "_law_row") rfl)
  have g24 := He.glo_ok X G (c.fact 24 (f := .glo "_law_multiple") rfl)
  have g25 := He.glo_ok X G (c.fact 25 (f := .glo "_law_level") rfl)
  have g26 := He.glo_ok X G (c.fact 26 (f := .glo "_law_ascending") rfl)
  have g27 := He.glo_ok X G (c.fact 27 (f := .glo "_law_form") rfl)
  have g28 := He.glo_ok X G (c.fact 28 (f := .glo "_law_ways") rfl)
  have g29 := He.glo_ok X G (c.fact 29 (f := .glo "_law_theta") rfl)
  have gc0 := He.glo_ok X G (c.fact 30 (f := .glo "SeriesError") rfl)
  have gc1 := He.glo_ok X G (c.fact 31 (f := .glo "BadForm") rfl)
  have gc2 := He.glo_ok X G (c.fact 32 (f := .glo "BadMost") rfl)
  have gc3 := He.glo_ok X G (c.fact 33 (f := .glo "TooMany") rfl)
  have b_abs := He.free_ok X G (c.fact 39 (f := .free "abs") rfl)
  have b_all := He.free_ok X G (c.fact 40 (f := .free "all") rfl)
  have b_bool := He.free_ok X G (c.fact 41 (f := .free "bool") rfl)
  have b_dict := He.free_ok X G (c.fact 42 (f := .free "dict") rfl)
  have b_enumerate := He.free_ok X G (c.fact 43 (f := .free "enumerate") rfl)
  have b_int := He.free_ok X G (c.fact 44 (f := .free "int") rfl)
  have b_isinstance := He.free_ok X G (c.fact 45 (f := .free "isinstance") rfl)
  have b_len := He.free_ok X G (c.fact 46 (f := .free "len") rfl)
  have b_list := He.free_ok X G (c.fact 47 (f := .free "list") rfl)
  have b_max := He.free_ok X G (c.fact 48 (f := .free "max") rfl)
  have b_min := He.free_ok X G (c.fact 49 (f := .free "min") rfl)
  have b_range := He.free_ok X G (c.fact 50 (f := .free "range") rfl)
  have b_repr := He.free_ok X G (c.fact 51 (f := .free "repr") rfl)
  have b_sorted := He.free_ok X G (c.fact 52 (f := .free "sorted") rfl)
  have b_sum := He.free_ok X G (c.fact 53 (f := .free "sum") rfl)
  have b_tuple := He.free_ok X G (c.fact 54 (f := .free "tuple") rfl)
  have b_zip := He.free_ok X G (c.fact 55 (f := .free "zip") rfl)
  exact ⟨fd0, F0, fun base => ⟨{ f_law := _, d_law := fd0, F_law := F0, g_law := g0, f_lcm_of := _, d_lcm_of := fd1, F_lcm_of := F1, g_lcm_of := g1, f_is_number := _, d_is_number := fd2, F_is_number := F2, g_is_number := g2, f_is_within := _, d_is_within := fd3, F_is_within := F3, g_is_within := g3, f_are_numbers := _, d_are_numbers := fd4, F_are_numbers := F4, g_are_numbers := g4, f_is_number_tuple := _, d_is_number_tuple := fd5, F_is_number_tuple := F5, g_is_number_tuple := g5, f_check_most := _, d_check_most := fd6, F_check_most := F6, g_check_most := g6, f_product_of_quotients := _, d_product_of_quotients := fd7, F_product_of_quotients := F7, g_product_of_quotients := g7, f_is_form := _, d_is_form := fd8, F_is_form := F8, g_is_form := g8, f_check_form := _, d_check_form := fd9, F_check_form := F9, g_check_form := g9, f_form_row := _, d_form_row := fd10, F_form_row := F10, g_form_row := g10, f__with_square := _, d__with_square := fd11, F__with_square := F11, g__with_square := g11, f_form_term := _, d_form_term := fd12, F_form_term := F12, g_form_term := g12, f_has_level := _, d_has_level := fd13, F_has_level := F13, g_has_level := g13, f_least_missed := _, d_least_missed := fd14, F_least_missed := F14, g_least_missed := g14, f_gaps_of := _, d_gaps_of := fd15, F_gaps_of := F15, g_gaps_of := g15, f__law_begun := _, d__law_begun := fd16, F__law_begun := F16, g__law_begun := g16, f__law_blend := _, d__law_blend := fd17, F__law_blend := F17, g__law_blend := g17, f__law_take := _, d__law_take := fd18, F__law_take := F18, g__law_take := g18, f__law_pick := _, d__law_pick := fd19, F__law_pick := F19, g__law_pick := g19, f__law_caught := _, d__law_caught := fd20, F__law_caught := F20, g__law_caught := g20, f__law_common := _, d__law_common := fd21, F__law_common := F21, g__law_common := g21, f__law_sigmas := _, d__law_sigmas := fd22, F__law_sigmas := F22, g__law_sigmas := g22, f__law_row := _, d__law_row := fd23, F__law_row := F23, g__law_row := g23, f__law_multiple := _, d__law_multiple := fd24, F__law_multiple := F24, g__law_multiple := g24, f__law_level := _, d__law_level := fd25, F__law_level := F25, g__law_level := g25, f__law_ascending := _, d__law_ascending := fd26, F__law_ascending := F26, g__law_ascending := g26, f__law_form := _, d__law_form := fd27, F__law_form := F27, g__law_form := g27, f__law_ways := _, d__law_ways := fd28, F__law_ways := F28, g__law_ways := g28, f__law_theta := _, d__law_theta := fd29, F__law_theta := F29, g__law_theta := g29, a_SeriesError := _, g_SeriesError := gc0, a_BadForm := _, g_BadForm := gc1, a_BadMost := _, g_BadMost := gc2, a_TooMany := _, g_TooMany := gc3, E_BadForm := X_BadForm, E_BadMost := X_BadMost, fi_TooMany := _, di_TooMany := fdi0, D_TooMany := DI0, U_TooMany := XU_TooMany, i_isqrt := PySem.W.mg_of X G XI_isqrt, i_lcm := PySem.W.mg_of X G XI_lcm, t_GREATEST_LEVEL := t_GREATEST_LEVEL, c_GREATEST_LEVEL := c_GREATEST_LEVEL, t_GREATEST_MOST := t_GREATEST_MOST, c_GREATEST_MOST := c_GREATEST_MOST, t_MOST_NUMBERS := t_MOST_NUMBERS, c_MOST_NUMBERS := c_MOST_NUMBERS, t_GREATEST_NUMBER_IN_FORM := t_GREATEST_NUMBER_IN_FORM, c_GREATEST_NUMBER_IN_FORM := c_GREATEST_NUMBER_IN_FORM, t_LAST_THAT_TELLS := t_LAST_THAT_TELLS, c_LAST_THAT_TELLS := c_LAST_THAT_TELLS, abs0 := b_abs, all0 := b_all, bool0 := b_bool, dict0 := b_dict, enumerate0 := b_enumerate, int0 := b_int, isinstance0 := b_isinstance, len0 := b_len, list0 := b_list, max0 := b_max, min0 := b_min, range0 := b_range, repr0 := b_repr, sorted0 := b_sorted, sum0 := b_sum, tuple0 := b_tuple, zip0 := b_zip }, rfl, rfl⟩⟩
theorem facts {P : Program} {w : World} {K : PySem.W.Frag} {h : Heap} {mg : Str → Option Value} {f : Addr} (X : K.In h) (G : h.Ns mainGlobals mg) (hfa : mg ("law" : Str) = some (.ref f)) (c : He.SaysD fa fn K) (ex : ext K = true) :
    ∃ fd, (∀ (s : Shared) (v : Value), BindsTo s fd ⟨[v], []⟩ [("script", v)]) ∧ ∀ base : Heap, K.In base → base.Ns mainGlobals mg → TabB base mg (He.cT K lawD).1 (He.cT K lawD).2 → FnG P w K mg base 11 f fd ["script"] (sp_law K (He.cT K lawD).2) := by
  have gl := hfa.symm.trans (He.glo_ok X G (c.fact 0 (f := .glo "law") rfl))
  cases gl
  obtain ⟨fd, F, hM⟩ := mod_of (P := P) (w := w) X G hfa c ex
  have b := FunD.bindsA (ps := ["script"]) F fun _ _ _ _ _ _ us hl => match us, hl with | [_], _ => rfl
  refine ⟨fd, fun s v => b s [v] rfl, fun base hK hN TB => ?_⟩
  obtain ⟨M, e1, e2⟩ := hM base
  have hc : fd.code = .ref (He.cT K lawD).1 := by
    obtain ⟨oc, od, dV, kV, doc, pm, an, cdv, ct, osl, rfl, lk, hcd, _, _⟩ := F.ex
    obtain ⟨c0, rfl⟩ := He.codeIn_ref hcd
    have z := He.codeOf_eq (p := lawD) (c := c0) lk rfl
    show Value.ref c0 = Value.ref (He.codeOf K lawD)
    rw [z]
  have z := ok_law M (c := (He.cT K lawD).1) (Pt := (He.cT K lawD).2) (by rw [e2]; exact hc) TB
  rw [e1, e2] at z
  exact z
end K63
open PySem PySem.W PySem.Calls PyProof.Rows
theorem PySem.Challenge.cw_etasure_k63_forms_and_their_ways_holds : PySem.Challenge.rw_etasure_k63_forms_and_their_ways.Holds := by
  w_on; o_law
  refine HandSHeadRun.head_imp (r := OpenLaw.row PySem.Challenge.rw_etasure_k63_forms_and_their_ways) (q := view (OpenLaw.row PySem.Challenge.rw_etasure_k63_forms_and_their_ways).prog [0, 45]) (H := Xv.hookE K63.fa K63.fn K63.ext 4) (ob := K63.ob) (M := 40000) (loose := K63.loose) (d := HandSHeadRun.topDef (OpenLaw.row PySem.Challenge.rw_etasure_k63_forms_and_their_ways).prog 45) (kwd := []) K63.ob_eq
    K63.run (by kernel_rfl) (by kernel_rfl) (by kernel_rfl) (by rfl) (by first | assumption | decide +kernel) (by decide +kernel) ⟨rfl, rfl, rfl, rfl, rfl, by decide +kernel⟩ ?hw ?hc
  case hw => w_witness2
  case hc =>
    refine Xv.walkTG (l := PySem.Challenge.rw_etasure_k63_forms_and_their_ways) (n := 63) (k := 11) (x := "script") rfl (by decide) (by kernel_rfl) ⟨rfl, by decide, by decide⟩ ?F
    intro w mg fa h Y G hmg0
    obtain ⟨K, KX, c⟩ := Y
    have hmg : mg ("law" : PySem.Str) = some (.ref fa) := by
      have e : (HandSHeadRun.topDef (OpenLaw.row PySem.Challenge.rw_etasure_k63_forms_and_their_ways).prog 45).name = ("law" : PySem.Str) := by kernel_rfl
      rw [← e]
      exact hmg0
    obtain ⟨fd, hb, hF⟩ := K63.facts (P := (PySem.Challenge.rw_etasure_k63_forms_and_their_ways).prog) (w := w) KX G hmg c.d c.more
    exact ⟨K, fd, (He.cT K Xv.lawD).1, (He.cT K Xv.lawD).2, K63.sp_law K (He.cT K Xv.lawD).2, KX, c.empty, c.out, c.hd, hb, fun H a ns hl hT hS => ⟨a, ns, rfl, hS, by omega, hT, fun _ => rfl⟩, fun base hK hN hTB => hF base hK hN hTB⟩

