/- For every row of labels what is handed in stays as it was, and labels in their order stay so: LabelsOwn returns true, and its argument reads as before. No conditions. -/
import Derived.Test.YthklkhdcmoonkaaS
import Derived.Laws.Cover1
import Derived.Laws.World
namespace Go.Proofs.Ythklkhdcmoonkaa
open Go.ChangeShapes Go.WideShapes Go.ChangeAt Go.RowKit Go.Lib
open Go.ChangeMaps (open_string shut_string)

theorem wf_cnl (ls : List Lb) : WfL (cnl ls) := fun x hx => by have := cnl_small ls x hx; unfold maxLen; omega

set_option maxRecDepth 20000 in
set_option maxHeartbeats 4000000 in
theorem labelsOwn_walk (a : Option Addr) (len cap : Nat) (ls : List Lb) {w0 : World} (hI : IsL w0 a len cap ls) (wf : WfL ls) {w : World} (hw : w = w0) :
    Calls Try.prog 8 #[.slice a len cap] w fun r w' => r = .returned (.bool true) ∧ Below w.heap.size w w' := by
  subst hw
  obtain ⟨i0, hi, hz0, hz1, hz2⟩ := info_parts Try.info44
  have HI : Hid (IsL w a len cap ls ∧ WfL ls) := ⟨hI, wf⟩
  clear hI wf
  go_enter Try.func8, Try.ntmps8
  go_wp2_with fail
  refine (awake_any _).mono ?_
  rintro e w1 ⟨rfl, b1⟩
  have H1 : Hid (IsL w1 a len cap ls ∧ Below w.heap.size w w1) := ⟨HI.out.1.below b1, b1⟩
  clear b1
  go_wp2_with fail
  refine (few_any a len cap ls w1 H1.out.1 HI.out.2).mono ?_
  rintro e w' ⟨rfl, hw'⟩; rw [hw']; clear hw' w'
  obtain ⟨f1, hf1⟩ : ∃ f, Hid (f = few ls) := ⟨_, rfl⟩
  rw [← hf1.out]
  cases f1 with
  | false =>
    go_wp2_with fail
    go_ret
    exact ⟨rfl, H1.out.2⟩
  | true =>
    have g1 := few_len H1.out.1 hf1.out.symm
    clear hf1
    have HC : Hid (∀ W, Below w1.heap.size w1 W → Calls Try.prog 11 #[.slice a len cap] W (Cnd W ls)) := fun W h => canon_any a len cap ls W (H1.out.1.below h) HI.out.2
    go_wp2_with (at_builtin; refine wpList_append_any _ rfl (.tmp 19) (.tmp 20) 22 rfl w1.heap.size 44 i0 _ 2 32 Try.underlying22 hi hz0 hz1 hz2 rfl (by decide) _ 0 _ rfl (World.ownsRow_nil _ _ _ _) a len cap (cls ls) rfl (by rw [cls_len, H1.out.1.hl]) H1.out.1.none (rdL_news H1.out.1.rd) (cls_one _) (by unfold maxLen; omega) (by omega) (Nat.le_refl _) ?_; intro v2 w2 ho2 hg2)
    rw [Nat.zero_add, List.nil_append] at ho2
    have hb2 : Below w1.heap.size w1 w2 := (Below.refl _ _).grown hg2 (Nat.le_refl _) (fun k hk => by cases hk)
    obtain ⟨a2, c2, rfl, hI2⟩ := own_isL ho2
    have H2 : Hid (IsL w2 a len cap ls ∧ IsL w2 a2 len c2 ls ∧ Below w.heap.size w w2 ∧ Below w1.heap.size w1 w2) := ⟨H1.out.1.below hb2, hI2, H1.out.2.trans (hb2.mono H1.out.2.size), hb2⟩
    clear ho2 hg2 hb2 hI2
    refine Calls.mono (HC.out w2 H2.out.2.2.2) ?_
    rintro e w3 ⟨v3, rfl, hN3, hb3⟩
    have hb3w : Below w.heap.size w w3 := H2.out.2.2.1.trans (hb3.mono H2.out.2.2.1.size)
    by_cases hm : May ls
    · have HM : Hid (May ls) := hm
      clear hm
      rw [cne_may HM.out]
      rw [cnl_may HM.out] at hN3
      obtain ⟨a3, c3, rfl, hI3, hnew⟩ := hN3
      have hcl : (canon ls).length = len := by rw [canon_len HM.out.2.2.2]; exact H1.out.1.hl
      have h1l : 1 ≤ len := by rw [← H1.out.1.hl]; exact HM.out.1
      rw [hcl] at hI3 hnew ⊢
      obtain ⟨g, rfl, hg, hfz⟩ := hnew (by omega)
      have hg3 : g < w3.heap.size := by
        obtain ⟨g', o', e', hlt', _⟩ := hI3.rd.at (k := 0) (by omega)
        cases e'; exact hlt'
      have hst : (canon ls).Pairwise (fun x y => ltl x y = true) := (canon_ex HM.out.2.2.2).2
      obtain ⟨cs, hcs⟩ : ∃ cs, Hid (cs = canon ls) := ⟨_, rfl⟩
      rw [← hcs.out] at hI3 hst hcl
      have H3 : Hid (IsL w3 (some ⟨g, 0, none⟩) len c3 cs ∧ (∀ j, j < len * 2 → w3.frozen? ⟨g, j, none⟩ = false) ∧ IsL w3 a len cap ls ∧ IsL w3 a2 len c2 ls ∧ Below w2.heap.size w2 w3 ∧ cs.Pairwise (fun x y => ltl x y = true) ∧ cs.length = len ∧ Below w.heap.size w w3) := ⟨hI3, hfz, H2.out.1.below hb3, H2.out.2.1.below hb3, hb3, hst, hcl, hb3w⟩
      clear hI3 hnew hfz hb3 hst hcl hb3w HC
      go_wp2_with fail
      refine (same_any a a2 len cap c2 ls w3 (by omega) H3.out.2.2.1 H3.out.2.2.2.1).mono ?_
      rintro e w4 ⟨rfl, hb4⟩
      have H4 : Hid (IsL w4 (some ⟨g, 0, none⟩) len c3 cs ∧ (∀ j, j < len * 2 → w4.frozen? ⟨g, j, none⟩ = false) ∧ Below w2.heap.size w2 w4 ∧ Below w.heap.size w w4 ∧ w3.heap.size ≤ w4.heap.size) := ⟨H3.out.1.below hb4, fun j hj => (hb4.frozen (p := ⟨g, j, none⟩) hg3).trans (H3.out.2.1 j hj), H3.out.2.2.2.2.1.trans (hb4.mono H3.out.2.2.2.2.1.size), H3.out.2.2.2.2.2.2.2.trans (hb4.mono H3.out.2.2.2.2.2.2.2.size), hb4.size⟩
      clear hb4
      go_wp2_with fail
      refine (canon_any _ len c3 cs w4 H4.out.1 (by rw [hcs.out, ← cnl_may HM.out]; exact wf_cnl ls)).mono ?_
      rintro e w5 ⟨v5, rfl, hN5, hb5⟩
      have hmc : May cs := by rw [hcs.out]; exact HM.out.canon
      have hcc : canon cs = cs := by rw [hcs.out]; exact canon_canon HM.out
      rw [cne_may hmc]
      rw [cnl_may hmc, hcc] at hN5
      obtain ⟨a5, c5, rfl, hI5, _⟩ := hN5
      rw [H3.out.2.2.2.2.2.2.1] at hI5 ⊢
      have hs4 := H4.out.2.2.2.2
      have H5 : Hid (IsL w5 (some ⟨g, 0, none⟩) len c3 cs ∧ (∀ j, j < len * 2 → w5.frozen? ⟨g, j, none⟩ = false) ∧ IsL w5 a5 len c5 cs ∧ Below w2.heap.size w2 w5 ∧ Below w.heap.size w w5 ∧ w3.heap.size ≤ w5.heap.size) := ⟨H4.out.1.below hb5, fun j hj => (hb5.frozen (p := ⟨g, j, none⟩) (by show g < w4.heap.size; omega)).trans (H4.out.2.1 j hj), hI5, H4.out.2.2.1.trans (hb5.mono H4.out.2.2.1.size), H4.out.2.2.2.1.trans (hb5.mono H4.out.2.2.2.1.size), Nat.le_trans hs4 hb5.size⟩
      clear hI5 hb5 hmc hcc hs4
      go_wp2_with fail
      go_loopw [10] (fun i wr => ∃ k q : Nat, i = .int .i64 (k : Int) ∧ k ≤ len ∧ wr = w5.drewN q) (fun i _ => len - (intOf i).toNat)
      case atStart => exact ⟨0, 0, rfl, Nat.zero_le _, rfl⟩
      case round =>
        obtain ⟨k, q, rfl, hk, rfl⟩ := hrel
        by_cases hlt : k + 1 < len
        · have hlt' : (k : Int) + 1 < (len : Int) := by omega
          have hlt2 : (k : Int) < (len : Int) := by omega
          have hk0 : (0 : Int) ≤ (k : Int) := by omega
          have hk1 : (0 : Int) ≤ (k : Int) + 1 := by omega
          have hk2 : ((k : Int) + 1).toNat = k + 1 := by omega
          have hl := H3.out.2.2.2.2.2.2.1
          obtain ⟨_, _, e', _, p0, _⟩ := H5.out.1.rd.at (k := k) (by omega)
          cases e'
          obtain ⟨_, _, e', _, q0, _⟩ := H5.out.1.rd.at (k := k + 1) (by omega)
          cases e'
          have hst := List.pairwise_iff_getElem.1 H3.out.2.2.2.2.2.1 k (k + 1) (by omega) (by omega) (by omega)
          rw [← getD_eqL (show k < cs.length by omega), ← getD_eqL (show k + 1 < cs.length by omega)] at hst
          unfold ltl at hst
          rw [← bl_eq] at hst
          simp only [Nat.zero_add] at p0 q0
          clear hl
          generalize (cs.getD k l0).1 = M1 at *
          generalize (cs.getD (k + 1) l0).1 = M2 at *
          go_wp2
          go_quiet (fail)
          go_wp2
          go_roundw
          case rel => exact ⟨k + 1, _, by go_num, by omega, rfl⟩
          case measure => simp [intOf]; omega
        · have hlt' : ¬ (k : Int) + 1 < (len : Int) := by omega
          have HS : Hid (Calls Try.prog 13 #[.slice (some ⟨g, 0, none⟩) len c3, .slice a5 len c5] (w5.drewN q) fun e w' => e = .returned (.bool true) ∧ Below w5.heap.size w5 w') :=
            (same_any _ a5 len c3 c5 cs (w5.drewN q) (by omega) (H5.out.1.below (below_dr _ _)) (H5.out.2.2.1.below (below_dr _ _))).mono fun e w' ⟨h1, h2⟩ => ⟨h1, (below_dr w5 q).trans h2⟩
          go_wp2_with fail
          refine Calls.mono HS.out ?_
          rintro e w6 ⟨rfl, hb6⟩
          have hs5 := H5.out.2.2.2.2.2
          have H6 : Hid ((∀ j, j < len * 2 → w6.frozen? ⟨g, j, none⟩ = false) ∧ Below w2.heap.size w2 w6 ∧ Below w.heap.size w w6 ∧ IsL w6 (some ⟨g, 0, none⟩) len c3 cs) := ⟨fun j hj => (hb6.frozen (p := ⟨g, j, none⟩) (by show g < w5.heap.size; omega)).trans (H5.out.2.1 j hj), H5.out.2.2.2.1.trans (hb6.mono H5.out.2.2.2.1.size), H5.out.2.2.2.2.1.trans (hb6.mono H5.out.2.2.2.2.1.size), H5.out.1.below hb6⟩
          have hg6 : g < w6.heap.size := by have := hb6.size; omega
          have hws : w.heap.size ≤ w2.heap.size := H2.out.2.2.1.size
          clear hb6 HS hs5
          go_wp2_with fail
          go_loopw [11] (fun i wr => ∃ j : Nat, i = .int .i64 (j : Int) ∧ j ≤ len ∧ Hid (∀ t, t < len * 2 → (∃ s, wr.cell? ⟨g, t, none⟩ = some s) ∧ wr.frozen? ⟨g, t, none⟩ = false) ∧ g < wr.heap.size ∧ Below w2.heap.size w2 wr) (fun i _ => len - (intOf i).toNat)
          case atStart =>
            refine ⟨0, rfl, Nat.zero_le _, fun t ht => ⟨?_, H6.out.1 t ht⟩, hg6, H6.out.2.1⟩
            obtain ⟨_, _, e', _, p0, p1⟩ := H6.out.2.2.2.rd.at (k := t / 2) (by rw [H6.out.2.2.2.hl]; omega)
            cases e'
            simp only [Nat.zero_add] at p0 p1
            have h2 : t = t / 2 * 2 ∨ t = t / 2 * 2 + 1 := by omega
            rcases h2 with h | h
            · rw [h]; exact ⟨_, p0⟩
            · rw [h]; exact ⟨_, p1⟩
          case round =>
            obtain ⟨j, rfl, hj, HW, hgr, hbr⟩ := hrel
            by_cases hjl : j < len
            · have hjl' : (j : Int) < (len : Int) := by omega
              obtain ⟨⟨s, hs⟩, hfz⟩ := HW.out (j * 2 + 1) (by omega)
              go_wp2_with fail
              go_roundw
              case rel =>
                refine ⟨j + 1, by go_num, hjl, fun t ht => ?_, by simpa using hgr, hbr.setCell hg _⟩
                obtain ⟨⟨s', hs'⟩, hfz'⟩ := HW.out t ht
                exact ⟨cell?_setCell_some hs', by rw [World.frozen?_setCell]; exact hfz'⟩
              case measure => simp [intOf]; omega
            · have hjl' : ¬ (j : Int) < (len : Int) := by omega
              have HS : Hid (Calls Try.prog 13 #[.slice a len cap, .slice a2 len c2] wr fun e w' => e = .returned (.bool true) ∧ Below wr.heap.size wr w') := same_any a a2 len cap c2 ls wr (by omega) (H2.out.1.below hbr) (H2.out.2.1.below hbr)
              go_wp2_with fail
              refine Calls.mono HS.out ?_
              rintro e w8 ⟨rfl, hb8⟩
              go_wp2_with fail
              go_ret
              have hbw : Below w.heap.size w wr := H2.out.2.2.1.trans (hbr.mono hws)
              exact ⟨rfl, hbw.trans (hb8.mono hbw.size)⟩
    · rw [cne_not hm]
      rw [cnl_not hm] at hN3
      obtain ⟨a3, c3, rfl, _, _⟩ := hN3
      simp only [List.length_nil]
      have HS : Hid (Calls Try.prog 13 #[.slice a len cap, .slice a2 len c2] w3 fun e w' => e = .returned (.bool true) ∧ Below w3.heap.size w3 w') := same_any a a2 len cap c2 ls w3 (by omega) (H2.out.1.below hb3) (H2.out.2.1.below hb3)
      clear hm HC
      go_wp2_with fail
      refine Calls.mono HS.out ?_
      rintro e w4 ⟨rfl, hb4⟩
      go_wp2_with fail
      go_ret
      exact ⟨rfl, hb3w.trans (hb4.mono hb3w.size)⟩

set_option maxRecDepth 100000 in
theorem labelsOwn_lifted (os : Os) (started : os.Started) (H : Type) (enc : TypeId × Value → H) :
    ReturnsInHanded {} Try.checked os 8 .any (Rows.labelsOwnSpec.pre6 enc Try.prog Try.f8 Rows.labelsOwnRow.domain false) (Rows.labelsOwnSpec.post enc Try.prog Try.f8 false true false false) := by
  refine returnsInHanded_of_change (C := Try.checked) own started (by kernel_rfl) Try.func8
    (ChangeSpec.witness6 (enc := enc) (C := Try.checked) false ⟨#[], #[.slice none 0 0], []⟩ 8 (by kernel_rfl) (by kernel_rfl) (by kernel_rfl) (by kernel_rfl)) ?_
  intro W base args ds gs before hval0 hW hcnd _
  have hval : ∀ (j : Nat) t v, Try.f8.params[j]? = some t → args[j]? = some v → Value.okWide Try.prog W .any base t v := hval0
  have hW' := hW
  obtain ⟨p, q, hA0, hV, rfl, hfz, hnd⟩ := hW
  have hA : DataW.TrodAll enc Try.prog W 0 (fun _ => true) true Try.f8.params.toList args.toList ds p := hA0
  rw [Try.params8] at hA hval
  obtain ⟨v0, vs0, d0, ds0, p0, q0, hargs, rfl, rfl, h0, r0⟩ := trodAll_cons hA
  obtain ⟨rfl, rfl, rfl⟩ := trodAll_nil r0
  obtain rfl : args = #[v0] := by cases args; simp_all
  obtain ⟨rfl, rfl⟩ := trodVars_none hV
  obtain ⟨a0, len0, cap0, rfl⟩ := okWide_slice Try.underlying22 (hval 0 22 v0 rfl rfl)
  have k0 := h0
  have lt0 : ∀ x ∈ p0, x.block < W.heap.size := by obtain ⟨m, hm⟩ := k0; exact DataW.trod_lt m _ _ _ hm
  obtain ⟨vl0, w0, wf0⟩ : ∃ ls, IsL W a0 len0 cap0 ls ∧ WfL ls := by obtain ⟨fuel, hf⟩ := h0; exact isL_of hf
  clear hA0 hval0
  refine (labelsOwn_walk a0 len0 cap0 vl0 w0 wf0 rfl).mono fun e W' ⟨he, hb⟩ => ?_
  subst he
  exact ⟨_, rfl, _, _, _, [], _, [], hW', trodAll_mk1 (shut_bool Try.underlying4 _), (trodAll_cons_mk (Below.trod laidOut (by kernel_rfl) (of_decide_eq_true (by kernel_rfl)) k0 hb lt0) trodAll_mk0), rfl, hb.frame _, fun h => by cases h⟩

theorem labelsOwn_holds : Rows.LabelsOwnSaid :=
  OpenClaim.holds_of_wide 8 Try.f8 rfl rfl rfl rfl rfl rfl rfl ⟨rfl, rfl, rfl, rfl, rfl⟩ rfl rfl rfl rfl rfl (by kernel_rfl) Try.func8 (by kernel_rfl)
    (of_decide_eq_true (by kernel_rfl)) (by unfold Func.isWrapper; first | (rw [if_pos (by decide +kernel)]; kernel_rfl) | (rw [if_neg (by decide +kernel)]; exact ⟨rfl, rfl⟩))
    (fun os started H enc _ => labelsOwn_lifted os started H enc)
#print axioms labelsOwn_holds
end Go.Proofs.Ythklkhdcmoonkaa
