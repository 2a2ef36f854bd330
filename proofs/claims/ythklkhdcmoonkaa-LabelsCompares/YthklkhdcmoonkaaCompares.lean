/- For every two rows of labels which of them is ahead is the document's, and turned about it is the other one: LabelsCompares returns true, and its arguments read as before. No conditions. -/
import Derived.Test.YthklkhdcmoonkaaS
import Derived.Test.YthklkhdcmoonkaaQ
namespace Go.Proofs.Ythklkhdcmoonkaa
open Go.ChangeShapes Go.WideShapes Go.ChangeAt Go.RowKit Go.Lib
open Go.ChangeMaps (open_string shut_string)

set_option maxHeartbeats 4000000 in
theorem labelsCompares_walk (a1 : Option Addr) (n1 c1 : Nat) (l1 : List Lb) {w0 : World} (h1 : IsL w0 a1 n1 c1 l1) (wf1 : WfL l1) (a2 : Option Addr) (n2 c2 : Nat) (l2 : List Lb) (h2 : IsL w0 a2 n2 c2 l2) (wf2 : WfL l2) {w : World} (hw : w = w0) :
    Calls Try.prog 5 #[.slice a1 n1 c1, .slice a2 n2 c2] w fun r w' => r = .returned (.bool true) ∧ Below w.heap.size w w' := by
  subst hw
  have HI : Hid ((IsL w a1 n1 c1 l1 ∧ WfL l1) ∧ IsL w a2 n2 c2 l2 ∧ WfL l2) := ⟨⟨h1, wf1⟩, h2, wf2⟩
  clear h1 h2 wf1 wf2
  go_enter Try.func5, Try.ntmps5
  go_wp2_with fail
  refine (awake_any _).mono ?_
  rintro e w1 ⟨rfl, b1⟩
  have H1 : Hid ((IsL w1 a1 n1 c1 l1 ∧ WfL l1) ∧ (IsL w1 a2 n2 c2 l2 ∧ WfL l2) ∧ Below w.heap.size w w1) := ⟨⟨HI.out.1.1.below b1, HI.out.1.2⟩, ⟨HI.out.2.1.below b1, HI.out.2.2⟩, b1⟩
  clear b1
  go_wp2_with fail
  refine (few_any a1 n1 c1 l1 w1 H1.out.1.1 H1.out.1.2).mono ?_
  rintro e w' ⟨rfl, hw'⟩; rw [hw']; clear hw' w'
  obtain ⟨f1, hf1⟩ : ∃ f, Hid (f = few l1) := ⟨_, rfl⟩
  rw [← hf1.out]
  go_wp2_with fail
  refine (few_any a2 n2 c2 l2 w1 H1.out.2.1.1 H1.out.2.1.2).mono ?_
  rintro e w' ⟨rfl, hw'⟩; rw [hw']; clear hw' w'
  obtain ⟨f2, hf2⟩ : ∃ f, Hid (f = few l2) := ⟨_, rfl⟩
  rw [← hf2.out]
  cases f1 with
  | false =>
    go_wp2_with fail
    go_ret
    exact ⟨rfl, H1.out.2.2⟩
  | true =>
    cases f2 with
    | false =>
      go_wp2_with fail
      go_ret
      exact ⟨rfl, H1.out.2.2⟩
    | true =>
      have g1 := few_len H1.out.1.1 hf1.out.symm
      have g2 := few_len H1.out.2.1.1 hf2.out.symm
      obtain ⟨r, hr⟩ : ∃ r, Hid (r = cml l1 l2) := ⟨_, rfl⟩
      have hrb : r = -1 ∨ r = 0 ∨ r = 1 := by rw [hr.out]; exact cml_cases _ _
      have HC1 : Hid (∀ W, Below w1.heap.size w1 W → Calls Try.prog 26 #[.slice a1 n1 c1, .slice a2 n2 c2] W fun e w' => e = .returned (.int .i64 r) ∧ Below W.heap.size W w') := fun W hW => by rw [hr.out]; exact compare_any a1 a2 n1 n2 c1 c2 l1 l2 W (by omega) (by omega) (H1.out.1.1.below hW) (H1.out.2.1.1.below hW)
      have HC2 : Hid (∀ W, Below w1.heap.size w1 W → Calls Try.prog 26 #[.slice a2 n2 c2, .slice a1 n1 c1] W fun e w' => e = .returned (.int .i64 (-r)) ∧ Below W.heap.size W w') := fun W hW => by rw [hr.out, ← cml_turn]; exact compare_any a2 a1 n2 n1 c2 c1 l2 l1 W (by omega) (by omega) (H1.out.2.1.1.below hW) (H1.out.1.1.below hW)
      have HC3 : Hid (∀ W, Below w1.heap.size w1 W → Calls Try.prog 27 #[.slice a1 n1 c1, .slice a2 n2 c2] W fun e w' => e = .returned (.int .i64 r) ∧ Below W.heap.size W w') := fun W hW => by rw [hr.out]; exact refcompare_any a1 a2 n1 n2 c1 c2 l1 l2 W (by omega) (by omega) (H1.out.1.1.below hW) (H1.out.2.1.1.below hW)
      clear hr hf1 hf2
      rcases hrb with rfl | rfl | rfl
      all_goals
        go_wp2_with fail
        refine Calls.mono (HC1.out _ (Below.refl _ _)) ?_
        rintro e w2 ⟨rfl, b2⟩
        go_wp2_with fail
        refine Calls.mono (HC3.out _ b2) ?_
        rintro e w3 ⟨rfl, b3⟩
        have B3 := b2.trans (b3.mono b2.size)
        go_wp2_with fail
        refine Calls.mono (HC2.out _ B3) ?_
        rintro e w4 ⟨rfl, b4⟩
        have B4 := B3.trans (b4.mono B3.size)
        go_wp2_with fail
        refine Calls.mono (HC1.out _ B4) ?_
        rintro e w5 ⟨rfl, b5⟩
        have B5 := B4.trans (b5.mono B4.size)
        go_wp2_with fail
        go_ret
        exact ⟨rfl, H1.out.2.2.trans (B5.mono H1.out.2.2.size)⟩

set_option maxRecDepth 100000 in
theorem labelsCompares_lifted (os : Os) (started : os.Started) (H : Type) (enc : TypeId × Value → H) :
    ReturnsInHanded {} Try.checked os 5 .any (Rows.labelsComparesSpec.pre6 enc Try.prog Try.f5 Rows.labelsComparesRow.domain false) (Rows.labelsComparesSpec.post enc Try.prog Try.f5 false true false false) := by
  refine returnsInHanded_of_change (C := Try.checked) own started (by kernel_rfl) Try.func5
    (ChangeSpec.witness6 (enc := enc) (C := Try.checked) false ⟨#[], #[.slice none 0 0, .slice none 0 0], []⟩ 8 (by kernel_rfl) (by kernel_rfl) (by kernel_rfl) (by kernel_rfl)) ?_
  intro W base args ds gs before hval0 hW hcnd _
  have hval : ∀ (j : Nat) t v, Try.f5.params[j]? = some t → args[j]? = some v → Value.okWide Try.prog W .any base t v := hval0
  have hW' := hW
  obtain ⟨p, q, hA0, hV, rfl, hfz, hnd⟩ := hW
  have hA : DataW.TrodAll enc Try.prog W 0 (fun _ => true) true Try.f5.params.toList args.toList ds p := hA0
  rw [Try.params5] at hA hval
  obtain ⟨v0, vs0, d0, ds0, p0, q0, hargs, rfl, rfl, h0, r0⟩ := trodAll_cons hA
  obtain ⟨v1, vs1, d1, ds1, p1, q1, rfl, rfl, rfl, h1, r1⟩ := trodAll_cons r0
  obtain ⟨rfl, rfl, rfl⟩ := trodAll_nil r1
  obtain rfl : args = #[v0, v1] := by cases args; simp_all
  obtain ⟨rfl, rfl⟩ := trodVars_none hV
  obtain ⟨a0, len0, cap0, rfl⟩ := okWide_slice Try.underlying22 (hval 0 22 v0 rfl rfl)
  have k0 := h0
  have lt0 : ∀ x ∈ p0, x.block < W.heap.size := by obtain ⟨m, hm⟩ := k0; exact DataW.trod_lt m _ _ _ hm
  obtain ⟨vl0, w0, wf0⟩ : ∃ ls, IsL W a0 len0 cap0 ls ∧ WfL ls := by obtain ⟨fuel, hf⟩ := h0; exact isL_of hf
  obtain ⟨a1, len1, cap1, rfl⟩ := okWide_slice Try.underlying22 (hval 1 22 v1 rfl rfl)
  have k1 := h1
  have lt1 : ∀ x ∈ p1, x.block < W.heap.size := by obtain ⟨m, hm⟩ := k1; exact DataW.trod_lt m _ _ _ hm
  obtain ⟨vl1, w1, wf1⟩ : ∃ ls, IsL W a1 len1 cap1 ls ∧ WfL ls := by obtain ⟨fuel, hf⟩ := h1; exact isL_of hf
  clear hA0 hval0
  refine (labelsCompares_walk a0 len0 cap0 vl0 w0 wf0 a1 len1 cap1 vl1 w1 wf1 rfl).mono fun e W' ⟨he, hb⟩ => ?_
  subst he
  exact ⟨_, rfl, _, _, _, [], _, [], hW', trodAll_mk1 (shut_bool Try.underlying4 _), (trodAll_cons_mk (Below.trod laidOut (by kernel_rfl) (of_decide_eq_true (by kernel_rfl)) k0 hb lt0) (trodAll_cons_mk (Below.trod laidOut (by kernel_rfl) (of_decide_eq_true (by kernel_rfl)) k1 hb lt1) trodAll_mk0)), rfl, hb.frame _, fun h => by cases h⟩

theorem labelsCompares_holds : Rows.LabelsComparesSaid :=
  OpenClaim.holds_of_wide 5 Try.f5 rfl rfl rfl rfl rfl rfl rfl ⟨rfl, rfl, rfl, rfl, rfl⟩ rfl rfl rfl rfl rfl (by kernel_rfl) Try.func5 (by kernel_rfl)
    (of_decide_eq_true (by kernel_rfl)) (by unfold Func.isWrapper; first | (rw [if_pos (by decide +kernel)]; kernel_rfl) | (rw [if_neg (by decide +kernel)]; exact ⟨rfl, rfl⟩))
    (fun os started H enc _ => labelsCompares_lifted os started H enc)
#print axioms labelsCompares_holds
end Go.Proofs.Ythklkhdcmoonkaa
