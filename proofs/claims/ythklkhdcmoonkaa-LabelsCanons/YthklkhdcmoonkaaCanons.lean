/- For every row of labels and every name: whether they may be, their order, and what one of them is, are the document's: LabelsCanons returns true, and its arguments read as before. No conditions. -/
import Derived.Test.YthklkhdcmoonkaaS
import Derived.Test.YthklkhdcmoonkaaV
namespace Go.Proofs.Ythklkhdcmoonkaa
open Go.ChangeShapes Go.WideShapes Go.ChangeAt Go.RowKit Go.Lib
open Go.ChangeMaps (open_string shut_string)

set_option maxRecDepth 20000 in
set_option maxHeartbeats 8000000 in
theorem labelsCanons_walk (a : Option Addr) (len cap : Nat) (ls : List Lb) {w0 : World} (hI : IsL w0 a len cap ls) (wf : WfL ls) (s : ByteArray) (hs : s.size ≤ maxLen) {w : World} (hw : w = w0) :
    Calls Try.prog 3 #[.slice a len cap, .string s] w fun r w' => r = .returned (.bool true) ∧ Below w.heap.size w w' := by
  subst hw
  have HS : Hid (s.size ≤ maxLen) := hs
  unfold maxLen at hs
  have HI : Hid (IsL w a len cap ls ∧ WfL ls) := ⟨hI, wf⟩
  clear hI wf
  go_enter Try.func3, Try.ntmps3
  go_wp2_with fail
  refine (awake_any _).mono ?_
  rintro e w1 ⟨rfl, b1⟩
  have H1 : Hid (IsL w1 a len cap ls ∧ Below w.heap.size w w1) := ⟨HI.out.1.below b1, b1⟩
  clear b1
  go_wp2_with fail
  refine (few_any a len cap ls w1 H1.out.1 HI.out.2).mono ?_
  rintro e w' ⟨rfl, hw'⟩; rw [hw']; clear hw' w'
  obtain ⟨f1, hf1⟩ : ∃ f, Hid (f = few ls) := ⟨_, rfl⟩
  rw [← hf1.out]
  cases f1 with
  | false =>
    go_wp2_with fail
    go_ret
    exact ⟨rfl, H1.out.2⟩
  | true =>
    have g1 := few_len H1.out.1 hf1.out.symm
    clear hf1
    by_cases hs5 : 50 < s.size
    · have hs5' : (50 : Int) < (s.size : Int) := by omega
      go_wp2_with fail
      go_ret
      exact ⟨rfl, H1.out.2⟩
    have hs5' : ¬ (50 : Int) < (s.size : Int) := by omega
    go_wp2_with fail
    refine (canon_any a len cap ls w1 H1.out.1 HI.out.2).mono ?_
    rintro e w2 ⟨v2, rfl, hN2, hb2⟩
    obtain ⟨er, her⟩ : ∃ x, Hid (x = cne ls) := ⟨_, rfl⟩
    rw [← her.out]
    obtain ⟨a2, c2, rfl, hI2, _⟩ := hN2
    obtain ⟨n, hn⟩ : ∃ n, n = (cnl ls).length := ⟨_, rfl⟩
    have hn6 : n ≤ 6 := by rw [hn]; exact cnl_len ls
    rw [← hn] at hI2 ⊢
    have HN : Hid (n = (cnl ls).length) := hn
    have H2 : Hid (IsL w2 a2 n c2 (cnl ls) ∧ IsL w2 a len cap ls ∧ Below w1.heap.size w1 w2) := ⟨hI2, H1.out.1.below hb2, hb2⟩
    clear hI2 hb2 hn
    go_wp2_with fail
    refine (refcanon_any a len cap ls w2 H2.out.2.1 HI.out.2).mono ?_
    rintro e w3 ⟨v3, rfl, hN3, hb3⟩
    rw [← her.out]
    obtain ⟨a3, c3, rfl, hI3, _⟩ := hN3
    rw [← HN.out] at hI3 ⊢
    have H3 : Hid (IsL w3 a2 n c2 (cnl ls) ∧ IsL w3 a3 n c3 (cnl ls) ∧ IsL w3 a len cap ls ∧ Below w1.heap.size w1 w3) := ⟨H2.out.1.below hb3, hI3, H2.out.2.1.below hb3, H2.out.2.2.trans (hb3.mono H2.out.2.2.size)⟩
    clear hI3 hb3
    go_wp2_with fail
    refine (same_any a2 a3 n c2 c3 (cnl ls) w3 (by omega) H3.out.1 H3.out.2.1).mono ?_
    rintro e w4 ⟨rfl, hb4⟩
    have H4 : Hid (IsL w4 a len cap ls ∧ Below w1.heap.size w1 w4) := ⟨H3.out.2.2.1.below hb4, H3.out.2.2.2.trans (hb4.mono H3.out.2.2.2.size)⟩
    clear hb4
    obtain ⟨gt, hgt⟩ : ∃ x, Hid (x = get ls s) := ⟨_, rfl⟩
    have HG1 : Hid (Calls Try.prog 14 #[.slice a len cap, .string s] w4 fun e w' => e = .returned (.string gt) ∧ Below w4.heap.size w4 w') := by rw [hgt.out]; exact get_any a len cap ls s w4 H4.out.1
    go_wp2_with fail
    refine Calls.mono HG1.out ?_
    rintro e w5 ⟨rfl, hb5⟩
    have H5 : Hid (IsL w5 a len cap ls ∧ Below w1.heap.size w1 w5) := ⟨H4.out.1.below hb5, H4.out.2.trans (hb5.mono H4.out.2.size)⟩
    clear hb5 HG1
    have HG2 : Hid (Calls Try.prog 15 #[.slice a len cap, .string s] w5 fun e w' => e = .returned (.string gt) ∧ Below w5.heap.size w5 w') := by rw [hgt.out]; exact refget_any a len cap ls s w5 H5.out.1
    go_wp2_with fail
    refine Calls.mono HG2.out ?_
    rintro e w6 ⟨rfl, hb6⟩
    have H6 : Hid (Below w1.heap.size w1 w6) := H5.out.2.trans (hb6.mono H5.out.2.size)
    clear hb6 HG2
    obtain ⟨nn, hnn⟩ : ∃ x, Hid (x = nm s) := ⟨_, rfl⟩
    have HM1 : Hid (∀ W, Calls Try.prog 16 #[.string s] W fun e w' => e = .returned (.bool nn) ∧ w' = W) := fun W => by rw [hnn.out]; exact name_any s W HS.out
    have HM2 : Hid (∀ W, Calls Try.prog 17 #[.string s] W fun e w' => e = .returned (.bool nn) ∧ w' = W) := fun W => by rw [hnn.out]; exact refname_any s W HS.out
    clear hnn
    cases nn
    all_goals
      go_wp2_with fail
      refine Calls.mono (HM1.out _) ?_
      rintro e w' ⟨rfl, hw'⟩; rw [hw']; clear hw' w'
      go_wp2_with fail
      refine Calls.mono (HM2.out _) ?_
      rintro e w' ⟨rfl, hw'⟩; rw [hw']; clear hw' w'
      go_wp2_with fail
      go_ret
      exact ⟨rfl, H1.out.2.trans (H6.out.mono H1.out.2.size)⟩

set_option maxRecDepth 100000 in
theorem labelsCanons_lifted (os : Os) (started : os.Started) (H : Type) (enc : TypeId × Value → H) :
    ReturnsInHanded {} Try.checked os 3 .any (Rows.labelsCanonsSpec.pre6 enc Try.prog Try.f3 Rows.labelsCanonsRow.domain false) (Rows.labelsCanonsSpec.post enc Try.prog Try.f3 false true false false) := by
  refine returnsInHanded_of_change (C := Try.checked) own started (by kernel_rfl) Try.func3
    (ChangeSpec.witness6 (enc := enc) (C := Try.checked) false ⟨#[], #[.slice none 0 0, .string ⟨#[]⟩], []⟩ 8 (by kernel_rfl) (by kernel_rfl) (by kernel_rfl) (by kernel_rfl)) ?_
  intro W base args ds gs before hval0 hW hcnd _
  have hval : ∀ (j : Nat) t v, Try.f3.params[j]? = some t → args[j]? = some v → Value.okWide Try.prog W .any base t v := hval0
  have hW' := hW
  obtain ⟨p, q, hA0, hV, rfl, hfz, hnd⟩ := hW
  have hA : DataW.TrodAll enc Try.prog W 0 (fun _ => true) true Try.f3.params.toList args.toList ds p := hA0
  rw [Try.params3] at hA hval
  obtain ⟨v0, vs0, d0, ds0, p0, q0, hargs, rfl, rfl, h0, r0⟩ := trodAll_cons hA
  obtain ⟨v1, vs1, d1, ds1, p1, q1, rfl, rfl, rfl, h1, r1⟩ := trodAll_cons r0
  obtain ⟨rfl, rfl, rfl⟩ := trodAll_nil r1
  obtain rfl : args = #[v0, v1] := by cases args; simp_all
  obtain ⟨rfl, rfl⟩ := trodVars_none hV
  obtain ⟨a0, len0, cap0, rfl⟩ := okWide_slice Try.underlying22 (hval 0 22 v0 rfl rfl)
  have k0 := h0
  have lt0 : ∀ x ∈ p0, x.block < W.heap.size := by obtain ⟨m, hm⟩ := k0; exact DataW.trod_lt m _ _ _ hm
  obtain ⟨vl0, w0, wf0⟩ : ∃ ls, IsL W a0 len0 cap0 ls ∧ WfL ls := by obtain ⟨fuel, hf⟩ := h0; exact isL_of hf
  obtain ⟨s1, rfl, rfl, rfl, w1⟩ := open_string Try.underlying9 (hval 1 9 v1 rfl rfl) h1
  clear hA0 hval0
  refine (labelsCanons_walk a0 len0 cap0 vl0 w0 wf0 s1 w1 rfl).mono fun e W' ⟨he, hb⟩ => ?_
  subst he
  exact ⟨_, rfl, _, _, _, [], _, [], hW', trodAll_mk1 (shut_bool Try.underlying4 _), (trodAll_cons_mk (Below.trod laidOut (by kernel_rfl) (of_decide_eq_true (by kernel_rfl)) k0 hb lt0) (trodAll_cons_mk (shut_string Try.underlying9 w1) trodAll_mk0)), rfl, hb.frame _, fun h => by cases h⟩

theorem labelsCanons_holds : Rows.LabelsCanonsSaid :=
  OpenClaim.holds_of_wide 3 Try.f3 rfl rfl rfl rfl rfl rfl rfl ⟨rfl, rfl, rfl, rfl, rfl⟩ rfl rfl rfl rfl rfl (by kernel_rfl) Try.func3 (by kernel_rfl)
    (of_decide_eq_true (by kernel_rfl)) (by unfold Func.isWrapper; first | (rw [if_pos (by decide +kernel)]; kernel_rfl) | (rw [if_neg (by decide +kernel)]; exact ⟨rfl, rfl⟩))
    (fun os started H enc _ => labelsCanons_lifted os started H enc)
#print axioms labelsCanons_holds
end Go.Proofs.Ythklkhdcmoonkaa
