/- The contract of awake: the document's example. No conditions. -/
import Derived.Test.YthklkhdcmoonkaaJ
import Derived.Test.YthklkhdcmoonkaaO
import Derived.Test.YthklkhdcmoonkaaP
namespace Go.Proofs.Ythklkhdcmoonkaa
open Go.RowKit

theorem unm_back {l : List Lb} (h : May l) : unm (el (canon l)) = (0, canon l) := by
  unfold unm
  rw [prs_el]
  simp only [ne_eq, not_true_eq_false, if_false]
  rw [if_pos ⟨h.canon, canon_canon h⟩]
theorem isL_two (w : World) (a b c d : ByteArray) : IsL (w.alloc (.cells #[.string a, .string b, .string c, .string d] 44)) (some ⟨w.heap.size, 0, none⟩) 2 2 [(a, b), (c, d)] := by
  refine ⟨rfl, Nat.le_refl _, by decide, .inr ⟨w.heap.size, 0, rfl, by simp, fun i hi => ?_⟩, fun h => by cases h⟩
  match i, hi with
  | 0, _ => simp
  | 1, _ => simp
def sJob : ByteArray := ⟨#[106, 111, 98]⟩
def sX : ByteArray := ⟨#[120]⟩
def sA : ByteArray := ⟨#[97]⟩
def sOne : ByteArray := ⟨#[1]⟩
def lx : List Lb := [(sJob, sX), (sA, sOne)]
def lc : List Lb := [(sA, sOne), (sJob, sX)]
theorem may_lx : May lx := by decide +kernel
theorem canon_lx : canon lx = lc := canon_eq ⟨List.Perm.swap .., by decide +kernel⟩
theorem el_lc : el lc = [97, 1, 2, 4, 1, 106, 111, 98, 1, 120, 1] := by decide +kernel
theorem cml_lx : cml lx lc = 1 := by decide +kernel
theorem get_lx : get lx sJob = ⟨#[120]⟩ := by decide +kernel
theorem nm_job : nm sJob = true := by decide +kernel
theorem wf_lx : WfL lx := by
  intro x hx
  simp only [lx, List.mem_cons, List.not_mem_nil, or_false] at hx
  unfold maxLen
  rcases hx with rfl | rfl <;> decide

set_option maxHeartbeats 4000000 in
theorem awake_any (w : World) : Calls Try.prog 9 #[] w fun e w' => e = .returned (.bool true) ∧ Below w.heap.size w w' := by
  have hb0 : Below w.heap.size w (w.alloc (.cells #[.string sJob, .string sX, .string sA, .string sOne] 44)) := (Below.refl _ _).alloc (Nat.le_refl _) _
  have hI0 := isL_two w sJob sX sA sOne
  have H0 : Hid (Below w.heap.size w (w.alloc (.cells #[.string sJob, .string sX, .string sA, .string sOne] 44)) ∧ IsL (w.alloc (.cells #[.string sJob, .string sX, .string sA, .string sOne] 44)) (some ⟨w.heap.size, 0, none⟩) 2 2 lx) := ⟨hb0, hI0⟩
  clear hb0 hI0
  go_enter Try.func9, Try.ntmps9
  go_wp2_with fail
  refine (marshal_any _ 2 2 lx (w.alloc (.cells #[.string sJob, .string sX, .string sA, .string sOne] 44)) H0.out.2 wf_lx).mono ?_
  rintro e w1 ⟨v1, rfl, ho1, hb1⟩
  rw [cne_may may_lx]
  rw [cnl_may may_lx, canon_lx] at ho1
  rw [el_lc] at ho1
  obtain ⟨a1, c1, rfl, hI1⟩ := own_isI ho1
  have H1 : Hid (IsI .u8 w1 a1 11 c1 (el lc) ∧ Below w.heap.size w w1 ∧ IsL w1 (some ⟨w.heap.size, 0, none⟩) 2 2 lx) := ⟨by rw [el_lc]; exact hI1, H0.out.1.trans (hb1.mono (by simp)), H0.out.2.below hb1⟩
  clear ho1 hI1 hb1
  go_wp2_with fail
  refine (unmarshal_any a1 11 c1 (el lc) w1 H1.out.1 (el_bytes _) (by decide)).mono ?_
  rintro e w2 ⟨v2, rfl, hN2, hb2⟩
  have hu := unm_back may_lx
  rw [canon_lx] at hu
  rw [hu]
  rw [hu] at hN2
  obtain ⟨a2, c2, rfl, hI2, _⟩ := hN2
  have H2 : Hid (IsL w2 a2 2 c2 lc ∧ Below w.heap.size w w2 ∧ IsL w2 (some ⟨w.heap.size, 0, none⟩) 2 2 lx ∧ IsI .u8 w2 a1 11 c1 (el lc)) := ⟨hI2, H1.out.2.1.trans (hb2.mono H1.out.2.1.size), H1.out.2.2.below hb2, H1.out.1.below hb2⟩
  clear hI2 hb2 hu
  simp only [show lc.length = 2 from rfl]
  go_wp2_with fail
  refine (canon_any _ 2 2 lx w2 H2.out.2.2.1 wf_lx).mono ?_
  rintro e w3 ⟨v3, rfl, hN3, hb3⟩
  rw [cne_may may_lx]
  rw [cnl_may may_lx, canon_lx] at hN3
  obtain ⟨a3, c3, rfl, hI3, _⟩ := hN3
  have H3 : Hid (IsL w3 a3 2 c3 lc ∧ IsL w3 a2 2 c2 lc ∧ Below w.heap.size w w3 ∧ IsL w3 (some ⟨w.heap.size, 0, none⟩) 2 2 lx) := ⟨hI3, H2.out.1.below hb3, H2.out.2.1.trans (hb3.mono H2.out.2.1.size), H2.out.2.2.1.below hb3⟩
  have hcv := conv_rd w3 a1 c1 11 (el lc) (by rw [el_lc]; rfl) ((H2.out.2.2.2.below hb3).rd)
  rw [el_lc, show strOfNums [97, 1, 2, 4, 1, 106, 111, 98, 1, 120, 1] = ⟨#[97, 1, 2, 4, 1, 106, 111, 98, 1, 120, 1]⟩ from rfl] at hcv
  clear hI3 hb3
  simp only [show lc.length = 2 from rfl]
  go_wp2_with fail
  refine (same_any a2 a3 2 c2 c3 lc w3 (by decide) H3.out.2.1 H3.out.1).mono ?_
  rintro e w4 ⟨rfl, hb4⟩
  have H4 : Hid (IsL w4 a3 2 c3 lc ∧ Below w.heap.size w w4 ∧ IsL w4 (some ⟨w.heap.size, 0, none⟩) 2 2 lx) := ⟨H3.out.1.below hb4, H3.out.2.2.1.trans (hb4.mono H3.out.2.2.1.size), H3.out.2.2.2.below hb4⟩
  clear hb4 hcv
  go_wp2_with fail
  have hg := get_any _ 2 2 lx sJob w4 H4.out.2.2
  rw [get_lx] at hg
  refine Calls.mono hg ?_
  rintro e w5 ⟨rfl, hb5⟩
  have H5 : Hid (IsL w5 a3 2 c3 lc ∧ Below w.heap.size w w5 ∧ IsL w5 (some ⟨w.heap.size, 0, none⟩) 2 2 lx) := ⟨H4.out.1.below hb5, H4.out.2.1.trans (hb5.mono H4.out.2.1.size), H4.out.2.2.below hb5⟩
  clear hb5 hg
  go_wp2_with fail
  have hn := name_any sJob w5 (by unfold maxLen; decide)
  rw [nm_job] at hn
  refine Calls.mono hn ?_
  rintro e w6 ⟨rfl, rfl⟩
  clear hn
  go_wp2_with fail
  have hc := compare_any _ a3 2 2 2 c3 lx lc w6 (by decide) (by decide) H5.out.2.2 H5.out.1
  rw [cml_lx] at hc
  refine Calls.mono hc ?_
  rintro e w7 ⟨rfl, hb7⟩
  clear hc
  go_wp2_with fail
  go_ret
  exact ⟨rfl, H5.out.2.1.trans (hb7.mono H5.out.2.1.size)⟩
end Go.Proofs.Ythklkhdcmoonkaa
