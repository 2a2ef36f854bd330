/- The contracts of few, Rises, Same, Check, Common, and of the document's own Common and Seek. Conditions: those of each theorem. -/
import Derived.Test.YtkojbpifcflgfaaM
import Derived.Laws.Cover1
namespace Go.Proofs.Ytkojbpifcflgfaa
open Go.RowKit

theorem below_dr (w : World) (n : Nat) : Below w.heap.size w (w.drewN n) := ⟨rfl, rfl, rfl, Nat.le_refl _, fun _ _ => rfl⟩
theorem below_dr2 (w : World) (q n : Nat) : Below w.heap.size w ((w.drewN q).drewN n) := ⟨rfl, rfl, rfl, Nat.le_refl _, fun _ _ => rfl⟩
theorem ret_bool {a b : Bool} (h : a = b) : Ending.returned (.bool a) = .returned (.bool b) := by rw [h]
theorem conv_drew (w : World) (a : Option Addr) (cap n : Nat) (xs : List Int) (h : IsI .u8 w a n cap xs) (q : Nat) :
    Sem.run Try.prog (convert 41 9 (.slice a n cap)) (w.drewN q) = .ok (.string (strOfNums xs)) (w.drewN q) := conv_rd (w.drewN q) a cap n xs h.hl (h.rd.below (below_dr w q))
theorem str_less {a b : List Int} (ha : Bytes a) (hb : Bytes b) : Op.bytesLess (strOfNums a).toList (strOfNums b).toList = li a b := by rw [bl_eq, nums_str ha, nums_str hb]
theorem str_same {a b : List Int} (ha : Bytes a) (hb : Bytes b) : ((strOfNums a).toList == (strOfNums b).toList) = decide (a = b) := by
  rw [beq_eq]
  by_cases h : a = b
  · subst h; simp
  · rw [decide_eq_false h, decide_eq_false (fun h' => h (str_inj ha hb h'))]

/-- Items that are few, and short. -/
def few (ls : List (List Int)) : Bool := decide (ls.length ≤ 60) && ls.all fun x => decide (x.length ≤ 600)
theorem few_spec {ls : List (List Int)} (h : few ls = true) : ls.length ≤ 60 ∧ ∀ x ∈ ls, x.length ≤ 600 := by
  simp [few] at h
  exact ⟨h.1, fun x hx => h.2 _ hx⟩
theorem few_not {ls : List (List Int)} {k : Nat} (hk : k < ls.length) (h : 600 < (ls.getD k []).length) : few ls = false := by
  rw [few, Bool.eq_false_iff]; intro h'
  simp only [Bool.and_eq_true, List.all_eq_true, decide_eq_true_eq] at h'
  have := h'.2 _ (getD_memR hk)
  omega

/-- Items rise. -/
def Rz (ls : List (List Int)) : Prop := ∀ i, i + 1 < ls.length → li (ls.getD i []) (ls.getD (i + 1) []) = true
open Classical in
noncomputable def rises (ls : List (List Int)) : Bool := decide (Rz ls)
theorem rises_iff {ls : List (List Int)} : rises ls = true ↔ Rz ls := by simp [rises]
theorem rises_not {ls : List (List Int)} {k : Nat} (h : k + 1 < ls.length) (hn : li (ls.getD k []) (ls.getD (k + 1) []) = false) : rises ls = false := by
  rw [Bool.eq_false_iff]; intro h'
  have := rises_iff.1 h' k h
  rw [hn] at this; cases this

set_option maxHeartbeats 1600000 in
theorem rises_any (a : Option Addr) (len cap : Nat) (ls : List (List Int)) (w : World) (hI : IsR w a len cap ls) (hwf : WfR ls) : Calls Try.prog 22 #[.slice a len cap] w fun e w' => e = .returned (.bool (rises ls)) ∧ Below w.heap.size w w' := by
  have hm := hI.hm
  have hc := hI.hc
  unfold maxLen at hm
  obtain ⟨b, hb⟩ : ∃ b, Hid (b = rises ls) := ⟨_, rfl⟩
  rw [← hb.out]
  have HI : Hid (IsR w a len cap ls ∧ WfR ls) := ⟨hI, hwf⟩
  clear hI hwf
  go_enter Try.func22, Try.ntmps22
  go_wp2
  go_loopw [3] (fun i wr => ∃ k q : Nat, i = .int .i64 ((k : Int) + 1) ∧ k ≤ len ∧ Hid (∀ j, j < k → j + 1 < len → li (ls.getD j []) (ls.getD (j + 1) []) = true) ∧ wr = w.drewN q) (fun i _ => len + 1 - (intOf i).toNat)
  case atStart => exact ⟨0, 0, rfl, Nat.zero_le _, (fun j hj => by omega), rfl⟩
  case round =>
    obtain ⟨k, q, rfl, hk, HA, rfl⟩ := hrel
    by_cases hlt : k + 1 < len
    · have hlt' : (k : Int) + 1 < (len : Int) := by omega
      have hlk : (k : Int) < (len : Int) := by omega
      have hk0 : (0 : Int) ≤ (k : Int) := by omega
      have hk1 : (0 : Int) ≤ (k : Int) + 1 := by omega
      have hsub : IntKind.i64.wrap (k : Int) = (k : Int) := by rw [IntKind.wrap_i64]; omega
      have hkl : k < ls.length := by rw [HI.out.1.hl]; omega
      have hkl1 : k + 1 < ls.length := by rw [HI.out.1.hl]; omega
      obtain ⟨g, off, ai, ni, ci, rfl, hg, c0, hi⟩ := HI.out.1.rd.at hkl
      obtain ⟨g', off', aj, nj, cj, e, hg', c1, hj⟩ := HI.out.1.rd.at hkl1
      cases e
      have v0 := conv_drew w ai ci ni _ hi
      have v1 := conv_drew w aj cj nj _ hj
      have hl := str_less (HI.out.2 _ (getD_memR hkl)) (HI.out.2 _ (getD_memR hkl1))
      obtain ⟨r, hr⟩ : ∃ r, Hid (r = li (ls.getD k []) (ls.getD (k + 1) [])) := ⟨_, rfl⟩
      rw [← hr.out] at hl
      have HN : Hid (r = false → rises ls = false) := fun h => rises_not hkl1 (by rw [← hr.out]; exact h)
      have HT : Hid (r = true → ∀ j, j < k + 1 → j + 1 < len → li (ls.getD j []) (ls.getD (j + 1) []) = true) := fun h j h1 h2 => by
        rcases Nat.lt_succ_iff_lt_or_eq.1 h1 with h3 | h3
        · exact HA.out j h3 h2
        · subst h3; rw [← hr.out]; exact h
      generalize strOfNums (ls.getD k []) = M at *
      generalize strOfNums (ls.getD (k + 1) []) = E at *
      clear hi hj hkl hkl1 hr hg'
      cases r with
      | false =>
        go_wp2
        go_quiet (fail)
        go_wp2
        go_ret
        exact ⟨ret_bool (by rw [hb.out, HN.out trivial]), below_dr2 _ _ _⟩
      | true =>
        go_wp2
        go_quiet (fail)
        go_wp2
        go_roundw
        case rel => exact ⟨k + 1, _, by go_num, by omega, HT.out trivial, rfl⟩
        case measure => simp [intOf]; omega
    · have hlt' : ¬ (k : Int) + 1 < (len : Int) := by omega
      go_wp2
      go_ret
      refine ⟨ret_bool ?_, below_dr _ _⟩
      rw [hb.out, rises_iff.2 fun j hj => HA.out j (by rw [HI.out.1.hl] at hj; omega) (by rw [HI.out.1.hl] at hj; exact hj)]
end Go.Proofs.Ytkojbpifcflgfaa
