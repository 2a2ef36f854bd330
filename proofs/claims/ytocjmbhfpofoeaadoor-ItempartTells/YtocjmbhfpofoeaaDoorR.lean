/- What span and Take answer for bytes that no number begins with. Conditions: those of each theorem. -/
import Derived.Test.YtocjmbhfpofoeaaDoorVa
namespace Go.Proofs.YtocjmbhfpofoeaaDoor
open Go.RowKit

set_option maxHeartbeats 800000 in
/-- Ten bytes from 128 on. -/
theorem span_none (g off cap : Nat) (zs : List Int) (w : World) (hc : ∀ i, i < zs.length → w.cell? ⟨g, off + i, none⟩ = some (.int .u8 (zs.getD i 0))) (hl : zs.length = 10) (hlo : ∀ i, i < 10 → 128 ≤ zs.getD i 0) :
    Calls Tryd.prog 81 #[.slice (some ⟨g, off, none⟩) zs.length cap] w fun e w' => e = .returned (.tuple #[.int .i64 0, .int .i64 11]) ∧ w' = w := by
  obtain ⟨Z, hZ⟩ : ∃ Z : Nat → Int, Z = fun i => zs.getD i 0 := ⟨_, rfl⟩
  rw [hl] at hc
  rw [hl]
  have HC : Hid ((∀ i, i < 10 → w.cell? ⟨g, off + i, none⟩ = some (.int .u8 (Z i))) ∧ (∀ i, i < 10 → 128 ≤ Z i)) := ⟨by rw [hZ]; exact hc, by rw [hZ]; exact hlo⟩
  clear hc hlo hZ hl
  go_enter Tryd.func81, Tryd.ntmps81
  go_wp2
  go_step3
  go_wp2
  go_step3
  go_wp2
  go_loop [4] (fun i => ∃ j : Nat, i = .int .i64 (j : Int) ∧ j ≤ 10) (fun i => 10 - (intOf i).toNat)
  case atStart => exact ⟨0, rfl, Nat.zero_le _⟩
  case round =>
    obtain ⟨j, rfl, hj⟩ := hrel
    by_cases hlt : j < 10
    · have hj10 : ((j : Int) == 10) = false := by simp; omega
      have hcj : w.cell? ⟨g, off + j, none⟩ = some (.int .u8 (Z j)) := HC.out.1 j hlt
      have hjl' : (j : Int) < 10 := by omega
      have hzj := HC.out.2 j hlt
      have hn : ¬ Z j < 128 := by omega
      go_wp2
      go_round
      case rel => exact ⟨j + 1, by go_num, by omega⟩
      case measure => simp [intOf]; omega
    · obtain rfl : j = 10 := by omega
      go_wp2
      try rw [Exit.noGoto_ret]
      go_ret2
      exact ⟨rfl, rfl⟩

set_option maxHeartbeats 800000 in
/-- A number that is too great, or written too long. -/
theorem span_bad (g off cap : Nat) (zs : List Int) (k : Nat) (w : World) (hc : ∀ i, i < zs.length → w.cell? ⟨g, off + i, none⟩ = some (.int .u8 (zs.getD i 0))) (hm : zs.length ≤ 140737488355328)
    (hk : k < zs.length) (hk9 : k ≤ 9) (hlo : ∀ i, i < k → 128 ≤ zs.getD i 0) (h1 : zs.getD k 0 < 128) (hbad : (k = 9 ∧ 1 < zs.getD k 0) ∨ (0 < k ∧ zs.getD k 0 = 0)) :
    Calls Tryd.prog 81 #[.slice (some ⟨g, off, none⟩) zs.length cap] w fun e w' => e = .returned (.tuple #[.int .i64 0, .int .i64 11]) ∧ w' = w := by
  obtain ⟨len, hlen⟩ : ∃ len, len = zs.length := ⟨_, rfl⟩
  rw [← hlen] at hc hm hk
  rw [← hlen]
  obtain ⟨Z, hZ⟩ : ∃ Z : Nat → Int, Z = fun i => zs.getD i 0 := ⟨_, rfl⟩
  have hc' : ∀ i, i < len → w.cell? ⟨g, off + i, none⟩ = some (.int .u8 (Z i)) := by rw [hZ]; exact hc
  have hlo' : ∀ i, i < k → 128 ≤ Z i := by rw [hZ]; exact hlo
  replace h1 : Z k < 128 := by rw [hZ]; exact h1
  replace hbad : (k = 9 ∧ 1 < Z k) ∨ (0 < k ∧ Z k = 0) := by rw [hZ]; exact hbad
  clear hc hlo hZ hlen
  have HC : Hid ((∀ i, i < len → w.cell? ⟨g, off + i, none⟩ = some (.int .u8 (Z i))) ∧ (∀ i, i < k → 128 ≤ Z i)) := ⟨hc', hlo'⟩
  have H9 : Hid ((k = 9 ∧ 1 < Z k) ∨ (0 < k ∧ Z k = 0)) := hbad
  clear hc' hlo' hbad
  go_enter Tryd.func81, Tryd.ntmps81
  go_wp2
  go_step3
  go_wp2
  go_step3
  go_wp2
  go_loop [4] (fun i => ∃ j : Nat, i = .int .i64 (j : Int) ∧ j ≤ k) (fun i => k - (intOf i).toNat)
  case atStart => exact ⟨0, rfl, Nat.zero_le _⟩
  case round =>
    obtain ⟨j, rfl, hj⟩ := hrel
    have hcj : w.cell? ⟨g, off + j, none⟩ = some (.int .u8 (Z j)) := HC.out.1 j (by omega)
    have hj10 : ((j : Int) == 10) = false := by simp; omega
    have hjl : ((j : Int) == (len : Int)) = false := by simp; omega
    have hjl' : (j : Int) < (len : Int) := by omega
    by_cases hlt : j < k
    · have hzj := HC.out.2 j hlt
      have hn : ¬ Z j < 128 := by omega
      go_wp2
      go_round
      case rel => exact ⟨j + 1, by go_num, by omega⟩
      case measure => simp [intOf]; omega
    · obtain rfl : j = k := by omega
      have hpj : (0 : Int) < (j : Int) := by rcases H9.out with h | h <;> omega
      by_cases e9 : j = 9
      · by_cases hz : 1 < Z j
        · have hz2 : (Z j == 0) = false := by simp; omega
          subst e9
          clear hj10
          go_wp2
          try rw [Exit.noGoto_ret]
          go_ret2
          exact ⟨rfl, rfl⟩
        · have hz2 : Z j = 0 := by rcases H9.out with h | h <;> omega
          rw [hz2] at hcj h1
          subst e9
          clear hj10 hz hz2
          go_wp2
          try rw [Exit.noGoto_ret]
          go_ret2
          exact ⟨rfl, rfl⟩
      · have e9' : ((j : Int) == 9) = false := by simp; omega
        have hz2 : Z j = 0 := by rcases H9.out with h | h <;> omega
        rw [hz2] at hcj h1
        clear hz2
        go_wp2
        try rw [Exit.noGoto_ret]
        go_ret2
        exact ⟨rfl, rfl⟩

/-- How many bytes from 128 on there are in front. -/
def hi : List Int → Nat
  | [] => 0
  | z :: r => if 128 ≤ z then hi r + 1 else 0
theorem hi_le : ∀ zs : List Int, hi zs ≤ zs.length
  | [] => by simp [hi]
  | z :: r => by have := hi_le r; simp only [hi]; split <;> simp <;> omega
theorem hi_lo : ∀ (zs : List Int) (i : Nat), i < hi zs → 128 ≤ zs.getD i 0
  | [], i, h => by simp [hi] at h
  | z :: r, i, h => by
    simp only [hi] at h
    split at h
    · cases i with
      | zero => simpa using ‹_›
      | succ i => simpa using hi_lo r i (by omega)
    · omega
theorem hi_at : ∀ (zs : List Int), hi zs < zs.length → zs.getD (hi zs) 0 < 128
  | [], h => by simp [hi] at h
  | z :: r, h => by
    simp only [hi] at *
    split
    · rename_i h1
      rw [if_pos h1] at h
      simpa using hi_at r (by simpa using h)
    · simp; omega
theorem hi_is : ∀ {zs : List Int} {k : Nat}, k < zs.length → (∀ i, i < k → 128 ≤ zs.getD i 0) → zs.getD k 0 < 128 → hi zs = k
  | [], k, h, _, _ => by simp at h
  | z :: r, 0, _, _, h => by simp at h; simp [hi]; omega
  | z :: r, k + 1, h, hl, h1 => by
    have h0 := hl 0 (by omega)
    simp at h0
    simp only [hi]
    rw [if_pos h0]
    congr 1
    exact hi_is (by simpa using h) (fun i hi => by simpa using hl (i + 1) (by omega)) (by simpa using h1)
theorem hi_bs {u : Nat} (hu : u < 18446744073709551616) (rest : List Int) : hi (bs u ++ rest) = (bs u).length - 1 := by
  obtain ⟨f1, f2, f3, f4, f5⟩ := bs_app hu rest
  have := bs_pos u
  exact hi_is (by simp; omega) f1 f3

/-- Bytes that a number has: all but the last one from 128 on, the last one below, and not 0 if it isn't the first one. -/
theorem bs_vl : ∀ (zs : List Int), zs ≠ [] → hi zs = zs.length - 1 → hi zs < zs.length → (∀ x ∈ zs, 0 ≤ x ∧ x ≤ 255) → (1 < zs.length → zs.getD (zs.length - 1) 0 ≠ 0) → bs (vl zs) = zs ∧ (1 < zs.length → 1 ≤ vl zs) ∧ (zs.length = 1 → vl zs < 128)
  | [], h, _, _, _, _ => absurd rfl h
  | [z], _, h, h2, hb, _ => by
    have h1 := hi_at [z] h2
    simp at h
    rw [h] at h1
    simp at h1
    have := hb z (by simp)
    have hv : vl [z] = z.toNat := by simp [vl]; omega
    rw [hv, bs_small (by omega)]
    refine ⟨?_, fun h => by simp at h, fun _ => by omega⟩
    congr 1; omega
  | z :: y :: r, _, h, h2, hb, hl => by
    have hz : 128 ≤ z := by
      simp only [hi] at h
      split at h
      · assumption
      · simp at h
    have hh : hi (y :: r) = (y :: r).length - 1 := by
      have h' := h
      rw [hi, if_pos hz] at h'
      simp only [List.length_cons] at *
      omega
    have hbz := hb z (by simp)
    obtain ⟨i1, i2, i3⟩ := bs_vl (y :: r) (by simp) hh (by simp only [List.length_cons] at *; omega) (fun x hx => hb x (List.mem_cons_of_mem _ hx)) (fun h1 => by
      have := hl (by simp)
      simpa using this)
    have hv : vl (z :: y :: r) = (z % 128).toNat + 128 * vl (y :: r) := rfl
    have h1 : 1 ≤ vl (y :: r) := by
      rcases Nat.lt_or_ge 1 (y :: r).length with h3 | h3
      · exact i2 h3
      · have hr : r = [] := List.eq_nil_of_length_eq_zero (by simp at h3; simp [h3])
        subst hr
        have h0 := hl (by simp)
        simp at h0
        have hby := hb y (by simp)
        have hy := hi_at [y] (by simp at hh; rw [hh]; simp)
        simp at hh
        rw [hh] at hy
        simp at hy
        simp [vl]; omega
    refine ⟨?_, fun _ => by omega, fun h => by simp at h⟩
    rw [bs_big (by omega)]
    have e1 : vl (z :: y :: r) / 128 = vl (y :: r) := by rw [hv]; omega
    have e2 : ((vl (z :: y :: r) % 128 + 128 : Nat) : Int) = z := by rw [hv]; omega
    rw [e1, e2, i1]
end Go.Proofs.YtocjmbhfpofoeaaDoor
