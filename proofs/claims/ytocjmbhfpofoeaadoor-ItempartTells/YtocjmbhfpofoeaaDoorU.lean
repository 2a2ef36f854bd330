/- The contract of taken, for all bytes. Conditions: those of each theorem. -/
import Derived.Test.YtocjmbhfpofoeaaDoorT
namespace Go.Proofs.YtocjmbhfpofoeaaDoor
open Go.RowKit

theorem getD_takeI (z : List Int) {i n : Nat} (h : i < n) : (z.take n).getD i 0 = z.getD i 0 := by simp [List.getD, h]
/-- The number's bytes fit. -/
theorem vl_fits {z : List Int} (hk : hi z < z.length) (h9 : hi z ≤ 9) (hb : ¬ (hi z = 9 ∧ 1 < z.getD (hi z) 0)) (hy : 0 ≤ z.getD (hi z) 0) : vl (z.take (hi z + 1)) < 18446744073709551616 := by
  rw [vl_take_succ z (hi z) hk]
  have h1 := vl_take_lt z (hi z)
  have h2 := hi_at z hk
  generalize vl (z.take (hi z)) = A at *
  generalize z.getD (hi z) 0 = y at *
  generalize hi z = k at *
  rcases Nat.lt_or_ge k 9 with h3 | h3
  · have h4 : 128 ^ k ≤ 128 ^ 8 := Nat.pow_le_pow_right (by decide) (by omega)
    have h5 : (y % 128).toNat ≤ 127 := by omega
    have h6 : (y % 128).toNat * 128 ^ k ≤ 127 * 128 ^ k := Nat.mul_le_mul_right _ h5
    have h7 : (128 : Nat) ^ 8 = 72057594037927936 := by decide
    omega
  · obtain rfl : k = 9 := by omega
    have h5 : (y % 128).toNat ≤ 1 ∨ y < 0 := by
      have : y ≤ 1 := by
        rcases Int.lt_or_le 1 y with h | h
        · exact absurd ⟨rfl, h⟩ hb
        · exact h
      omega
    have h7 : (128 : Nat) ^ 9 = 9223372036854775808 := by decide
    rw [h7] at h1 ⊢
    rcases h5 with h5 | h5
    · have h6 : (y % 128).toNat * 9223372036854775808 ≤ 1 * 9223372036854775808 := Nat.mul_le_mul_right _ h5
      omega
    · exact absurd h5 (by omega)

/-- An address as it is written. -/
def PA (a : Option Addr) : Prop := a = none ∨ ∃ g off, a = some ⟨g, off, none⟩

theorem taken_any (B : Nat) (w0 : World) (a : Option Addr) (nb cb : Nat) (z : List Int) (S : ∀ W, Below B w0 W → IsI .u8 W a nb cb z) (hz : Bytes z) (m : Nat) (hm : m ≤ 400) (w : World) (hw : Below B w0 w) (hn : nb ≤ 1000000) :
    Calls Tryd.prog 78 #[.slice a nb cb, .int .i64 (m : Int)] w fun e w' => Below w.heap.size w w' ∧ ∃ a' n' c', e = .returned (.tuple #[.int .i64 ((tkn z m).1 : Int), .slice a' n' c', .int .i64 (tkn z m).2.2]) ∧ (∀ W, Below B w0 W → IsI .u8 W a' n' c' (tkn z m).2.1) ∧ PA a' := by
  have hI := S w hw
  have hl := hI.hl
  have hc := hI.hc
  have hcm := hI.hm
  have hnil := hI.nil
  unfold maxLen at hcm
  obtain ⟨M, hM⟩ : ∃ M, M = min nb 10 := ⟨_, rfl⟩
  have hzl := hi_le z
  by_cases c1 : 10 ≤ hi z
  · have e : tkn z m = (0, [], 11) := by unfold tkn; rw [if_pos c1]
    rw [e]
    obtain ⟨g, off, rfl, hg, hcell⟩ := hI.lt (by omega)
    have hS := span_none g off cb (z.take 10) w (fun i hi => by
      simp at hi; rw [getD_takeI z (by omega)]; exact hcell i (by omega)) (by simp; omega) (fun i hi => by rw [getD_takeI z hi]; exact hi_lo z i (by omega))
    have hT := take_err (some ⟨g, off, none⟩) (z.take 10).length cb 11 (by decide) w hS
    rw [show (z.take 10).length = M by simp; omega] at hT
    exact (taken_err _ nb cb M m 11 (by decide) w hc hM (by omega) (by omega) hnil hT).mono fun r w' ⟨h1, h2⟩ => ⟨by rw [h2]; exact Below.refl _ _, none, 0, 0, h1, fun W _ => isI_nil _ _, .inl rfl⟩
  by_cases c2 : hi z = z.length
  · have e : tkn z m = (0, [], 10) := by unfold tkn; rw [if_neg c1, if_pos c2]
    rw [e]
    have hT := take_short a cb z w hI.rd (by omega) (fun i hi => hi_lo z i (by omega))
    rw [show z.length = M by omega] at hT
    exact (taken_err _ nb cb M m 10 (by decide) w hc hM (by omega) (by omega) hnil hT).mono fun r w' ⟨h1, h2⟩ => ⟨by rw [h2]; exact Below.refl _ _, none, 0, 0, h1, fun W _ => isI_nil _ _, .inl rfl⟩
  obtain ⟨g, off, rfl, hg, hcell⟩ := hI.lt (by omega)
  have hcellM : ∀ i, i < (z.take M).length → w.cell? ⟨g, off + i, none⟩ = some (.int .u8 ((z.take M).getD i 0)) := fun i hi => by
    simp at hi; rw [getD_takeI z (by omega)]; exact hcell i (by omega)
  have hMl : (z.take M).length = M := by simp; omega
  by_cases c3 : (hi z = 9 ∧ 1 < z.getD (hi z) 0) ∨ (0 < hi z ∧ z.getD (hi z) 0 = 0)
  · have e : tkn z m = (0, [], 11) := by unfold tkn; rw [if_neg c1, if_neg c2, if_pos c3]
    rw [e]
    have hS := span_bad g off cb (z.take M) (hi z) w hcellM (by omega) (by omega) (by omega) (fun i h => by rw [getD_takeI z (by omega)]; exact hi_lo z i h)
      (by rw [getD_takeI z (by omega)]; exact hi_at z (by omega)) (by rw [getD_takeI z (by omega)]; exact c3)
    have hT := take_err (some ⟨g, off, none⟩) (z.take M).length cb 11 (by decide) w hS
    rw [hMl] at hT
    exact (taken_err _ nb cb M m 11 (by decide) w hc hM (by omega) (by omega) hnil hT).mono fun r w' ⟨h1, h2⟩ => ⟨by rw [h2]; exact Below.refl _ _, none, 0, 0, h1, fun W _ => isI_nil _ _, .inl rfl⟩
  · obtain ⟨u, hu⟩ : ∃ u, u = vl (z.take (hi z + 1)) := ⟨_, rfl⟩
    have hu64 : u < 18446744073709551616 := by rw [hu]; exact vl_fits (by omega) (by omega) (fun h => c3 (.inl h)) (bytes_at hz _).1
    have hbu : bs u = z.take (hi z + 1) := by
      rw [hu]
      have hh : hi (z.take (hi z + 1)) = hi z := hi_is (by simp; omega) (fun i h => by rw [getD_takeI z (by omega)]; exact hi_lo z i h) (by rw [getD_takeI z (by omega)]; exact hi_at z (by omega))
      have hlen : (z.take (hi z + 1)).length = hi z + 1 := by simp; omega
      exact (bs_vl _ (fun h => by rw [h] at hlen; simp at hlen) (by rw [hh, hlen]; omega) (by rw [hh, hlen]; omega) (bytes_take hz _) (fun h => by
        rw [hlen, Nat.add_sub_cancel, getD_takeI z (by omega)]
        intro h0
        exact c3 (.inr ⟨by omega, h0⟩))).1
    have hbl : (bs u).length = hi z + 1 := by rw [hbu]; simp; omega
    have hsp : z.take M = bs u ++ (z.take M).drop (hi z + 1) := by
      conv => lhs; rw [← List.take_append_drop (hi z + 1) (z.take M)]
      rw [hbu, List.take_take, Nat.min_eq_left (by omega)]
    obtain ⟨rest, hrest⟩ : ∃ rest, rest = (z.take M).drop (hi z + 1) := ⟨_, rfl⟩
    rw [← hrest] at hsp
    have hT := take_ok g off cb u rest w hu64 hg (by rw [← hsp]; exact hcellM) (by rw [← hsp, hMl]; omega) hI.hm (by rw [hrest]; simp; omega)
    rw [← hsp, hMl] at hT
    have hT' : Calls Tryd.prog 75 #[.slice (some ⟨g, off, none⟩) M cb] w fun e w' => ∃ v, e = .returned (.tuple #[.int .u64 (u : Int), v, .int .i64 0]) ∧ Below w.heap.size w w' :=
      hT.mono fun r w' ⟨h, h1, _, h3⟩ => ⟨_, h1, h3⟩
    have hK := taken_ok g off nb cb M m u (hi z + 1) w hc hM (by omega) (by omega) hu64 (by omega) (by omega) hbl.symm hT'
    have e : tkn z m = if m < u then (0, [], 11) else (u, z.drop (hi z + 1), 0) := by unfold tkn; rw [if_neg c1, if_neg c2, if_neg c3, ← hu]
    rw [e]
    refine hK.mono fun r w' ⟨h1, h2⟩ => ⟨h1, ?_⟩
    by_cases hlt : m < u
    · rw [if_pos hlt] at h2 ⊢
      exact ⟨none, 0, 0, h2, fun W _ => isI_nil _ _, .inl rfl⟩
    · rw [if_neg hlt] at h2 ⊢
      refine ⟨_, _, _, h2, fun W hW => ?_, by split <;> exact .inr ⟨_, _, rfl⟩⟩
      have hIW := S W hW
      refine ⟨by simp; omega, by omega, by unfold maxLen; omega, hIW.rd.drop hl hc (by omega), ?_⟩
      intro h
      split at h <;> cases h
end Go.Proofs.YtocjmbhfpofoeaaDoor
