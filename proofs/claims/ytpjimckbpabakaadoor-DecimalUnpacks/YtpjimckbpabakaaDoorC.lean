/- How values lie in memory; the contract of mantissa. Conditions: the table of powers holds what it is laid with. -/
import Derived.Test.YtpjimckbpabakaaDoorB
import Derived.Deep.QuietTactic
import Derived.BigQuiet
namespace Go.Proofs.YtpjimckbpabakaaDoor
open Go.RowKit

/-- The table of powers of ten. -/
def Pw (w : World) : Prop := 0 < w.heap.size ∧ ∀ i : Nat, i < 19 → w.cell? ⟨0, i, none⟩ = some (.int .i64 (10 ^ i))
theorem Pw.below {w w' : World} (h : Pw w) (hb : Below w.heap.size w w') : Pw w' :=
  ⟨Nat.lt_of_lt_of_le h.1 hb.size, fun i hi => (hb.cell (p := ⟨0, i, none⟩) h.1).trans (h.2 i hi)⟩

abbrev vv (v : Vl) : Value := val v.M v.E v.S
theorem below_drewN (w : World) (n : Nat) : Below w.heap.size w (w.drewN n) := by
  induction n with
  | zero => exact Below.refl _ _
  | succ n ih => exact ih.drew
theorem ret_int {k : IntKind} {a b : Int} (h : a = b) : Ending.returned (.int k a) = .returned (.int k b) := by rw [h]

theorem mant_any (v : Vl) (e : Int) (hf : fits v e) (w : World) (hP : Pw w) :
    Calls Tryd.prog 18 #[vv v, .int .i64 e] w fun r w' => r = .returned (.int .i64 (mant v e)) ∧ Below w.heap.size w w' := by
  obtain ⟨M, E, S⟩ := v
  have h0 := hP.1
  by_cases hS : S = 0
  · by_cases hM : M = 0
    · have em : mant ⟨M, E, S⟩ e = 0 := by simp [mant, hS, hM]
      rw [em]
      clear em hf hP
      subst hS; subst hM
      go_enter Tryd.func18, Tryd.ntmps18
      go_wp2
      go_ret
      exact ⟨rfl, (Below.refl _ _).alloc (Nat.le_refl _) _⟩
    · obtain ⟨k, hk⟩ : ∃ k : Nat, E = e + k := ⟨(E - e).toNat, by have := (hf.2 hM).1; simp only at this; omega⟩
      have hlt := (hf.2 hM).2
      simp only at hlt
      have em : mant ⟨M, E, S⟩ e = M * 10 ^ k := by simp [mant, hS, hM]; rw [show (E - e).toNat = k by omega]
      rw [em]
      rw [show (E - e).toNat = k by omega] at hlt
      have hk18 : k < 19 := by
        rcases Nat.lt_or_ge k 19 with h' | h'
        · exact h'
        · exfalso
          have a : 10 ^ 18 ≤ 10 ^ k := Nat.pow_le_pow_right (by decide) (by omega)
          have b : 1 * 10 ^ k ≤ M.natAbs * 10 ^ k := Nat.mul_le_mul_right _ (by omega)
          omega
      have hn : (M * 10 ^ k).natAbs = M.natAbs * 10 ^ k := by rw [Int.natAbs_mul, Int.natAbs_pow]; rfl
      have hm := may_num hf.1 hM
      simp only at hm
      have hpc := hP.2 k hk18
      have hbd : -9223372036854775808 ≤ M * 10 ^ k ∧ M * 10 ^ k ≤ 9223372036854775807 := by
        have h18 : (10 : Nat) ^ 18 = 1000000000000000000 := by decide
        rw [← hn] at hlt
        omega
      obtain ⟨t, ht⟩ : ∃ t : Int, Hid (t = 10 ^ k) := ⟨_, rfl⟩
      rw [← ht.out] at hpc hbd ⊢
      have hw : IntKind.i64.wrap (M * t) = M * t := by rw [IntKind.wrap_i64]; omega
      have hw2 : wrap64 (M * t) = M * t := by unfold wrap64; omega
      have hE : e + (k : Int) - e = k := by omega
      have hE2 : IntKind.i64.wrap (e + (k : Int) - e) = k := by rw [hE, IntKind.wrap_i64]; omega
      have hE3 : wrap64 (e + (k : Int) - e) = k := by rw [hE]; unfold wrap64; omega
      have hk0 : (0 : Int) ≤ (k : Int) := by omega
      have hk1 : (k : Int) < 19 := by omega
      subst hk
      clear em hf hP hlt hn hm hbd
      subst hS
      go_enter Tryd.func18, Tryd.ntmps18
      go_wp2
      go_quiet (fail)
      go_wp2
      go_ret
      exact ⟨rfl, ((Below.refl _ _).alloc (Nat.le_refl _) _).trans ((below_drewN _ _).mono (by simp))⟩
  · have em : mant ⟨M, E, S⟩ e = -9223372036854775808 + S := by simp [mant, hS]
    have hk := may_kind hf.1 hS
    simp only at hk
    obtain ⟨_, _, h1, h2⟩ := hk
    rw [em]
    clear em hf hP
    go_enter Tryd.func18, Tryd.ntmps18
    go_wp2
    go_ret
    exact ⟨rfl, (Below.refl _ _).alloc (Nat.le_refl _) _⟩
end Go.Proofs.YtpjimckbpabakaaDoor
