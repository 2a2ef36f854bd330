/- The contract of the document's own mantissa. Conditions: the exponent fits an int64. -/
import Derived.Test.YtpjimckbpabakaaDoorM
namespace Go.Proofs.YtpjimckbpabakaaDoor
open Go.RowKit

/-- What the document's mantissa tells. -/
def Mant (w : World) (v : Vl) (e : Int) (r : Ending) (w' : World) : Prop :=
  ∃ (m : Int) (b : Bool), r = .returned (.tuple #[.int .i64 m, .bool b]) ∧ (b = true ↔ fits v e) ∧ (b = true → m = mant v e) ∧ Below w.heap.size w w'

theorem pow_mono {M d k : Nat} (h : d ≤ k) : M * 10 ^ d ≤ M * 10 ^ k := Nat.mul_le_mul_left _ (Nat.pow_le_pow_right (by decide) h)

set_option maxHeartbeats 1600000 in
theorem refmant_any (v : Vl) (e : Int) (he0 : -9223372036854775808 ≤ e) (he1 : e ≤ 9223372036854775807) (w : World) :
    Calls Tryd.prog 24 #[vv v, .int .i64 e] w (Mant w v e) := by
  obtain ⟨M, E, S⟩ := v
  obtain ⟨b, hb⟩ : ∃ b, Hid (b = mayBe M E S) := ⟨_, rfl⟩
  have B1 : Below w.heap.size w ((w.alloc (.cells #[.int .i64 M, .int .i64 E, .int .i64 S] 36)).alloc (.cells #[.int .i64 M, .int .i64 E, .int .i64 S] 36)) := ((Below.refl _ _).alloc (Nat.le_refl _) _).alloc (by simp) _
  have HB : Hid _ := B1
  clear B1
  go_enter Tryd.func24, Tryd.ntmps24
  go_wp2_with fail
  refine (refright_any M E S b hb _).mono ?_
  rintro r w' ⟨rfl, hw'⟩; rw [hw']; clear hw' w'
  cases b with
  | false =>
    go_wp2_with fail
    go_ret2
    refine ⟨0, false, rfl, ⟨(fun h => by cases h), fun h => ?_⟩, (fun h => by cases h), HB.out⟩
    have h1 := h.1
    have h2 := hb.out
    simp only [may] at h1
    rw [h1] at h2; cases h2
  | true =>
    have hmay : Hid (may ⟨M, E, S⟩ = true) := hb.out.symm
    by_cases hS : S = 0
    · by_cases hM : M = 0
      · subst hS; subst hM
        go_wp2_with fail
        go_ret2
        refine ⟨0, true, rfl, ⟨fun _ => ⟨hmay.out, fun h => absurd rfl h⟩, fun _ => rfl⟩, fun _ => by simp [mant], HB.out⟩
      · obtain ⟨_, hnb, _, hE0, hE1⟩ := may_num hmay.out hM
        simp only at hnb hE0 hE1
        subst hS
        have hMp : Hid (1 ≤ M.natAbs) := by show 1 ≤ _; omega
        by_cases h1 : E < e
        · go_wp2_with fail
          go_ret2
          refine ⟨0, false, rfl, ⟨(fun h => by cases h), fun h => ?_⟩, (fun h => by cases h), HB.out⟩
          have := (h.2 hM).1
          simp only at this
          omega
        · by_cases h2 : wrap64 (E - e) > 18
          · have hno : Hid (¬ fits ⟨M, E, 0⟩ e) := fun h => by
              have h3 := (h.2 hM).2
              simp only at h3
              have h4 : 18 ≤ (E - e).toNat := by unfold wrap64 at h2; omega
              have h5 := pow_mono (M := M.natAbs) h4
              have h6 := hMp.out
              have h7 : 1 * 10 ^ 18 ≤ M.natAbs * 10 ^ 18 := Nat.mul_le_mul_right _ h6
              omega
            go_wp2_with fail
            go_ret2
            exact ⟨0, false, rfl, ⟨(fun h => by cases h), fun h => absurd h hno.out⟩, (fun h => by cases h), HB.out⟩
          · go_wp2_with fail
            go_loop [7, 8] (fun m i => ∃ j : Nat, i = .int .i64 (e + j) ∧ e + j ≤ E ∧ m = .int .i64 (M * 10 ^ j) ∧ Hid (M.natAbs * 10 ^ j < 10 ^ 18)) (fun _ i => (E - intOf i).toNat)
            case atStart => exact ⟨0, by simp, by omega, by simp, by show _ < _; omega⟩
            case round =>
              obtain ⟨j, rfl, hj, rfl, hlt⟩ := hrel
              have hn : (M * 10 ^ j).natAbs = M.natAbs * 10 ^ j := by rw [Int.natAbs_mul, Int.natAbs_pow]; rfl
              obtain ⟨x, hx⟩ : ∃ x, Hid (x = M * 10 ^ j) := ⟨_, rfl⟩
              rw [← hx.out] at hn ⊢
              have hxb : x.natAbs < 1000000000000000000 := by
                have h18 : (10 : Nat) ^ 18 = 1000000000000000000 := by decide
                have := hlt.out
                omega
              have HN : Hid (x.natAbs = M.natAbs * 10 ^ j) := hn
              clear hn
              by_cases hje : e + j < E
              · have hno : Hid (99999999999999999 < x.natAbs → ¬ fits ⟨M, E, 0⟩ e) := fun hbig h => by
                  have h3 := (h.2 hM).2
                  simp only at h3
                  have h4 : j + 1 ≤ (E - e).toNat := by omega
                  have h5 := pow_mono (M := M.natAbs) h4
                  have h6 : M.natAbs * 10 ^ (j + 1) = M.natAbs * 10 ^ j * 10 := by rw [Nat.pow_succ, Nat.mul_assoc]
                  rw [h6, ← HN.out] at h5
                  have h18 : (10 : Nat) ^ 18 = 1000000000000000000 := by decide
                  omega
                by_cases g1 : x > 99999999999999999
                · go_wp2_with fail
                  go_ret2
                  exact ⟨0, false, rfl, ⟨(fun h => by cases h), fun h => absurd h (hno.out (by omega))⟩, (fun h => by cases h), HB.out⟩
                · by_cases g2 : x < -99999999999999999
                  · go_wp2_with fail
                    go_ret2
                    exact ⟨0, false, rfl, ⟨(fun h => by cases h), fun h => absurd h (hno.out (by omega))⟩, (fun h => by cases h), HB.out⟩
                  · have hmul : x * 10 = M * 10 ^ (j + 1) := by rw [hx.out, Int.pow_succ, Int.mul_assoc]
                    have HM : Hid _ := hmul
                    clear hmul
                    go_wp2_with fail
                    go_round
                    case rel =>
                      refine ⟨j + 1, ?_, by omega, ?_, ?_⟩
                      · congr 1; omega
                      · rw [← HM.out]
                      · show _ < _
                        rw [Nat.pow_succ, ← Nat.mul_assoc, ← HN.out]; omega
                    case measure => simp [intOf]; omega
              · have hje' : e + (j : Int) = E := by omega
                go_wp2_with fail
                go_ret2
                have hEj : (E - e).toNat = j := by omega
                refine ⟨x, true, rfl, ⟨fun _ => ⟨hmay.out, fun _ => ⟨by simp only; omega, ?_⟩⟩, fun _ => rfl⟩, fun _ => ?_, HB.out⟩
                · simp only; rw [hEj]; exact hlt.out
                · simp only [mant, hM, hEj, hx.out]; simp
    · have hk := may_kind hmay.out hS
      simp only at hk
      obtain ⟨rfl, rfl, h1, h2⟩ := hk
      go_wp2_with fail
      go_ret2
      refine ⟨-9223372036854775808 + S, true, rfl, ⟨fun _ => ⟨hmay.out, fun h => absurd rfl h⟩, fun _ => rfl⟩, fun _ => by simp [mant, hS], HB.out⟩
end Go.Proofs.YtpjimckbpabakaaDoor
