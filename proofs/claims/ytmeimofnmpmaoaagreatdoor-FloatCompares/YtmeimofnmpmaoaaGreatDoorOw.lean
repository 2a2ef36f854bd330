/- The walk of FloatOrders: of numbers above 0 the greater one has the greater bits. Conditions: the package variables hold what they are laid with. -/
import Derived.Test.YtmeimofnmpmaoaaGreatDoorBg
import Derived.Test.YtmeimofnmpmaoaaGreatDoorK
import Derived.Test.YtmeimofnmpmaoaaGreatDoorCleans
namespace Go.Proofs.YtmeimofnmpmaoaaGreatDoor
open Go.RowKit Go.Shelf Fl

theorem clean_rel (m e : Int) (m0 : -9223372036854775808 ≤ m) (m1 : m ≤ 9223372036854775807) :
    ∃ (M E : Int) (b : Bool), (∀ w, Calls Tryz.prog 15 #[.int .i64 m, .int .i64 e] w fun r w' => r = .returned (.tuple #[val M E 0, .bool b]) ∧ Below w.heap.size w w') ∧
      (b = true → m ≠ 0 → mayBe M E 0 = true ∧ M ≠ 0 ∧ -1000 ≤ e ∧ e ≤ 1000 ∧ ∃ k : Nat, k ≤ 18 ∧ m = M * 10 ^ k ∧ E = e + k) := by
  by_cases he : e < -1000 ∨ 1000 < e
  · exact ⟨0, 0, false, fun w => clean_far m e he w, fun h => by cases h⟩
  · by_cases hm : m = 0
    · subst hm
      exact ⟨0, 0, true, fun w => clean_zero e (by omega) (by omega) w, fun _ h => absurd rfl h⟩
    · obtain ⟨a, k, hk, ha⟩ := strip_ex _ m (Nat.le_refl _) hm
      have hk18 := strip_le hk ha m0 m1
      cases hb : mayBe a (e + k) 0 with
      | true => exact ⟨a, e + k, true, fun w => clean_any m e a k true hk ha m0 m1 hk18 (by omega) (by omega) hb.symm w, fun _ _ => ⟨hb, fun h => ha (by rw [h]; rfl), by omega, by omega, k, hk18, hk, rfl⟩⟩
      | false => exact ⟨0, 0, false, fun w => clean_any m e a k false hk ha m0 m1 hk18 (by omega) (by omega) hb.symm w, fun h => by cases h⟩

/-- Two different numbers of at most fifteen digits are apart. -/
theorem gap15 {a b s t : Nat} (ha : a < 1000000000000000) (hb : b < 1000000000000000) (h : a * 10 ^ s < b * 10 ^ t) : a * 10 ^ s * (2 ^ 50 + 1) ≤ b * 10 ^ t * 2 ^ 50 := by
  rcases Nat.le_total s t with hs | hs
  · obtain ⟨j, rfl⟩ : ∃ j, t = s + j := ⟨t - s, by omega⟩
    have e : b * 10 ^ (s + j) = b * 10 ^ j * 10 ^ s := by rw [Nat.pow_add]; generalize 10 ^ s = x; generalize 10 ^ j = y; grind
    rw [e] at h ⊢
    have h1 := Nat.lt_of_mul_lt_mul_right h
    have h2 : a * (2 ^ 50 + 1) ≤ b * 10 ^ j * 2 ^ 50 := by generalize b * 10 ^ j = z at *; omega
    have := Nat.mul_le_mul_right (10 ^ s) h2
    have e1 : a * 10 ^ s * (2 ^ 50 + 1) = a * (2 ^ 50 + 1) * 10 ^ s := Nat.mul_right_comm _ _ _
    have e2 : b * 10 ^ j * 10 ^ s * 2 ^ 50 = b * 10 ^ j * 2 ^ 50 * 10 ^ s := Nat.mul_right_comm _ _ _
    rw [e1, e2]; exact this
  · obtain ⟨j, rfl⟩ : ∃ j, s = t + j := ⟨s - t, by omega⟩
    have e : a * 10 ^ (t + j) = a * 10 ^ j * 10 ^ t := by rw [Nat.pow_add]; generalize 10 ^ t = x; generalize 10 ^ j = y; grind
    rw [e] at h ⊢
    have h1 := Nat.lt_of_mul_lt_mul_right h
    have h2 : a * 10 ^ j * (2 ^ 50 + 1) ≤ b * 2 ^ 50 := by generalize a * 10 ^ j = z at *; omega
    have := Nat.mul_le_mul_right (10 ^ t) h2
    have e1 : a * 10 ^ j * 10 ^ t * (2 ^ 50 + 1) = a * 10 ^ j * (2 ^ 50 + 1) * 10 ^ t := Nat.mul_right_comm _ _ _
    have e2 : b * 10 ^ t * 2 ^ 50 = b * 2 ^ 50 * 10 ^ t := Nat.mul_right_comm _ _ _
    rw [e1, e2]; exact this

theorem num_of {q : Nat} {m M e E : Int} {k : Nat} (hm : m = M * 10 ^ k) (hE : E = e + k) (he : 0 ≤ e + q) : num q M.natAbs E = m.natAbs * 10 ^ (e + q).toNat := by
  have h1 : m.natAbs = M.natAbs * 10 ^ k := by rw [hm, Int.natAbs_mul, Int.natAbs_pow]; rfl
  rw [num, h1, Nat.mul_assoc, ← Nat.pow_add]; congr 2; omega

theorem may_neg {M E : Int} (h : mayBe M E 0 = true) (h0 : M ≠ 0) : mayBe (-M) E 0 = true := by
  have h0' : ¬ -M = 0 := by omega
  have hb : -1000000000000000 < M ∧ M < 1000000000000000 ∧ ¬ M.tmod 10 = 0 ∧ -300 ≤ E ∧ E ≤ 290 := by simpa [mayBe, h0] using h
  have ht : ¬ (-M).tmod 10 = 0 := by rw [Int.neg_tmod]; omega
  have h1 : -1000000000000000 < -M := by omega
  have h2 : -M < 1000000000000000 := by omega
  simp only [mayBe, h0', if_true, if_false, decide_eq_true_eq]
  exact ⟨h1, h2, ht, hb.2.2.2⟩

theorem may_lt {M E : Int} (h : mayBe M E 0 = true) (h0 : M ≠ 0) : M.natAbs < 1000000000000000 ∧ -300 ≤ E ∧ E ≤ 290 := by
  have hb : -1000000000000000 < M ∧ M < 1000000000000000 ∧ ¬ M.tmod 10 = 0 ∧ -300 ≤ E ∧ E ≤ 290 := by simpa [mayBe, h0] using h
  omega

theorem bits_pos (q : Nat) (hq : 300 ≤ q) (M E : Int) (hm : mayBe M E 0 = true) (hM : 0 < M) (w0 : World) (hG0 : Ground w0) :
    ∃ R : Nat, (∀ w, Ground w → Calls Tryz.prog 10 #[val M E 0] w fun e w' => e = .returned (.tuple #[.int .u64 (R : Int), .int .i64 0]) ∧ Below w.heap.size w w') ∧
      (∀ w, Ground w → Calls Tryz.prog 10 #[val (-M) E 0] w fun e w' => e = .returned (.tuple #[.int .u64 ((R : Int) + 9223372036854775808), .int .i64 0]) ∧ Below w.heap.size w w') ∧ Near (num q M.natAbs E) (10 ^ q) R ∧ R < 9223372036854775808 := by
  obtain ⟨R, hc, hN, hl⟩ := bits_gen q hq M E hm (by omega) w0 hG0
  obtain ⟨R', hc', hN', _⟩ := bits_gen q hq (-M) E (may_neg hm (by omega)) (by omega) w0 hG0
  rw [Int.natAbs_neg] at hN'
  have e := near_unique hN hN'
  subst e
  refine ⟨R, fun w hG => ?_, fun w hG => ?_, hN, hl⟩
  · have := hc w hG
    rw [show decide (M < 0) = false by simp; omega] at this
    simpa using this
  · have := hc' w hG
    rw [show decide (-M < 0) = true by simp; omega] at this
    rw [show (R : Int) + 9223372036854775808 = ((((if true = true then 1 else 0) * 9223372036854775808 + R : Nat)) : Int) by simp; omega]
    exact this
end Go.Proofs.YtmeimofnmpmaoaaGreatDoor
