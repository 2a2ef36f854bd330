/- The exact roads of the parser answer the nearest double, or hand over. Conditions: a mantissa of at most fifteen digits, the tables lie in memory. -/
import Derived.Test.YtmeimofnmpmaoaaGreatDoorOr
import Derived.Test.YtmeimofnmpmaoaaGreatDoorSc
import Derived.Test.YtmeimofnmpmaoaaGreatDoorQ
namespace Go.Proofs.YtmeimofnmpmaoaaGreatDoor
open Go.RowKit Go.Shelf Fl

theorem near_top {a b R : Nat} (hb : 0 < b) (h : Near a b R) (ha : a ≤ 2 ^ 130 * b) : R < 1154 * 4503599627370496 := by
  have hN : Near (2 ^ 131 * b) b (1154 * 4503599627370496) := by
    refine ⟨79, 0, ?_, ?_, by decide, ?_⟩
    · have : 2 ^ 52 * (b * 2 ^ 79) = 2 ^ 131 * b * 2 ^ 0 := by omega
      omega
    · omega
    · have e : rq (2 ^ 131 * b * 2 ^ 0) (b * 2 ^ 79) = 4503599627370496 := by
        have e1 : 2 ^ 131 * b * 2 ^ 0 = 4503599627370496 * (b * 2 ^ 79) := by omega
        have e2 : b * 2 ^ 79 = 1 * (b * 2 ^ 79) := by omega
        have hp : 0 < b * 2 ^ 79 := Nat.mul_pos hb (by decide)
        rw [e1]
        generalize b * 2 ^ 79 = x at hp
        have := rq_scale 4503599627370496 1 x hp
        rw [Nat.one_mul] at this
        rw [this]; decide
      rw [e]
  exact near_lt hb h hN (by omega)

theorem near_form {a b R : Nat} (hb : 0 < b) (h : Near a b R) : ∃ K m, R = K * 4503599627370496 + m ∧ 4503599627370496 ≤ m ∧ m < 9007199254740992 := by
  obtain ⟨u, v, h1, h2, h3, rfl⟩ := h
  have bu : 0 < b * 2 ^ u := Nat.mul_pos hb (Nat.two_pow_pos _)
  have r1 := rq_le (a * 2 ^ v) (b * 2 ^ u)
  have r2 := rq_ge (a * 2 ^ v) (b * 2 ^ u) bu
  generalize hr : rq (a * 2 ^ v) (b * 2 ^ u) = r at *
  generalize a * 2 ^ v = x at *
  generalize b * 2 ^ u = y at *
  have hr1 : 4503599627370496 ≤ r := by
    rcases Nat.lt_or_ge r 4503599627370496 with h | h
    · have : y * r ≤ y * 4503599627370495 := Nat.mul_le_mul_left _ (by omega)
      omega
    · exact h
  have hr2 : r ≤ 9007199254740992 := by
    rcases Nat.lt_or_ge 9007199254740992 r with h | h
    · have : y * 9007199254740993 ≤ y * r := Nat.mul_le_mul_left _ h
      omega
    · exact h
  rcases Nat.lt_or_ge r 9007199254740992 with h | h
  · exact ⟨u + 1074 - v, r, rfl, hr1, h⟩
  · exact ⟨u + 1074 - v + 1, 4503599627370496, by rw [show (2 : Nat) ^ 52 = 4503599627370496 from rfl]; omega, by decide, by decide⟩

theorem int_near (d : Nat) (h0 : 0 < d) (h1 : d < 9007199254740992) : Near d 1 (Ieee.double.nearest false d 0) := by
  have hl : d.log2 < 53 := log2_lt_of (by omega) (by omega)
  obtain ⟨R, hR, hN⟩ := nearest_near false d 0 h0 (by omega) (by omega)
  rw [hR]
  have e : Ieee.double.word false R = R := rfl
  rw [e]
  simpa using hN

theorem near15 : Near 1000000000000000 1 4831355200913801216 := by
  have := int_near 1000000000000000 (by decide) (by decide)
  rwa [show Ieee.double.nearest false 1000000000000000 0 = 4831355200913801216 from by decide +kernel] at this

theorem word_if (neg : Bool) (R : Nat) : Ieee.double.word neg R = (if neg then 1 else 0) * 9223372036854775808 + R := by
  have h : Ieee.double.signWeight = 9223372036854775808 := by decide
  unfold Ieee.Format.word; rw [h]; cases neg <;> simp

theorem neg_xor (F : Nat) (h : F < 9223372036854775808) : Op.negFloat .f64 F = F + 9223372036854775808 := by
  show F ^^^ 2 ^ (11 + 52) = _
  apply Nat.eq_of_testBit_eq
  intro i
  have e := Nat.testBit_two_pow_mul_add (i := 63) 1 (b := F) (by omega) i
  rw [show F + 9223372036854775808 = 2 ^ 63 * 1 + F by omega, e, Nat.testBit_xor, show 11 + 52 = 63 from rfl, Nat.testBit_two_pow]
  by_cases h1 : i < 63
  · have : ¬ 63 = i := by omega
    simp [h1, this]
  · have hF : F.testBit i = false := Nat.testBit_lt_two_pow (Nat.lt_of_lt_of_le h (Nat.pow_le_pow_right (by decide) (by omega) : 2 ^ 63 ≤ 2 ^ i))
    rcases Nat.lt_or_ge 63 i with h2 | h2
    · have a : ¬ 63 = i := by omega
      have b : Nat.testBit 1 (i - 63) = false := by
        have : i - 63 = (i - 64) + 1 := by omega
        rw [this, Nat.testBit_succ]; simp
      simp [h1, a, hF, b]
    · obtain rfl : i = 63 := by omega
      simp [hF]

theorem ofInt_word (d : Nat) : floatOfInt .f64 (d : Int) = Ieee.double.nearest false d 0 := by
  show Ieee.double.nearest (decide ((d : Int) < 0)) (d : Int).natAbs 0 = _
  have : decide ((d : Int) < 0) = false := by simp
  rw [this]; rfl

theorem tens_at (k : Nat) (hk : k < 23) : pow10Bits[k]? = some (tens.getD k 0) := by
  have : ∀ k : Fin 23, pow10Bits[k.val]? = some (tens.getD k.val 0) := by decide
  exact this ⟨k, hk⟩

theorem K15 : (4831355200913801216 : Nat) = 1071 * 4503599627370496 + 8000000000000000 := by decide

/-- The two tests against 10^15, of a number whose rung is not above it. -/
theorem tests_in (neg : Bool) (K m : Nat) (h1 : 4503599627370496 ≤ m) (h2 : m < 9007199254740992) (hK : K < 2045) (hle : K * 4503599627370496 + m ≤ 4831355200913801216) :
    (FloatKind.f64.format.order (Ieee.double.word neg (K * 4503599627370496 + m)) 4831355200913801216 == some .gt) = false ∧ (FloatKind.f64.format.order (Ieee.double.word neg (K * 4503599627370496 + m)) 14054727237768577024 == some .lt) = false := by
  have e1 : (4831355200913801216 : Nat) = Ieee.double.word false (1071 * 4503599627370496 + 8000000000000000) := by decide
  have e2 : (14054727237768577024 : Nat) = Ieee.double.word true (1071 * 4503599627370496 + 8000000000000000) := by decide
  rw [K15] at hle
  show (Ieee.double.order _ _ == _) = _ ∧ (Ieee.double.order _ _ == _) = _
  rw [e1, e2]
  cases neg
  · exact ⟨by rw [order_pp h1 h2 hK (by decide) (by decide) (by decide)]; simp; omega, (order_np h1 h2 hK (by decide) (by decide) (by decide)).2⟩
  · exact ⟨(order_np h1 h2 hK (by decide) (by decide) (by decide)).1, by rw [order_nn h1 h2 hK (by decide) (by decide) (by decide)]; simp; omega⟩

theorem tests_out (neg : Bool) (K m : Nat) (h1 : 4503599627370496 ≤ m) (h2 : m < 9007199254740992) (hK : K < 2045) (hlt : 4831355200913801216 < K * 4503599627370496 + m) :
    (neg = false → (FloatKind.f64.format.order (Ieee.double.word neg (K * 4503599627370496 + m)) 4831355200913801216 == some .gt) = true) ∧
    (neg = true → (FloatKind.f64.format.order (Ieee.double.word neg (K * 4503599627370496 + m)) 4831355200913801216 == some .gt) = false ∧ (FloatKind.f64.format.order (Ieee.double.word neg (K * 4503599627370496 + m)) 14054727237768577024 == some .lt) = true) := by
  have e1 : (4831355200913801216 : Nat) = Ieee.double.word false (1071 * 4503599627370496 + 8000000000000000) := by decide
  have e2 : (14054727237768577024 : Nat) = Ieee.double.word true (1071 * 4503599627370496 + 8000000000000000) := by decide
  rw [K15] at hlt
  show (_ → (Ieee.double.order _ _ == _) = _) ∧ (_ → (Ieee.double.order _ _ == _) = _ ∧ (Ieee.double.order _ _ == _) = _)
  rw [e1, e2]
  refine ⟨fun h => ?_, fun h => ⟨?_, ?_⟩⟩
  · rw [h, order_pp h1 h2 hK (by decide) (by decide) (by decide)]; simp; omega
  · rw [h]; exact (order_np h1 h2 hK (by decide) (by decide) (by decide)).1
  · rw [h, order_nn h1 h2 hK (by decide) (by decide) (by decide)]; simp; omega

theorem near_mono15 {a R : Nat} (h : Near a 1 R) (ha : a < 1000000000000000) : R < 4831355200913801216 := near_lt (by decide) h near15 (by omega)
theorem near_above15 {a R : Nat} (h : Near a 1 R) (ha : 1000000000000000 < a) : 4831355200913801216 < R := near_lt (by decide) near15 h (by omega)

theorem word_fbits (neg : Bool) (F0 : Nat) : Ieee.double.word neg F0 = if neg then F0 + 9223372036854775808 else F0 := by
  rw [word_if]; cases neg <;> simp <;> omega

theorem exact_road (q : Nat) (hq : 300 ≤ q) (d : Nat) (p : Int) (d0 : 0 < d) (d1 : d < 1000000000000000) (p0 : -300 ≤ p) (p1 : p ≤ 290) (w : World) (hG : Ground w) (neg : Bool) :
    (∃ R, Calls Tryz.prog 118 #[.int .u64 (d : Int), .int .i64 p, .bool neg] w (fun e w' => e = .returned (.tuple #[.float .f64 ((if neg then 1 else 0) * 9223372036854775808 + R), .bool true]) ∧ w' = w) ∧ Near (num q d p) (10 ^ q) R ∧ R < 9223372036854775808) ∨
    (((23 ≤ p ∧ p ≤ 290) ∨ (-300 ≤ p ∧ p ≤ -23)) ∧ ∃ F, Calls Tryz.prog 118 #[.int .u64 (d : Int), .int .i64 p, .bool neg] w (fun e w' => e = .returned (.tuple #[.float .f64 F, .bool false]) ∧ w' = w)) := by
  obtain ⟨K, m, hF0, h1, h2, hK, hK1, hK2, hm⟩ := int_word d d0 (by omega)
  have hN0 := int_near d d0 (by omega)
  rw [hF0] at hN0
  have hFi : floatOfInt .f64 (d : Int) = K * 4503599627370496 + m := by rw [ofInt_word, hF0]
  have hlt15 := near_mono15 hN0 d1
  have hneg := neg_xor (K * 4503599627370496 + m) (by omega)
  obtain ⟨tb, to, tc, _, h15, ht⟩ := hG.c15
  have hwf := word_fbits neg (K * 4503599627370496 + m)
  have tin := tests_in neg K m h1 h2 hK (by omega)
  by_cases hp0 : p = 0
  · subst hp0
    left
    refine ⟨K * 4503599627370496 + m, ?_, ?_, by omega⟩
    · rw [← word_if]
      exact exact_zero d 0 neg _ _ w (by omega) hG.c8 hFi hneg hwf rfl
    · have := near_num_pos (q := q) (d := d) (n := 0) (R := K * 4503599627370496 + m) (by simpa using hN0)
      exact this
  · by_cases hlo : p < 0
    · obtain ⟨n, rfl⟩ : ∃ n : Nat, p = -(n : Int) := ⟨(-p).toNat, by omega⟩
      by_cases hn : n ≤ 22
      · left
        obtain ⟨R, hd, hN⟩ := div_near d K m n neg h1 h2 hK1 hK2 hm (by omega)
        refine ⟨R, ?_, near_num_neg (by omega) hN, ?_⟩
        · rw [← word_if]
          exact exact_div d _ neg _ _ n (tens.getD n 0) _ w (by omega) tb to tc hG.c8 h15 hFi hneg hwf rfl (by omega) hn (ht n _ (tens_at n (by omega))) hd
        · have := near_top (Nat.pow_pos (by decide)) hN (by have := Nat.pow_pos (n := n) (show 0 < 10 by decide); omega)
          omega
      · right
        exact ⟨.inr (by omega), _, exact_far d _ neg _ _ w (by omega) hG.c8 hFi hneg hwf (by omega)⟩
    · obtain ⟨n, rfl⟩ : ∃ n : Nat, p = (n : Int) := ⟨p.toNat, by omega⟩
      by_cases hn : n ≤ 22
      · left
        obtain ⟨R, hd, hN⟩ := mul_near d K m n neg h1 h2 hK1 hK2 hm (by omega)
        refine ⟨R, ?_, near_num_pos hN, ?_⟩
        · rw [← word_if]
          exact exact_mul d _ neg _ _ n (tens.getD n 0) _ w (by omega) tb to tc hG.c8 h15 hFi hneg hwf rfl (by omega) hn (ht n _ (tens_at n (by omega))) hd tin.1 tin.2
        · have hp : 10 ^ n ≤ 10 ^ 22 := Nat.pow_le_pow_right (by decide) hn
          have : d * 10 ^ n ≤ 1000000000000000 * 10 ^ 22 := Nat.mul_le_mul (by omega) hp
          have := near_top (by decide) hN (by omega)
          omega
      · by_cases hn2 : n ≤ 37
        · obtain ⟨j, rfl⟩ : ∃ j, n = j + 22 := ⟨n - 22, by omega⟩
          obtain ⟨R2, hd2, hN2⟩ := mul_near d K m j neg h1 h2 hK1 hK2 hm (by omega)
          by_cases hbig : d * 10 ^ j ≤ 1000000000000000
          · left
            have pj : 0 < 10 ^ j := Nat.pow_pos (by decide)
            have d20 : 0 < d * 10 ^ j := Nat.mul_pos d0 pj
            obtain ⟨K2, m2, hF2, g1, g2, gK, gK1, gK2, gm⟩ := int_word (d * 10 ^ j) d20 (by omega)
            have hNi := int_near (d * 10 ^ j) d20 (by omega)
            rw [hF2] at hNi
            have hR2 : R2 = K2 * 4503599627370496 + m2 := near_unique hN2 hNi
            have hle : K2 * 4503599627370496 + m2 ≤ 4831355200913801216 := by
              rcases Nat.lt_or_ge (d * 10 ^ j) 1000000000000000 with h | h
              · exact Nat.le_of_lt (near_mono15 hNi h)
              · have e : d * 10 ^ j = 1000000000000000 := by omega
                rw [e] at hNi
                exact Nat.le_of_eq (near_unique hNi near15)
            obtain ⟨R, hd, hN⟩ := mul_near (d * 10 ^ j) K2 m2 22 neg g1 g2 gK1 gK2 gm (by omega)
            rw [hR2] at hd2
            have tin2 := tests_in neg K2 m2 g1 g2 gK hle
            refine ⟨R, ?_, near_num_pos (by rw [Nat.pow_add, ← Nat.mul_assoc]; exact hN), ?_⟩
            · rw [← word_if]
              exact exact_big d _ neg _ _ j (tens.getD j 0) (tens.getD 22 0) _ _ w (by omega) tb to tc hG.c8 h15 hFi hneg hwf (by omega) (by omega) (by omega) (ht j _ (tens_at j (by omega))) (ht 22 _ (tens_at 22 (by omega))) hd2 hd tin2.1 tin2.2
            · have hh : d * 10 ^ j * 10 ^ 22 ≤ 1000000000000000 * 10 ^ 22 := Nat.mul_le_mul_right _ hbig
              have := near_top (by decide) hN (Nat.le_trans hh (by decide))
              omega
          · right
            obtain ⟨K2, m2, hF2, g1, g2⟩ := near_form (by decide) hN2
            have hj : 10 ^ j ≤ 10 ^ 15 := Nat.pow_le_pow_right (by decide) (by omega)
            have hup : d * 10 ^ j ≤ 1000000000000000 * 10 ^ 15 := Nat.mul_le_mul (by omega) hj
            have htop := near_top (by decide) hN2 (by omega)
            have hab := near_above15 hN2 (by omega)
            rw [hF2] at hd2 htop hab
            have tout := tests_out neg K2 m2 g1 g2 (by omega) hab
            exact ⟨.inl (by omega), _, exact_off d _ neg _ _ j (tens.getD j 0) _ w (by omega) tb to tc hG.c8 h15 hFi hneg hwf (by omega) (by omega) (by omega) (ht j _ (tens_at j (by omega))) hd2 tout.1 tout.2⟩
        · right
          exact ⟨.inl (by omega), _, exact_far d _ neg _ _ w (by omega) hG.c8 hFi hneg hwf (by omega)⟩
end Go.Proofs.YtmeimofnmpmaoaaGreatDoor
