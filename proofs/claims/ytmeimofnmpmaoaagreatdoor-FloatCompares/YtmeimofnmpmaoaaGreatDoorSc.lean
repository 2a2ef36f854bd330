/- parseFloat64 answers the nearest double. Conditions: a mantissa of at most fifteen digits, an exponent from -300 to -23 or from 23 to 290, the table of powers lies in memory. -/
import Derived.Test.YtmeimofnmpmaoaaGreatDoorX
import Derived.Test.YtmeimofnmpmaoaaGreatDoorW
import Derived.Test.YtmeimofnmpmaoaaGreatDoorY
import Derived.Test.YtmeimofnmpmaoaaGreatDoorJ
import Derived.Test.YtmeimofnmpmaoaaGreatDoorI
import Derived.Test.YtmeimofnmpmaoaaGreatDoorAa
import Derived.Lib.BitFns
namespace Go.Proofs.YtmeimofnmpmaoaaGreatDoor
open Go.RowKit Go.Shelf Fl

theorem bitLen_log (d : Nat) (h0 : 0 < d) (h1 : d < 2 ^ 64) : Lib.bitLen d = d.log2 + 1 := by
  have a := Nat.log2_self_le (Nat.pos_iff_ne_zero.1 h0)
  have b := Nat.lt_log2_self (n := d)
  rw [Lib.bitLen_shift d.log2 d a h1]
  have e : d / 2 ^ d.log2 = 1 := Nat.div_eq_of_lt_le (by omega) (by rw [Nat.pow_succ] at b; omega)
  rw [e]; rfl

theorem scale_core (d : Nat) (p lp : Int) (A B hi lo : Nat) (hpw : Pow (p + 348).toNat A B hi lo) (p0 : -348 ≤ p) (p1 : p ≤ 347) (hlp : Hid (lp = p * 108853 / 32768)) (l0 : -1000 ≤ lp) (l1 : lp ≤ 965) (d0 : 0 < d) (d1 : d < 1125899906842624)
    (aN bN : Nat) (hbN : 0 < bN) (hratio : ∀ u v : Nat, (v : Int) - u = 52 - (d.log2 : Int) - lp → aN * 2 ^ v * (4 * (340282366920938463463374607431768211456 * 2 ^ 8 * B)) = d * 2 ^ (63 - d.log2) * A * (bN * 2 ^ u)) (w : World) (hG : Ground w) (neg : Bool) :
    ∃ R, Calls Tryz.prog 119 #[.int .u64 (d : Int), .int .i64 p, .int .u64 (((if neg then 1 else 0) * 9223372036854775808 : Nat) : Int)] w (fun e w' => e = .returned (.tuple #[.float .f64 ((if neg then 1 else 0) * 9223372036854775808 + R), .nilIface]) ∧ Below w.heap.size w w') ∧ Near aN bN R ∧ R < 9223372036854775808 := by
  have g1 := Nat.log2_self_le (Nat.pos_iff_ne_zero.1 d0)
  have g2 := Nat.lt_log2_self (n := d)
  obtain ⟨L, hL⟩ : ∃ L, L = d.log2 := ⟨_, rfl⟩
  rw [← hL] at g1 g2 hratio
  have hL50 : L < 50 := by rw [hL]; exact log2_lt_of (by omega) (by omega)
  obtain ⟨x, hx⟩ : ∃ x, x = d * 2 ^ (63 - L) := ⟨_, rfl⟩
  obtain ⟨D, hD⟩ : ∃ D, D = d * 2 ^ (49 - L) := ⟨_, rfl⟩
  have xD : x = D * 16384 := by
    rw [hx, hD, Nat.mul_assoc, show (16384 : Nat) = 2 ^ 14 from rfl, ← Nat.pow_add, show 49 - L + 14 = 63 - L by omega]
  have D0 : 2 ^ 49 ≤ D := by
    have := Nat.mul_le_mul_right (2 ^ (49 - L)) g1
    rw [← Nat.pow_add, show L + (49 - L) = 49 by omega] at this
    rw [hD]; exact this
  have D1 : D < 2 ^ 50 := by
    have := Nat.mul_lt_mul_of_pos_right g2 (Nat.two_pow_pos (49 - L))
    rw [← Nat.pow_add, show L + 1 + (49 - L) = 50 by omega] at this
    rw [hD]; exact this
  have B0 := hpw.pos
  obtain ⟨Dn, hDn⟩ : ∃ Dn, Dn = 340282366920938463463374607431768211456 * 2 ^ 8 * B := ⟨_, rfl⟩
  have Dn0 : 0 < Dn := by rw [hDn]; exact Nat.mul_pos (by decide) B0
  have a1 := hpw.a1
  have a2 := hpw.a2
  have pp1 := hpw.p1
  have hle := hpw.le
  have t1 : 18014398509481984 * Dn ≤ x * A := by
    have h1 : 9223372036854775808 * (170141183460469231731687303715884105728 * B) ≤ x * A := Nat.mul_le_mul (by omega) (by simpa using a1)
    have e : 18014398509481984 * Dn = 9223372036854775808 * (170141183460469231731687303715884105728 * B) := by rw [hDn]; omega
    omega
  have t2 : x * A < 72057594037927872 * Dn := by
    have h1 : x * A < x * (340282366920938463463374607431768211456 * B) := Nat.mul_lt_mul_of_pos_left (by simpa using a2) (by omega)
    have h2 : x * (340282366920938463463374607431768211456 * B) ≤ 18446744073709535232 * (340282366920938463463374607431768211456 * B) := Nat.mul_le_mul_right _ (by omega)
    have e : 72057594037927872 * Dn = 18446744073709535232 * (340282366920938463463374607431768211456 * B) := by rw [hDn]; omega
    omega
  have q1 : 18014398509481984 ≤ x * A / Dn := (Nat.le_div_iff_mul_le Dn0).2 t1
  have q2 : x * A / Dn < 72057594037927872 := (Nat.div_lt_iff_lt_mul Dn0).2 t2
  have hhi : 9223372036854775808 ≤ hi := by
    have h1 : 2 ^ 127 * B ≤ (hi * 18446744073709551616 - lo) * B := Nat.le_trans a1 pp1
    have h2 := Nat.le_of_mul_le_mul_right h1 B0
    omega
  have hH : 1 ≤ x * hi / 18446744073709551616 := by
    rw [Nat.le_div_iff_mul_le (by decide)]
    have : 9223372036854775808 * 9223372036854775808 ≤ x * hi := Nat.mul_le_mul (by omega) hhi
    omega
  have hgap : Gap (x * A) (340282366920938463463374607431768211456 * 2 ^ 8 * B) B ((hi * 18446744073709551616 - lo) * B = A) := by
    intro N; rw [xD]; exact hpw.gap D N D0 D1
  have husc : usc x hi lo 8 = unr (x * A) Dn := by
    rw [usc_ok x hi lo 8 A B _ (by omega) hpw.lo64 hle rfl pp1 hpw.p2 B0 (by omega) hH hgap, hDn]; rfl
  have hu2 : unr (x * A) Dn < 72057594037927932 := by rw [unr_eq]; split <;> omega
  obtain ⟨k, hk⟩ : ∃ k, k = if 36028797018963966 ≤ unr (x * A) Dn then 1 else 0 := ⟨_, rfl⟩
  obtain ⟨M, hM⟩ : ∃ M, M = ((unr (x * A) Dn / 2 ^ k ||| unr (x * A) Dn % 2) + 1 + (unr (x * A) Dn / 2 ^ k ||| unr (x * A) Dn % 2) / 4 % 2) / 4 := ⟨_, rfl⟩
  obtain ⟨M0, M1, hKM⟩ := mant_ok (x * A) Dn k M Dn0 q1 hu2 hk hM
  have k2 : k < 2 := by rw [hk]; split <;> omega
  obtain ⟨e, he⟩ : ∃ e : Int, e = 53 - ((L + 1 : Nat) : Int) - lp := ⟨_, rfl⟩
  have hN := near_of (a := aN) (b := bN) (u := (-e).toNat) (v := e.toNat) hbN Dn0 q1 (by omega) (by rw [hDn, hx]; exact hratio _ _ (by omega)) (by omega) hKM
  obtain ⟨R, hR⟩ : ∃ R, R = ((-e).toNat + 1074 - e.toNat) * 2 ^ 52 + (k * 4503599627370496 + M) := ⟨_, rfl⟩
  rw [← hR] at hN
  have hRI : (R : Int) = (1074 - e) * 4503599627370496 + k * 4503599627370496 + M := by
    obtain ⟨Z, hZ⟩ : ∃ Z, Z = (-e).toNat + 1074 - e.toNat := ⟨_, rfl⟩
    have e9 : (Z : Int) = 1074 - e := by omega
    rw [← hZ, show (2 : Nat) ^ 52 = 4503599627370496 from rfl] at hR
    omega
  refine ⟨R, ?_, hN, by omega⟩
  have hrow := hG.c9 _ _ _ hpw.row
  have sg2 : (if neg then 1 else 0 : Nat) < 2 := by split <;> omega
  generalize (if neg then 1 else 0 : Nat) = sg at sg2 ⊢
  exact parse_any d (L + 1) p lp e x hi lo (unr (x * A) Dn) k _ M _ sg _ _ w d1 sg2 (show _ = _ by rw [hL]; exact (bitLen_log d d0 (by omega)).symm) (by omega) (by omega) p0 p1 hlp (by omega) (by omega) he (by omega)
    (show _ = _ by rw [hx]; congr 2; omega) (by omega) hpw.hi64 hpw.lo64 hH husc.symm (by omega) hk rfl hM M0 M1 (by omega) (by omega) rfl rfl (show _ = _ by omega) (by have := hG.size; omega) hrow.1 hrow.2

/-- A number as a fraction with the denominator 10 ^ q: mantissa and exponent. -/
abbrev num (q d : Nat) (p : Int) : Nat := d * 10 ^ (p + q).toNat

theorem near_num_pos {q d n R : Nat} (h : Near (d * 10 ^ n) 1 R) : Near (num q d n) (10 ^ q) R := by
  refine near_ratio (by decide) (Nat.pow_pos (by decide)) h ?_
  rw [Nat.mul_one, num, show ((n : Int) + q).toNat = n + q by omega, Nat.pow_add, Nat.mul_assoc]
theorem near_num_neg {q d n R : Nat} (hn : n ≤ q) (h : Near d (10 ^ n) R) : Near (num q d (-(n : Int))) (10 ^ q) R := by
  refine near_ratio (Nat.pow_pos (by decide)) (Nat.pow_pos (by decide)) h ?_
  rw [num, show (-(n : Int) + q).toNat = q - n by omega, Nat.mul_assoc, ← Nat.pow_add, show q - n + n = q by omega]

theorem scale_road (q : Nat) (hq : 300 ≤ q) (d : Nat) (p : Int) (d0 : 0 < d) (d1 : d < 1000000000000000) (hp : (23 ≤ p ∧ p ≤ 290) ∨ (-300 ≤ p ∧ p ≤ -23)) (w : World) (hG : Ground w) (neg : Bool) :
    ∃ R, Calls Tryz.prog 119 #[.int .u64 (d : Int), .int .i64 p, .int .u64 (((if neg then 1 else 0) * 9223372036854775808 : Nat) : Int)] w (fun e w' => e = .returned (.tuple #[.float .f64 ((if neg then 1 else 0) * 9223372036854775808 + R), .nilIface]) ∧ Below w.heap.size w w') ∧ Near (num q d p) (10 ^ q) R ∧ R < 9223372036854775808 := by
  rcases hp with ⟨h0, h1⟩ | ⟨h0, h1⟩
  · obtain ⟨n, rfl⟩ : ∃ n : Nat, p = (n : Int) := ⟨p.toNat, by omega⟩
    obtain ⟨hi, lo, hpw⟩ : ∃ hi lo, Pow (n + 348) (10 ^ n * 2 ^ 127) (2 ^ lpos n) hi lo := by
      rcases Nat.lt_or_ge n 24 with h | h
      · obtain rfl : n = 23 := by omega
        exact ⟨_, _, pow_23⟩
      · exact pow_pos n h (by omega)
    have hlp : ((lpos n : Nat) : Int) = (n : Int) * 108853 / 32768 := by unfold lpos; omega
    obtain ⟨R, hc, hN, hR⟩ := scale_core d n (lpos n : Nat) _ _ hi lo (by rw [show ((n : Int) + 348).toNat = n + 348 by omega]; exact hpw) (by omega) (by omega) hlp (by omega) (by omega) d0 (by omega) (d * 10 ^ n) 1 (by decide)
      (fun u v huv => by
        have hL : d.log2 < 50 := log2_lt_of (by omega) (by omega)
        rw [show (340282366920938463463374607431768211456 : Nat) = 2 ^ 128 from by decide, show (4 : Nat) = 2 ^ 2 from rfl, Nat.one_mul]
        have e1 : d * 10 ^ n * 2 ^ v * (2 ^ 2 * (2 ^ 128 * 2 ^ 8 * 2 ^ lpos n)) = d * 10 ^ n * 2 ^ (v + 138 + lpos n) := by
          rw [Nat.pow_add, Nat.pow_add]
          have : (2 : Nat) ^ 138 = 2 ^ 2 * (2 ^ 128 * 2 ^ 8) := by decide
          rw [this]; generalize 2 ^ v = a; generalize 2 ^ lpos n = b; generalize (2 : Nat) ^ 128 = c; generalize (2 : Nat) ^ 8 = f; generalize (2 : Nat) ^ 2 = g; generalize 10 ^ n = z; grind
        have e2 : d * 2 ^ (63 - d.log2) * (10 ^ n * 2 ^ 127) * 2 ^ u = d * 10 ^ n * 2 ^ (63 - d.log2 + 127 + u) := by
          rw [Nat.pow_add, Nat.pow_add]; generalize 2 ^ (63 - d.log2) = a; generalize (2 : Nat) ^ 127 = b; generalize 2 ^ u = c; generalize 10 ^ n = z; grind
        rw [e1, e2]; congr 2; omega) w hG neg
    exact ⟨R, hc, near_num_pos hN, hR⟩
  · obtain ⟨n, rfl⟩ : ∃ n : Nat, p = -(n : Int) := ⟨(-p).toNat, by omega⟩
    obtain ⟨hi, lo, hpw⟩ := pow_neg n (by omega) (by omega)
    have hlp : -((lneg n : Nat) : Int) = -(n : Int) * 108853 / 32768 := by unfold lneg; omega
    have hln : lneg n ≤ 997 := by unfold lneg; omega
    obtain ⟨R, hc, hN, hR⟩ := scale_core d (-(n : Int)) (-((lneg n : Nat) : Int)) _ _ hi lo (by rw [show (-(n : Int) + 348).toNat = 348 - n by omega]; exact hpw) (by omega) (by omega) hlp (by omega) (by omega) d0 (by omega) d (10 ^ n) (Nat.pow_pos (by decide))
      (fun u v huv => by
        have hL : d.log2 < 50 := log2_lt_of (by omega) (by omega)
        rw [show (340282366920938463463374607431768211456 : Nat) = 2 ^ 128 from by decide, show (4 : Nat) = 2 ^ 2 from rfl]
        have e1 : d * 2 ^ v * (2 ^ 2 * (2 ^ 128 * 2 ^ 8 * 10 ^ n)) = d * 10 ^ n * 2 ^ (v + 138) := by
          rw [Nat.pow_add]
          have : (2 : Nat) ^ 138 = 2 ^ 2 * (2 ^ 128 * 2 ^ 8) := by decide
          rw [this]; generalize 2 ^ v = a; generalize (2 : Nat) ^ 128 = c; generalize (2 : Nat) ^ 8 = f; generalize (2 : Nat) ^ 2 = g; generalize 10 ^ n = z; grind
        have e2 : d * 2 ^ (63 - d.log2) * 2 ^ (127 + lneg n) * (10 ^ n * 2 ^ u) = d * 10 ^ n * 2 ^ (63 - d.log2 + (127 + lneg n) + u) := by
          rw [Nat.pow_add 2 (63 - d.log2 + (127 + lneg n)) u, Nat.pow_add 2 (63 - d.log2) (127 + lneg n)]; generalize 2 ^ (63 - d.log2) = a; generalize 2 ^ (127 + lneg n) = b; generalize 2 ^ u = c; generalize 10 ^ n = z; grind
        rw [e1, e2]; congr 2; omega) w hG neg
    exact ⟨R, hc, near_num_neg (by omega) hN, hR⟩
end Go.Proofs.YtmeimofnmpmaoaaGreatDoor
