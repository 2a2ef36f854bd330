/- The contracts of log2Pow10, round, unmin, pack64. Conditions: the arguments fit. -/
import Derived.Test.YtmeimofnmpmaoaaGreatDoorU
import Derived.Laws.Externs
namespace Go.Proofs.YtmeimofnmpmaoaaGreatDoor
open Go.RowKit Go.Shelf

theorem log2_any (x r : Int) (h0 : -100000 ≤ x) (h1 : x ≤ 100000) (hr : Hid (r = x * 108853 / 32768)) (w : World) :
    Calls Tryz.prog 91 #[.int .i64 x] w fun e w' => e = .returned (.int .i64 r) ∧ w' = w := by
  have hw : IntKind.i64.wrap (x * 108853) = x * 108853 := by rw [IntKind.wrap_i64]; omega
  go_enter Tryz.func91, Tryz.ntmps91
  go_wp2
  go_ret
  refine ⟨?_, rfl⟩
  rw [hr.out]; rfl

/-- An unrounded number rounded. -/
def rnd (u : Nat) : Nat := (u + 1 + u / 4 % 2) / 4

theorem and_one (n : Nat) (h : n < 18446744073709551616) : bits .and .u64 (n : Int) 1 = ((n % 2 : Nat) : Int) := by
  have := bits_and_u64_nat n 1 h (by decide)
  rw [Nat.and_one_is_mod] at this
  exact this

theorem round_any (u r : Nat) (hu : u < 9223372036854775808) (hr : Hid (r = rnd u)) (w : World) :
    Calls Tryz.prog 96 #[.int .u64 (u : Int)] w fun e w' => e = .returned (.int .u64 (r : Int)) ∧ w' = w := by
  obtain ⟨q, hq⟩ : ∃ q, q = u / 4 := ⟨_, rfl⟩
  obtain ⟨t, ht⟩ : ∃ t, t = q % 2 := ⟨_, rfl⟩
  have e1 : (u : Int) / 4 = (q : Int) := by omega
  have e2 : bits .and .u64 (q : Int) 1 = (t : Int) := by rw [ht]; exact and_one q (by omega)
  have e3 : IntKind.u64.wrap ((u : Int) + 1) = (u : Int) + 1 := by rw [IntKind.wrap_u64]; omega
  have e4 : IntKind.u64.wrap ((u : Int) + 1 + (t : Int)) = (u : Int) + 1 + (t : Int) := by rw [IntKind.wrap_u64]; omega
  have e5 : ((u : Int) + 1 + (t : Int)) / 4 = (r : Int) := by rw [hr.out]; unfold rnd; omega
  clear hq ht
  go_enter Tryz.func96, Tryz.ntmps96
  go_wp2
  go_ret
  exact ⟨rfl, rfl⟩

theorem unmin_any (w : World) :
    Calls Tryz.prog 97 #[.int .u64 9007199254740992] w fun e w' => e = .returned (.int .u64 36028797018963966) ∧ w' = w := by
  go_enter Tryz.func97, Tryz.ntmps97
  go_wp2
  go_ret
  exact ⟨rfl, rfl⟩

theorem andNot_u64_nat (a b c : Nat) (ha : a < 18446744073709551616) (hb : b < 18446744073709551616) (hc : c < 18446744073709551616) (h : ∀ i, c.testBit i = (a.testBit i && !b.testBit i)) :
    bits .andNot .u64 (a : Int) (b : Int) = (c : Int) := by
  have h1 : (BitVec.ofInt 64 (a : Int)).toNat = a := by
    rw [BitVec.ofInt_natCast, BitVec.toNat_ofNat]; exact Nat.mod_eq_of_lt (by omega)
  have h2 : (BitVec.ofInt 64 (b : Int)).toNat = b := by
    rw [BitVec.ofInt_natCast, BitVec.toNat_ofNat]; exact Nat.mod_eq_of_lt (by omega)
  show IntKind.u64.wrap ((BitVec.ofInt 64 (a : Int) &&& ~~~ BitVec.ofInt 64 (b : Int)).toNat : Int) = _
  have : (BitVec.ofInt 64 (a : Int) &&& ~~~ BitVec.ofInt 64 (b : Int)).toNat = c := by
    apply Nat.eq_of_testBit_eq
    intro i
    rw [h i, BitVec.toNat_and, Nat.testBit_and, h1, BitVec.testBit_toNat, BitVec.getLsbD_not, ← BitVec.testBit_toNat, h2]
    by_cases hi : i < 64
    · simp [hi]
    · have : a.testBit i = false := Nat.testBit_lt_two_pow (Nat.lt_of_lt_of_le ha (Nat.pow_le_pow_right (by decide) (by omega) : 2 ^ 64 ≤ 2 ^ i))
      simp [this]
  rw [this, IntKind.wrap_u64]
  omega

theorem clear52 (q r : Nat) (hr : r < 4503599627370496) (i : Nat) : (9007199254740992 * q + r).testBit i = ((9007199254740992 * q + (4503599627370496 + r)).testBit i && !(4503599627370496 : Nat).testBit i) := by
  have e1 := Nat.testBit_two_pow_mul_add (i := 53) q (b := r) (by omega) i
  have e2 := Nat.testBit_two_pow_mul_add (i := 53) q (b := 4503599627370496 + r) (by omega) i
  have e3 := Nat.testBit_two_pow_mul_add (i := 52) 1 (b := r) (by omega) i
  have e4 := Nat.testBit_two_pow (n := 52) (m := i)
  simp only [show (2 : Nat) ^ 53 = 9007199254740992 from rfl, show (2 : Nat) ^ 52 = 4503599627370496 from rfl, Nat.mul_one] at e1 e2 e3 e4
  rw [e1, e2, e3, e4]
  by_cases h1 : i < 53
  · by_cases h2 : i < 52
    · have : ¬ 52 = i := by omega
      simp [h1, h2, this]
    · obtain rfl : i = 52 := by omega
      have : r.testBit 52 = false := Nat.testBit_lt_two_pow (by omega)
      simp [this]
  · have : ¬ 52 = i := by omega
    simp [h1, this]

theorem frombits_run (n : Int) (w : World) : (callFunc 117 #[.int .u64 n]).run Tryz.prog w = .ok (.value (.float .f64 n.toNat)) w := by
  rw [run_callFunc_extern (e := Extern.MathFloatBits.float64frombits) Tryz.func117 (by kernel_rfl) (by kernel_rfl) (by kernel_rfl) (by kernel_rfl)]
  rfl
attribute [local go_sem] frombits_run

set_option maxRecDepth 20000 in
theorem pack_any (sg M : Nat) (e : Int) (m r : Nat) (hsg : sg < 2) (h0 : 4503599627370496 ≤ M) (h1 : M < 9007199254740992) (e0 : -1075 ≤ e) (e1 : e < 971)
    (hm : Hid (m = sg * 9223372036854775808 + M)) (hr : Hid ((r : Int) = sg * 9223372036854775808 + (M - 4503599627370496) + (1075 + e) * 4503599627370496)) (w : World) :
    Calls Tryz.prog 131 #[.int .u64 (m : Int), .int .i64 e] w fun e w' => e = .returned (.tuple #[.float .f64 r, .nilIface]) ∧ w' = w := by
  obtain ⟨ex, hex⟩ : ∃ ex : Nat, (ex : Int) = 1075 + e := ⟨(1075 + e).toNat, by omega⟩
  obtain ⟨c, hc⟩ : ∃ c, c = sg * 9223372036854775808 + (M - 4503599627370496) := ⟨_, rfl⟩
  have hm' := hm.out
  have hr' := hr.out
  have cm : c = 9007199254740992 * (sg * 1024) + (M - 4503599627370496) := by omega
  have mm : m = 9007199254740992 * (sg * 1024) + (4503599627370496 + (M - 4503599627370496)) := by omega
  have tb : ∀ i, c.testBit i = (m.testBit i && !(4503599627370496 : Nat).testBit i) := by
    rw [cm, mm]; exact clear52 _ _ (by omega)
  have f1 : bits .andNot .u64 (m : Int) 4503599627370496 = (c : Int) := andNot_u64_nat m 4503599627370496 c (by omega) (by decide) (by omega) tb
  have f2 : bits .and .u64 (m : Int) 4503599627370496 = 4503599627370496 := by
    have := bits_and_u64_nat m 4503599627370496 (by omega) (by decide)
    have tm : m.testBit 52 = true := by
      rw [mm, show (9007199254740992 : Nat) = 2 ^ 53 from rfl, Nat.testBit_two_pow_mul_add _ (by omega), if_pos (by decide), show (4503599627370496 : Nat) = 2 ^ 52 * 1 from rfl, Nat.testBit_two_pow_mul_add _ (by omega), if_neg (by decide)]
      rfl
    have an : m &&& 4503599627370496 = 4503599627370496 := by
      apply Nat.eq_of_testBit_eq
      intro i
      have e4 := Nat.testBit_two_pow (n := 52) (m := i)
      simp only [show (2 : Nat) ^ 52 = 4503599627370496 from rfl] at e4
      rw [Nat.testBit_and, e4]
      by_cases h : 52 = i
      · subst h; simp [tm]
      · simp [h]
    rw [an] at this
    exact this
  have f3 : IntKind.i64.wrap (1075 + e) = (ex : Int) := by rw [IntKind.wrap_i64]; omega
  obtain ⟨E, hE⟩ : ∃ E, E = ex * 4503599627370496 := ⟨_, rfl⟩
  have f4 : IntKind.u64.wrap ((ex : Int) * 4503599627370496) = (E : Int) := by rw [IntKind.wrap_u64]; omega
  have f5 : bits .or .u64 (c : Int) (E : Int) = (r : Int) := by
    rw [bits_or_u64_nat c E (by omega) (by omega)]
    have e1 : E = 2 ^ 52 * ex := by omega
    have hsg' : sg = 0 ∨ sg = 1 := by omega
    rcases hsg' with rfl | rfl
    · rw [Nat.or_comm, e1, ← Nat.two_pow_add_eq_or_of_lt (show c < 2 ^ 52 by omega)]; omega
    · have e2 : c = 2 ^ 63 * 1 ||| (M - 4503599627370496) := by rw [← Nat.two_pow_add_eq_or_of_lt (show M - 4503599627370496 < 2 ^ 63 by omega)]; omega
      rw [e2, Nat.or_assoc, Nat.or_comm (M - 4503599627370496), e1, ← Nat.two_pow_add_eq_or_of_lt (show M - 4503599627370496 < 2 ^ 52 by omega), ← Nat.two_pow_add_eq_or_of_lt (show 2 ^ 52 * ex + (M - 4503599627370496) < 2 ^ 63 by omega)]; omega
  have n1 : ¬ e ≥ 972 := by omega
  have n2 : (ex : Int) ≤ 18446744073709551615 := by omega
  have f6 : IntKind.u64.wrap (ex : Int) = (ex : Int) := by rw [IntKind.wrap_u64]; omega
  clear hm' hr' cm mm tb hc hE hex e0 e1 h0 h1 hm hr
  have hrt : ((r : Int)).toNat = r := rfl
  generalize (m : Int) = mI at *
  generalize (c : Int) = cI at *
  generalize (E : Int) = EI at *
  generalize (ex : Int) = exI at *
  generalize (r : Int) = rI at *
  go_enter Tryz.func131, Tryz.ntmps131
  go_wp2
  go_ret2
  exact ⟨rfl, rfl⟩
end Go.Proofs.YtmeimofnmpmaoaaGreatDoor
