/- The contract of parseFloat64. Conditions: a mantissa of at most fifty binary digits, the table of powers lies in memory. -/
import Derived.Test.YtmeimofnmpmaoaaGreatDoorV
import Derived.Handy
namespace Go.Proofs.YtmeimofnmpmaoaaGreatDoor
open Go.RowKit Go.Shelf

theorem len64_any (x b : Nat) (hx : x < 18446744073709551616) (hb : Hid (b = Lib.bitLen x)) (w : World) :
    Calls Tryz.prog 65 #[.int .u64 (x : Int)] w fun e w' => e = .returned (.int .i64 (b : Int)) ∧ w' = w := by
  have := Any.bits_Len64 Tryz.laysLen64 (x : Int) w (by omega) (by omega)
  rw [hb.out]; exact this

theorem bool2_v (b : Bool) (k : Int) (hk : Hid (k = if b then 1 else 0)) (w : World) :
    Calls Tryz.prog 74 #[.bool b] w fun e w' => e = .returned (.int .i64 k) ∧ w' = w := by
  have := Any.internal_strconv_bool2_int Tryz.laysBool2 b w
  rw [hk.out]; exact this

theorem prescale_any (e p lp : Int) (hi lo s : Nat) (w : World) (p0 : -348 ≤ p) (p1 : p ≤ 347) (lp0 : -2000 ≤ lp) (lp1 : lp ≤ 2000) (e0 : -4000 ≤ e) (e1 : e ≤ 4000) (hs : -(e + lp + 3) = (s : Int))
    (h9 : 9 < w.heap.size) (c0 : w.cell? ⟨9, (p + 348).toNat * 2, none⟩ = some (.int .u64 (hi : Int))) (c1 : w.cell? ⟨9, (p + 348).toNat * 2 + 1, none⟩ = some (.int .u64 (lo : Int))) :
    Calls Tryz.prog 90 #[.pointer (some ⟨w.heap.size, 0, none⟩), .int .i64 e, .int .i64 p, .int .i64 lp] (w.alloc (.cells #[.int .u64 0, .int .u64 0, .int .i64 0] 124))
      fun e w' => e = .returned (.tuple #[]) ∧ w' = w.alloc (.cells #[.int .u64 (hi : Int), .int .u64 (lo : Int), .int .i64 (s : Int)] 124) := by
  go_enter Tryz.func90, Tryz.ntmps90
  go_wp2
  go_end0
  exact ⟨rfl, rfl⟩

set_option maxRecDepth 20000 in
set_option maxHeartbeats 1000000 in
theorem parse_any (d b : Nat) (p lp e : Int) (x hi lo R k u' M r sg sw m : Nat) (w : World) (hd : d < 1125899906842624) (hsg : sg < 2)
    (hb : Hid (b = Lib.bitLen d)) (b0 : 1 ≤ b) (b1 : b ≤ 50) (p0 : -348 ≤ p) (p1 : p ≤ 347) (hlp : Hid (lp = p * 108853 / 32768)) (lp0 : -2000 ≤ lp) (lp1 : lp ≤ 2000)
    (he : Hid (e = 53 - (b : Int) - lp)) (he1 : e ≤ 1074) (hx : Hid (x = d * 2 ^ (64 - b))) (x1 : x < 18446744073709551616) (hhi : hi < 18446744073709551616) (hlo : lo < 18446744073709551616)
    (hH : 1 ≤ x * hi / 18446744073709551616) (hR : Hid (R = usc x hi lo 8)) (hRlt : R < 9223372036854775808)
    (hk : Hid (k = if 36028797018963966 ≤ R then 1 else 0)) (hu : Hid (u' = R / 2 ^ k ||| R % 2)) (hM : Hid (M = rnd u')) (M0 : 4503599627370496 ≤ M) (M1 : M < 9007199254740992)
    (ee0 : -1075 ≤ -(e - k)) (ee1 : -(e - k) < 971) (hsw : Hid (sw = sg * 9223372036854775808)) (hm : Hid (m = sg * 9223372036854775808 + M)) (hr : Hid ((r : Int) = sg * 9223372036854775808 + (M - 4503599627370496) + (1075 + -(e - k)) * 4503599627370496))
    (h9 : 9 < w.heap.size) (c0 : w.cell? ⟨9, (p + 348).toNat * 2, none⟩ = some (.int .u64 (hi : Int))) (c1 : w.cell? ⟨9, (p + 348).toNat * 2 + 1, none⟩ = some (.int .u64 (lo : Int))) :
    Calls Tryz.prog 119 #[.int .u64 (d : Int), .int .i64 p, .int .u64 (sw : Int)] w fun e w' => e = .returned (.tuple #[.float .f64 r, .nilIface]) ∧ Below w.heap.size w w' := by
  have hmin : min 1074 (53 - (b : Int) - lp) = e := by have := he.out; omega
  have hs8 : -(e - (64 - (b : Int)) + lp + 3) = 8 := by have := he.out; omega
  have e0 : -2500 ≤ e := by have := he.out; omega
  have hxw : IntKind.u64.wrap ((d : Int) * 2 ^ (64 - b)) = (x : Int) := by
    have : (d : Int) * 2 ^ (64 - b) = (x : Int) := by rw [hx.out]; simp
    rw [this]; exact wrap64 _ x1
  have d1 : w.heap.size < (w.alloc (.cells #[.int .u64 (hi : Int), .int .u64 (lo : Int), .int .i64 8] 124)).heap.size := by simp
  obtain ⟨t, ht⟩ : ∃ t, t = R % 2 := ⟨_, rfl⟩
  obtain ⟨g, hg⟩ : ∃ g, g = R / 2 ^ k := ⟨_, rfl⟩
  have ha1 : bits .and .u64 (R : Int) 1 = (t : Int) := by rw [ht]; exact and_one R (by omega)
  have hg1 : (R : Int) / 2 ^ k = (g : Int) := by rw [hg]; exact shr_nat R k
  have hgl : g ≤ R := by rw [hg]; exact Nat.div_le_self _ _
  have ho1 : bits .or .u64 (g : Int) (t : Int) = (u' : Int) := by rw [hu.out, ← hg, ← ht]; exact bits_or_u64_nat _ _ (by omega) (by omega)
  have hul : u' < 9223372036854775808 := by
    rw [hu.out, ← hg, ← ht]; exact Nat.or_lt_two_pow (n := 63) (by omega) (by omega)
  have ho2 : bits .or .u64 (sw : Int) (M : Int) = (m : Int) := by
    rw [hm.out, hsw.out]
    rw [bits_or_u64_nat _ _ (by omega) (by omega)]
    have h2 : sg * 9223372036854775808 = 2 ^ 63 * sg := by omega
    rw [h2, ← Nat.two_pow_add_eq_or_of_lt (show M < 2 ^ 63 by omega)]
  have hk2 : k < 2 := by rw [hk.out]; split <;> omega
  have kw : IntKind.i64.wrap (e - (k : Int)) = e - k := by rw [IntKind.wrap_i64]; omega
  have k0 : (0 : Int) ≤ (k : Int) := by omega
  have k1 : (k : Int) ≤ 64 := by omega
  have hkI : Hid ((k : Int) = if decide ((36028797018963966 : Int) ≤ (R : Int)) then 1 else 0) := by
    show (k : Int) = _
    rw [hk.out]; simp only [decide_eq_true_eq]; split <;> split <;> omega
  have bl : Below w.heap.size w (w.alloc (.cells #[.int .u64 (hi : Int), .int .u64 (lo : Int), .int .i64 8] 124)) := (Below.refl _ _).alloc (Nat.le_refl _) _
  clear hgl ht hg
  go_enter Tryz.func119, Tryz.ntmps119
  go_wp2_with fail
  refine (len64_any d b (by omega) hb _).mono ?_
  rintro e w' ⟨rfl, hw'⟩; rw [hw']; clear hw' w'
  go_wp2_with fail
  refine (log2_any p lp (by omega) (by omega) hlp _).mono ?_
  rintro e w' ⟨rfl, hw'⟩; rw [hw']; clear hw' w'
  go_wp2_with fail
  refine (prescale_any _ p lp hi lo 8 w (by omega) (by omega) (by omega) (by omega) (by omega) (by omega) hs8 h9 c0 c1).mono ?_
  rintro e w' ⟨rfl, rfl⟩
  go_wp2_with fail
  refine (uscale_any x hi lo 8 R hR _ x1 hhi hlo (by decide) hH w.heap.size 0 (by simp) (by simp) (by simp)).mono ?_
  rintro e w' ⟨rfl, n, hw'⟩; rw [hw']; clear hw' w'
  go_wp2_with fail
  refine (unmin_any _).mono ?_
  rintro e w' ⟨rfl, hw'⟩; rw [hw']; clear hw' w'
  go_wp2_with fail
  refine (bool2_v _ (k : Int) hkI _).mono ?_
  rintro e w' ⟨rfl, hw'⟩; rw [hw']; clear hw' w'
  go_wp2_with fail
  refine (round_any u' M hul hM _).mono ?_
  rintro e w' ⟨rfl, hw'⟩; rw [hw']; clear hw' w'
  go_wp2_with fail
  refine (pack_any sg M (-(e - k)) m r hsg M0 M1 ee0 ee1 hm hr _).mono ?_
  rintro e w' ⟨rfl, hw'⟩; rw [hw']; clear hw' w'
  go_wp2_with fail
  go_ret2
  exact ⟨rfl, bl.trans ⟨rfl, rfl, rfl, Nat.le_refl _, fun _ _ => rfl⟩⟩
end Go.Proofs.YtmeimofnmpmaoaaGreatDoor
