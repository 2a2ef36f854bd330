/- The contract of shortFloat at a number that is no power of two and not below the least exponent. Conditions: the table of powers lies in memory. -/
import Derived.Test.YtmeimofnmpmaoaaGreatDoorX
namespace Go.Proofs.YtmeimofnmpmaoaaGreatDoor
open Go.RowKit Go.Shelf

theorem log10_any (x r : Int) (h0 : -100000 ≤ x) (h1 : x ≤ 100000) (hr : Hid (r = x * 78913 / 262144)) (w : World) :
    Calls Tryz.prog 68 #[.int .i64 x] w fun e w' => e = .returned (.int .i64 r) ∧ w' = w := by
  have hw : IntKind.i64.wrap (x * 78913) = x * 78913 := by rw [IntKind.wrap_i64]; omega
  go_enter Tryz.func68, Tryz.ntmps68
  go_wp2
  go_ret
  refine ⟨?_, rfl⟩
  rw [hr.out]; rfl

theorem nudge_any (u : Nat) (d : Int) (r : Nat) (hr : Hid ((r : Int) = u + d)) (hu : u < 9223372036854775808) (h0 : -1 ≤ d) (h1 : d ≤ 1) (w : World) :
    Calls Tryz.prog 93 #[.int .u64 (u : Int), .int .i64 d] w fun e w' => e = .returned (.int .u64 (r : Int)) ∧ w' = w := by
  have hc : IntKind.u64.wrap ((u : Int) + IntKind.u64.wrap d) = (r : Int) := by rw [IntKind.wrap_u64, IntKind.wrap_u64]; have := hr.out; omega
  go_enter Tryz.func93, Tryz.ntmps93
  go_wp2
  go_ret
  exact ⟨rfl, rfl⟩

theorem ceil_any (u r : Nat) (hr : Hid (r = (u + 3) / 4)) (hu : u < 9223372036854775808) (w : World) :
    Calls Tryz.prog 94 #[.int .u64 (u : Int)] w fun e w' => e = .returned (.int .u64 (r : Int)) ∧ w' = w := by
  have hc : ((u : Int) + 3) / 4 = (r : Int) := by have := hr.out; omega
  go_enter Tryz.func94, Tryz.ntmps94
  go_wp2
  go_ret
  exact ⟨rfl, rfl⟩

theorem floor_any (u r : Nat) (hr : Hid (r = u / 4)) (hu : u < 9223372036854775808) (w : World) :
    Calls Tryz.prog 95 #[.int .u64 (u : Int)] w fun e w' => e = .returned (.int .u64 (r : Int)) ∧ w' = w := by
  have hc : (u : Int) / 4 = (r : Int) := by have := hr.out; omega
  go_enter Tryz.func95, Tryz.ntmps95
  go_wp2
  go_ret
  exact ⟨rfl, rfl⟩

theorem i64_and1 (n : Int) : bits .and .i64 n 1 = n % 2 := by
  have h1 : (BitVec.ofInt 64 1).toNat = 2 ^ 1 - 1 := by decide
  have key : (BitVec.ofInt 64 n &&& BitVec.ofInt 64 1).toNat = (n % ((2 ^ 64 : Nat) : Int)).toNat % 2 ^ 1 := by
    rw [BitVec.toNat_and, BitVec.toNat_ofInt, h1, Nat.and_two_pow_sub_one_eq_mod]
  show IntKind.i64.wrap ((BitVec.ofInt 64 n &&& BitVec.ofInt 64 1).toNat : Nat) = n % 2
  rw [key, IntKind.wrap_i64]
  omega

set_option maxRecDepth 20000 in
set_option maxHeartbeats 2000000 in
theorem short_b (m : Nat) (e p lp : Int) (x0 x1 hi lo s U0 U1 U2 od V0 V1 d0 d1 d : Nat) (w : World)
    (hm : m ≠ 9223372036854775808) (he : -1085 ≤ e) (he' : e ≤ 1000) (hp : Hid (-p = (e + 11) * 78913 / 262144)) (p0 : -348 ≤ p) (p1 : p ≤ 347) (hlp : Hid (lp = p * 108853 / 32768)) (lp0 : -2000 ≤ lp) (lp1 : lp ≤ 2000)
    (hs : -(e + lp + 3) = (s : Int)) (s1 : s < 64) (hx0 : Hid (m = x0 + 1024)) (hx1 : Hid (x1 = m + 1024)) (x0l : 1 ≤ x0) (x1u : x1 < 18446744073709551616)
    (hod : Hid (od = m / 2048 % 2)) (hhi : hi < 18446744073709551616) (hlo : lo < 18446744073709551616)
    (hH0 : 1 ≤ x0 * hi / 18446744073709551616) (hH1 : 1 ≤ x1 * hi / 18446744073709551616) (hH2 : 1 ≤ m * hi / 18446744073709551616)
    (hU0 : Hid (U0 = usc x0 hi lo s)) (hU1 : Hid (U1 = usc x1 hi lo s)) (u0 : U0 < 4611686018427387904) (u1 : U1 < 4611686018427387904) (u1' : 1 ≤ U1)
    (hV0 : Hid ((V0 : Int) = U0 + od)) (hV1 : Hid ((V1 : Int) = U1 + -(od : Int))) (hd0 : Hid (d0 = (V0 + 3) / 4)) (hd1 : Hid (d1 = V1 / 4)) (hd : Hid (d = d1 / 10))
    (h9 : 9 < w.heap.size) (c0 : w.cell? ⟨9, (p + 348).toNat * 2, none⟩ = some (.int .u64 (hi : Int))) (c1 : w.cell? ⟨9, (p + 348).toNat * 2 + 1, none⟩ = some (.int .u64 (lo : Int)))
    (R : Nat) (q : Int) (hR : (d0 ≤ d * 10 ∧ R = d ∧ q = -(p - 1)) ∨ (¬ d0 ≤ d * 10 ∧ ¬ d0 < d1 ∧ R = d0 ∧ q = -p) ∨ (¬ d0 ≤ d * 10 ∧ d0 < d1 ∧ Hid (U2 = usc m hi lo s) ∧ U2 < 4611686018427387904 ∧ Hid (R = rnd U2) ∧ q = -p)) :
    Calls Tryz.prog 73 #[.int .u64 (m : Int), .int .i64 e] w fun r w' => r = .returned (.tuple #[.int .u64 (R : Int), .int .i64 q]) ∧ Below w.heap.size w w' := by
  have hm' : ¬ (m : Int) = 9223372036854775808 := by omega
  have w1 : IntKind.u64.wrap ((m : Int) - 1024) = (x0 : Int) := by rw [IntKind.wrap_u64]; have := hx0.out; have := hx1.out; omega
  have w2 : IntKind.u64.wrap ((m : Int) + 1024) = (x1 : Int) := by rw [IntKind.wrap_u64]; have := hx1.out; omega
  obtain ⟨mo, hmo⟩ : ∃ mo, Hid (mo = m / 2048) := ⟨_, rfl⟩
  have w3 : (m : Int) / 2048 = (mo : Int) := by have := hmo.out; omega
  have mb : mo < 9007199254740992 := by have := hmo.out; have := hx1.out; omega
  have w4 : bits .and .i64 (mo : Int) 1 = (od : Int) := by
    rw [i64_and1, hod.out, hmo.out]; omega
  have odb : od < 2 := by have := hod.out; omega
  obtain ⟨lg, hlg⟩ : ∃ lg, Hid (lg = (e + 11) * 78913 / 262144) := ⟨_, rfl⟩
  have hlgp : -lg = p := by have := hp.out; have := hlg.out; omega
  obtain ⟨et, het⟩ : ∃ et, Hid (et = e) := ⟨_, rfl⟩
  have A : Below w.heap.size w (w.alloc (.cells #[.int .u64 (hi : Int), .int .u64 (lo : Int), .int .i64 (s : Int)] 124)) := (Below.refl _ _).alloc (Nat.le_refl _) _
  have D10 : (d1 : Int) / 10 = (d : Int) := by have := hd.out; omega
  have V1b : V1 < 4611686018427387904 := by have := hV1.out; omega
  have V0b : V0 < 4611686018427387905 := by have := hV0.out; omega
  have d1b : d1 < 4611686018427387904 := by have := hd1.out; omega
  have D10w : IntKind.u64.wrap ((d : Int) * 10) = (d : Int) * 10 := by rw [IntKind.wrap_u64]; have := hd.out; omega
  go_enter Tryz.func73, Tryz.ntmps73
  go_wp2_with fail
  refine (log10_any (e + 11) lg (by omega) (by omega) hlg _).mono ?_
  rintro r w' ⟨rfl, hw'⟩; rw [hw']; clear hw' w'
  go_wp2_with fail
  refine (log2_any p lp (by omega) (by omega) hlp _).mono ?_
  rintro r w' ⟨rfl, hw'⟩; rw [hw']; clear hw' w'
  go_wp2_with fail
  refine (prescale_any e p lp hi lo s w (by omega) (by omega) (by omega) (by omega) (by omega) (by omega) hs h9 c0 c1).mono ?_
  rintro r w' ⟨rfl, hw'⟩; rw [hw']; clear hw' w'
  go_wp2_with fail
  refine (uscale_any x0 hi lo s U0 hU0 _ (by have := hx0.out; have := hx1.out; omega) hhi hlo s1 hH0 w.heap.size 0 (by simp) (by simp) (by simp)).mono ?_
  rintro r w' ⟨rfl, n1, hw'⟩; rw [hw']; clear hw' w'
  go_wp2_with fail
  refine (nudge_any U0 (od : Int) V0 hV0 (by omega) (by omega) (by omega) _).mono ?_
  rintro r w' ⟨rfl, hw'⟩; rw [hw']; clear hw' w'
  go_wp2_with fail
  refine (ceil_any V0 d0 hd0 (by omega) _).mono ?_
  rintro r w' ⟨rfl, hw'⟩; rw [hw']; clear hw' w'
  go_wp2_with fail
  refine (uscale_any x1 hi lo s U1 hU1 _ x1u hhi hlo s1 hH1 w.heap.size 0 (by simp [go_sem]) (by simp [go_sem]) (by simp [go_sem])).mono ?_
  rintro r w' ⟨rfl, n2, hw'⟩; rw [hw']; clear hw' w'
  go_wp2_with fail
  refine (nudge_any U1 (-(od : Int)) V1 hV1 (by omega) (by omega) (by omega) _).mono ?_
  rintro r w' ⟨rfl, hw'⟩; rw [hw']; clear hw' w'
  go_wp2_with fail
  refine (floor_any V1 d1 hd1 (by omega) _).mono ?_
  rintro r w' ⟨rfl, hw'⟩; rw [hw']; clear hw' w'
  rcases hR with ⟨g1, rfl, rfl⟩ | ⟨g1, g2, rfl, rfl⟩ | ⟨g1, g2, g3, g4, g5, rfl⟩
  · have g1' : (d0 : Int) ≤ (R : Int) * 10 := by omega
    go_wp2_with fail
    go_ret2
    exact ⟨rfl, A.trans ⟨rfl, rfl, rfl, Nat.le_refl _, fun _ _ => rfl⟩⟩
  · have g1' : ¬ (R : Int) ≤ (d : Int) * 10 := by omega
    have g2' : ¬ (R : Int) < (d1 : Int) := by omega
    go_wp2_with fail
    go_ret2
    exact ⟨rfl, A.trans ⟨rfl, rfl, rfl, Nat.le_refl _, fun _ _ => rfl⟩⟩
  · have g1' : ¬ (d0 : Int) ≤ (d : Int) * 10 := by omega
    have g2' : (d0 : Int) < (d1 : Int) := by omega
    go_wp2_with fail
    refine (uscale_any m hi lo s U2 g3 _ (by have := hx1.out; omega) hhi hlo s1 hH2 w.heap.size 0 (by simp [go_sem]) (by simp [go_sem]) (by simp [go_sem])).mono ?_
    rintro r w' ⟨rfl, n3, hw'⟩; rw [hw']; clear hw' w'
    go_wp2_with fail
    refine (round_any U2 R (by omega) g5 _).mono ?_
    rintro r w' ⟨rfl, hw'⟩; rw [hw']; clear hw' w'
    go_wp2_with fail
    go_ret2
    exact ⟨rfl, A.trans ⟨rfl, rfl, rfl, Nat.le_refl _, fun _ _ => rfl⟩⟩
end Go.Proofs.YtmeimofnmpmaoaaGreatDoor
