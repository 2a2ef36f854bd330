/- The model's own rounding gives the nearest double's rung, for a number among the normal ones. -/
import Derived.Test.YtmeimofnmpmaoaaGreatDoorJ
import Ieee.Arith
namespace Go.Proofs.YtmeimofnmpmaoaaGreatDoor
namespace Fl

theorem cut_rq (neg : Bool) (n drop : Nat) (h : drop ≤ n.log2 + 2) : Ieee.Toward.even.cut neg n drop = rq n (2 ^ drop) := by
  unfold Ieee.Toward.cut rq
  rw [Nat.min_eq_left h, Nat.one_shiftLeft]
  simp only []
  congr 1
  by_cases h1 : 2 ^ drop < 2 * (n % 2 ^ drop)
  · simp [h1]
  · by_cases h2 : 2 * (n % 2 ^ drop) = 2 ^ drop
    · by_cases h3 : n / 2 ^ drop % 2 = 1
      · simp [h2, h3]
      · simp [h2, h3]
    · have h2' : ¬ 2 ^ drop = 2 * (n % 2 ^ drop) := fun e => h2 e.symm
      simp [h1, h2, h2']

theorem near_core {a b n m u v : Nat} (hb : 0 < b) (hm : 0 < m) (hr : a * 2 ^ v * m = n * (b * 2 ^ u)) (h1 : 2 ^ 52 * m ≤ n) (h2 : n < 2 ^ 53 * m) (hv : v ≤ u + 1074) : Near a b ((u + 1074 - v) * 2 ^ 52 + rq n m) := by
  have bu : 0 < b * 2 ^ u := Nat.mul_pos hb (Nat.two_pow_pos _)
  refine ⟨u, v, ?_, ?_, hv, by rw [rq_ratio bu hm hr]⟩
  · refine Nat.le_of_mul_le_mul_right (c := m) ?_ hm
    rw [hr]
    have := Nat.mul_le_mul_right (b * 2 ^ u) h1
    rwa [Nat.mul_right_comm] at this
  · refine Nat.lt_of_mul_lt_mul_right (a := m) ?_
    rw [hr]
    have := Nat.mul_lt_mul_of_pos_right h2 bu
    rwa [Nat.mul_right_comm] at this

/-- The rung of mag * 2 ^ place. -/
theorem nearest_near (neg : Bool) (mag : Nat) (place : Int) (hm : 0 < mag) (h0 : -1022 ≤ place + mag.log2) (h1 : place + mag.log2 ≤ 1000) :
    ∃ R, Ieee.double.nearest neg mag place = Ieee.double.word neg R ∧ Near (mag * 2 ^ place.toNat) (2 ^ (-place).toNat) R := by
  have hl1 := Nat.log2_self_le (Nat.pos_iff_ne_zero.1 hm)
  have hl2 := Nat.lt_log2_self (n := mag)
  obtain ⟨L, hL⟩ : ∃ L, L = mag.log2 := ⟨_, rfl⟩
  rw [← hL] at h0 h1 hl1 hl2
  obtain ⟨last, hlast⟩ : ∃ last : Int, last = place + L - 52 := ⟨_, rfl⟩
  have hmax : max (place + (mag.log2 : Int) - ((52 : Nat) : Int)) (-1074) = last := by rw [← hL, hlast]; omega
  have hleast : Ieee.double.leastPlace = -1074 := by decide
  have hfb : Ieee.double.fractionBits = 52 := rfl
  have hbin : Ieee.double.binade = 2 ^ 52 := rfl
  have hinf : Ieee.double.infRung = 2047 * 2 ^ 52 := by decide
  obtain ⟨sh, hsh⟩ : ∃ sh, sh = (place - last).toNat := ⟨_, rfl⟩
  obtain ⟨dr, hdr⟩ : ∃ dr, dr = (last - place).toNat := ⟨_, rfl⟩
  have hn : (mag <<< sh) = mag * 2 ^ sh := Nat.shiftLeft_eq _ _
  have hn0 : mag * 2 ^ sh ≠ 0 := Nat.mul_ne_zero (Nat.pos_iff_ne_zero.1 hm) (Nat.pos_iff_ne_zero.1 (Nat.two_pow_pos _))
  have hlog : dr ≤ (mag * 2 ^ sh).log2 + 2 := by
    have : 2 ^ L ≤ mag * 2 ^ sh := Nat.le_trans hl1 (Nat.le_mul_of_pos_right _ (Nat.two_pow_pos _))
    have := (Nat.le_log2 hn0).2 this
    omega
  have b1 : 2 ^ 52 * 2 ^ dr ≤ mag * 2 ^ sh := by
    rw [← Nat.pow_add]
    rcases Nat.le_total L 52 with h | h
    · have e1 : dr = 0 := by omega
      have e2 : sh = 52 - L := by omega
      rw [e1, e2]
      have := Nat.mul_le_mul_right (2 ^ (52 - L)) hl1
      rw [← Nat.pow_add, show L + (52 - L) = 52 by omega] at this
      exact this
    · have e1 : 52 + dr = L := by omega
      have e2 : sh = 0 := by omega
      rw [e1, e2]; simpa using hl1
  have b2 : mag * 2 ^ sh < 2 ^ 53 * 2 ^ dr := by
    rw [← Nat.pow_add]
    rcases Nat.le_total L 52 with h | h
    · have e1 : dr = 0 := by omega
      have e2 : sh = 52 - L := by omega
      rw [e1, e2]
      have := Nat.mul_lt_mul_of_pos_right hl2 (Nat.two_pow_pos (52 - L))
      rw [← Nat.pow_add, show L + 1 + (52 - L) = 53 by omega] at this
      exact this
    · have e1 : 53 + dr = L + 1 := by omega
      have e2 : sh = 0 := by omega
      rw [e1, e2]; simpa using hl2
  have hr : mag * 2 ^ place.toNat * 2 ^ (-last).toNat * 2 ^ dr = mag * 2 ^ sh * (2 ^ (-place).toNat * 2 ^ last.toNat) := by
    rw [Nat.mul_assoc, Nat.mul_assoc, Nat.mul_assoc, ← Nat.pow_add, ← Nat.pow_add, ← Nat.pow_add, ← Nat.pow_add]
    congr 2
    omega
  have hN := near_core (Nat.two_pow_pos _) (Nat.two_pow_pos _) hr b1 b2 (by omega)
  refine ⟨_, ?_, hN⟩
  have hk : rq (mag * 2 ^ sh) (2 ^ dr) ≤ 2 ^ 53 := by
    have r := rq_le (mag * 2 ^ sh) (2 ^ dr)
    rcases Nat.lt_or_ge (2 ^ 53) (rq (mag * 2 ^ sh) (2 ^ dr)) with h | h
    · have := Nat.mul_le_mul_left (2 ^ dr) h
      have p := Nat.two_pow_pos dr
      generalize rq (mag * 2 ^ sh) (2 ^ dr) = x at *
      generalize 2 ^ dr * x = z at *
      generalize mag * 2 ^ sh = y at *
      generalize 2 ^ dr = t at *
      omega
    · exact h
  unfold Ieee.Format.nearest
  rw [if_neg (Nat.pos_iff_ne_zero.1 hm)]
  simp only [hleast, hfb, hbin, hinf]
  rw [hmax, ← hsh, ← hdr, hn, cut_rq _ _ _ hlog]
  congr 1
  rw [show (last - -1074).toNat = last.toNat + 1074 - (-last).toNat by omega, Nat.min_eq_left]
  have : last.toNat + 1074 - (-last).toNat ≤ 2044 := by omega
  exact Nat.le_trans (Nat.add_le_add (Nat.mul_le_mul_right (2 ^ 52) this) hk) (by decide)
end Fl
end Go.Proofs.YtmeimofnmpmaoaaGreatDoor
