/- The contracts of few, and of the document's own One, All, Exact, Check. Conditions: those of each theorem. -/
import Derived.Test.YtejdpelolihpeaaG
namespace Go.Proofs.Ytejdpelolihpeaa
open Go.RowKit

/-- Each text's length fits. -/
abbrev WfL (ls : List Lb) : Prop := ∀ x ∈ ls, x.1.size ≤ maxLen ∧ x.2.size ≤ maxLen
def fw1 (x : Lb) : Bool := decide (x.1.size ≤ 50) && decide (x.2.size ≤ 50)
def ff1 (x : Ft) : Bool := decide (x.n.size ≤ 50) && decide (x.v.size ≤ 50)
def few (fs : List Ft) (ls : List Lb) : Bool := decide (fs.length ≤ 10) && decide (ls.length ≤ 10) && fs.all ff1 && ls.all fw1
theorem few_spec {fs : List Ft} {ls : List Lb} (h : few fs ls = true) : fs.length ≤ 10 ∧ ls.length ≤ 10 := by
  simp only [few, Bool.and_eq_true, decide_eq_true_eq] at h
  exact h.1.1
theorem few_notF {fs : List Ft} {ls : List Lb} {k : Nat} (hk : k < fs.length) (h : ff1 (fs.getD k f0) = false) : few fs ls = false := by
  rw [few, Bool.eq_false_iff]; intro h'
  simp only [Bool.and_eq_true, List.all_eq_true] at h'
  rw [h'.1.2 _ (getD_memF hk)] at h; cases h
theorem few_notL {fs : List Ft} {ls : List Lb} {k : Nat} (hk : k < ls.length) (h : fw1 (ls.getD k l0) = false) : few fs ls = false := by
  rw [few, Bool.eq_false_iff]; intro h'
  simp only [Bool.and_eq_true, List.all_eq_true] at h'
  rw [h'.2 _ (getD_memL hk)] at h; cases h

set_option maxHeartbeats 3200000 in
theorem few_any (a : Option Addr) (len cap : Nat) (fs : List Ft) (sa : Option Addr) (sl sc : Nat) (ls : List Lb) (w : World) (hI : IsF w a len cap fs) (hwf : WfF fs) (hL : IsL w sa sl sc ls) (hwl : WfL ls) :
    Calls Try.prog 9 #[.slice a len cap, .slice sa sl sc] w fun e w' => e = .returned (.bool (few fs ls)) ∧ w' = w := by
  have hm := hI.hm
  have hc := hI.hc
  have hm2 := hL.hm
  have hc2 := hL.hc
  unfold maxLen at hm hm2
  obtain ⟨b, hb⟩ : ∃ b, Hid (b = few fs ls) := ⟨_, rfl⟩
  rw [← hb.out]
  have HI : Hid ((IsF w a len cap fs ∧ WfF fs) ∧ IsL w sa sl sc ls ∧ WfL ls) := ⟨⟨hI, hwf⟩, hL, hwl⟩
  clear hI hwf hL hwl
  by_cases h1 : 10 < len
  · have h' : (10 : Int) < (len : Int) := by omega
    go_enter Try.func9, Try.ntmps9
    go_wp2
    go_ret
    refine ⟨ret_bool ?_, rfl⟩
    rw [hb.out, few, HI.out.1.1.hl]; simp; omega
  have h' : ¬ (10 : Int) < (len : Int) := by omega
  by_cases h2 : 10 < sl
  · have h2' : (10 : Int) < (sl : Int) := by omega
    go_enter Try.func9, Try.ntmps9
    go_wp2
    go_ret
    refine ⟨ret_bool ?_, rfl⟩
    rw [hb.out, few, HI.out.2.1.hl]; simp; omega
  have h2' : ¬ (10 : Int) < (sl : Int) := by omega
  go_enter Try.func9, Try.ntmps9
  go_wp2
  go_loop [5] (fun i => ∃ k : Nat, k ≤ len ∧ i = .int .i64 k ∧ Hid ((fs.take k).all ff1 = true)) (fun i => len - (intOf i).toNat)
  case atStart => exact ⟨0, Nat.zero_le _, rfl, (by simp : (fs.take 0).all ff1 = true)⟩
  case round =>
    obtain ⟨k, hk, rfl, HA⟩ := hrel
    by_cases hlt : k < len
    · have hlt' : (k : Int) < (len : Int) := by omega
      have hkl : k < fs.length := by rw [HI.out.1.1.hl]; exact hlt
      obtain ⟨g, off, rfl, hg, c0, c1, _, _⟩ := HI.out.1.1.rd.at hkl
      have hsz := HI.out.1.2 _ (getD_memF hkl)
      obtain ⟨x, hx⟩ : ∃ x, Hid (x = fs.getD k f0) := ⟨_, rfl⟩
      have HK : Hid (ff1 x = true → (fs.take (k + 1)).all ff1 = true) := fun h => by
        rw [take_snocF fs k hkl, ← hx.out]; simp [HA.out, h]
      have HF : Hid (ff1 x = false → few fs ls = false) := fun h => few_notF hkl (by rw [← hx.out]; exact h)
      rw [← hx.out] at c0 c1 hsz
      clear hkl
      obtain ⟨n, v, pp, tt⟩ := x
      simp only at c0 c1
      obtain ⟨hs1, hs2⟩ := hsz
      simp only at hs1 hs2
      unfold maxLen at hs1 hs2
      by_cases a1 : 50 < n.size
      · have a1' : (50 : Int) < (n.size : Int) := by omega
        go_wp2_with fail
        go_ret
        exact ⟨ret_bool (by rw [hb.out, HF.out (by simp [ff1]; omega)]), rfl⟩
      · have a1' : ¬ (50 : Int) < (n.size : Int) := by omega
        by_cases a2 : 50 < v.size
        · have a2' : (50 : Int) < (v.size : Int) := by omega
          go_wp2_with fail
          go_ret
          exact ⟨ret_bool (by rw [hb.out, HF.out (by simp [ff1]; omega)]), rfl⟩
        · have a2' : ¬ (50 : Int) < (v.size : Int) := by omega
          go_wp2_with fail
          go_round
          case rel => exact ⟨k + 1, by omega, by go_num, HK.out (by simp [ff1]; omega)⟩
          case measure => simp [intOf]; omega
    · have hlt' : ¬ (k : Int) < (len : Int) := by omega
      have HFa : Hid (fs.all ff1 = true) := by
        have := HA.out
        rw [List.take_of_length_le (by rw [HI.out.1.1.hl]; omega)] at this
        exact this
      clear HA
      go_wp2_with fail
      go_loop [6] (fun i => ∃ k : Nat, k ≤ sl ∧ i = .int .i64 k ∧ Hid ((ls.take k).all fw1 = true)) (fun i => sl - (intOf i).toNat)
      case atStart => exact ⟨0, Nat.zero_le _, rfl, (by simp : (ls.take 0).all fw1 = true)⟩
      case round =>
        obtain ⟨j, hj, rfl, HA⟩ := hrel
        by_cases hlt2 : j < sl
        · have hlt2' : (j : Int) < (sl : Int) := by omega
          have hkl : j < ls.length := by rw [HI.out.2.1.hl]; exact hlt2
          obtain ⟨g, off, rfl, hg, c0, c1⟩ := HI.out.2.1.rd.at hkl
          have hsz := HI.out.2.2 _ (getD_memL hkl)
          obtain ⟨x, hx⟩ : ∃ x, Hid (x = ls.getD j l0) := ⟨_, rfl⟩
          have HK : Hid (fw1 x = true → (ls.take (j + 1)).all fw1 = true) := fun h => by
            rw [take_snocL ls j hkl, ← hx.out]; simp [HA.out, h]
          have HF : Hid (fw1 x = false → few fs ls = false) := fun h => few_notL hkl (by rw [← hx.out]; exact h)
          rw [← hx.out] at c0 c1 hsz
          clear hkl
          obtain ⟨n, v⟩ := x
          simp only at c0 c1 hsz
          unfold maxLen at hsz
          obtain ⟨hs1, hs2⟩ := hsz
          by_cases a1 : 50 < n.size
          · have a1' : (50 : Int) < (n.size : Int) := by omega
            go_wp2_with fail
            go_ret
            exact ⟨ret_bool (by rw [hb.out, HF.out (by simp [fw1]; omega)]), rfl⟩
          · have a1' : ¬ (50 : Int) < (n.size : Int) := by omega
            by_cases a2 : 50 < v.size
            · have a2' : (50 : Int) < (v.size : Int) := by omega
              go_wp2_with fail
              go_ret
              exact ⟨ret_bool (by rw [hb.out, HF.out (by simp [fw1]; omega)]), rfl⟩
            · have a2' : ¬ (50 : Int) < (v.size : Int) := by omega
              go_wp2_with fail
              go_round
              case rel => exact ⟨j + 1, by omega, by go_num, HK.out (by simp [fw1]; omega)⟩
              case measure => simp [intOf]; omega
        · have hlt2' : ¬ (j : Int) < (sl : Int) := by omega
          go_wp2_with fail
          go_ret
          refine ⟨ret_bool ?_, rfl⟩
          have h5 := HA.out
          rw [List.take_of_length_le (by rw [HI.out.2.1.hl]; omega)] at h5
          rw [hb.out, few, h5, HFa.out, HI.out.1.1.hl, HI.out.2.1.hl]; simp; omega
end Go.Proofs.Ytejdpelolihpeaa
