/- The contract of mayBe: whether a path may be. Conditions: a path is a string. -/
import Derived.Test.YtkipcblbadkjnaaA
import Derived.BigQuiet
namespace Go.Proofs.Ytkipcblbadkjnaa
open Go.RowKit

/-- May a byte be in a path? -/
def okc (c : UInt8) : Bool := decide ((97 ≤ (c.toNat : Int) ∧ (c.toNat : Int) ≤ 122) ∨ (48 ≤ (c.toNat : Int) ∧ (c.toNat : Int) ≤ 57) ∨ (c.toNat : Int) = 46 ∨ (c.toNat : Int) = 47)
/-- May a path be? -/
def mb (s : ByteArray) : Bool := decide (1 ≤ s.size ∧ s.size ≤ 24) && s.data.toList.all okc
theorem take_snoc (s : ByteArray) (k : Nat) (h : k < s.size) : s.data.toList.take (k + 1) = s.data.toList.take k ++ [s[k]] := by
  rw [List.take_succ_eq_append_getElem (by simpa using h)]; rfl
theorem mb_no {s : ByteArray} {k : Nat} (hk : k < s.size) (h : okc s[k] = false) : mb s = false := by
  unfold mb
  have : s.data.toList.all okc = false := by
    rw [List.all_eq_false]
    exact ⟨s[k], by simp [ByteArray.getElem_eq_getElem_data], by simp [h]⟩
  simp [this]
theorem mb_short {s : ByteArray} (h : s.size < 1 ∨ 24 < s.size) : mb s = false := by
  unfold mb
  have : decide (1 ≤ s.size ∧ s.size ≤ 24) = false := by simp; omega
  simp [this]
theorem mb_yes {s : ByteArray} (h1 : 1 ≤ s.size) (h2 : s.size ≤ 24) (h : ∀ c ∈ s.data.toList.take s.size, okc c = true) : mb s = true := by
  unfold mb
  rw [List.take_of_length_le (by simp)] at h
  have : s.data.toList.all okc = true := List.all_eq_true.2 h
  simp [this, h1, h2]

set_option maxHeartbeats 1600000 in
theorem maybe_any (s : ByteArray) (w : World) (hs : s.size ≤ maxLen) :
    Calls Try.prog 52 #[.string s] w fun e w' => e = .returned (.bool (mb s)) ∧ w' = w := by
  unfold maxLen at hs
  by_cases h1 : s.size < 1
  · have h1' : (s.size : Int) < 1 := by omega
    have HB : Hid (mb s = false) := mb_short (.inl h1)
    go_enter Try.func52, Try.ntmps52
    go_wp2
    go_ret
    exact ⟨ret_bool HB.out.symm, rfl⟩
  by_cases h2 : 24 < s.size
  · have h1' : ¬ (s.size : Int) < 1 := by omega
    have h2' : 24 < (s.size : Int) := by omega
    have HB : Hid (mb s = false) := mb_short (.inr h2)
    go_enter Try.func52, Try.ntmps52
    go_wp2
    go_ret
    exact ⟨ret_bool HB.out.symm, rfl⟩
  have h1' : ¬ (s.size : Int) < 1 := by omega
  have h2' : ¬ 24 < (s.size : Int) := by omega
  go_enter Try.func52, Try.ntmps52
  go_wp2
  go_loopw [15] (fun i wr => ∃ k : Nat, k ≤ s.size ∧ i = .int .i64 (k : Int) ∧ wr = w ∧ Hid (∀ c ∈ s.data.toList.take k, okc c = true)) (fun i _ => s.size - (intOf i).toNat)
  case atStart => exact ⟨0, Nat.zero_le _, rfl, rfl, by show ∀ c ∈ _, _; simp⟩
  case round =>
    obtain ⟨k, hk, rfl, rfl, hall⟩ := hrel
    by_cases hlt : k < s.size
    · have hlt' : (k : Int) < s.size := by omega
      have hts := take_snoc s k hlt
      by_cases hc : okc s[k] = true
      · have HS : Hid (∀ c ∈ s.data.toList.take (k + 1), okc c = true) := by
          show ∀ c ∈ _, _
          rw [hts]; intro c hm
          rcases List.mem_append.1 hm with h | h
          · exact hall.out c h
          · rw [List.mem_singleton.1 h]; exact hc
        clear hts hall
        have hcc : (97 ≤ (s[k].toNat : Int) ∧ (s[k].toNat : Int) ≤ 122) ∨ (48 ≤ (s[k].toNat : Int) ∧ (s[k].toNat : Int) ≤ 57) ∨ (s[k].toNat : Int) = 46 ∨ (s[k].toNat : Int) = 47 := by simpa [okc] using hc
        clear hc
        go_wp2
        all_goals first
          | (exfalso; simp only [bne_iff_ne, ne_eq, bne_eq_false_iff_eq] at *; omega)
          | exact ⟨⟨k + 1, by omega, by go_num, trivial, HS⟩, by simp [intOf]; omega⟩
      · have HB : Hid (mb s = false) := mb_no hlt (by simpa using hc)
        have hcc : ¬ ((97 ≤ (s[k].toNat : Int) ∧ (s[k].toNat : Int) ≤ 122) ∨ (48 ≤ (s[k].toNat : Int) ∧ (s[k].toNat : Int) ≤ 57) ∨ (s[k].toNat : Int) = 46 ∨ (s[k].toNat : Int) = 47) := by simpa [okc] using hc
        clear hc hts
        go_wp2
        all_goals first
          | (exfalso; simp only [bne_iff_ne, ne_eq, bne_eq_false_iff_eq] at *; omega)
          | (go_ret; exact ⟨ret_bool HB.out.symm, rfl⟩)
    · have hlt' : ¬ (k : Int) < s.size := by omega
      obtain rfl : k = s.size := by omega
      have HB : Hid (mb s = true) := mb_yes (by omega) (by omega) hall.out
      go_wp2
      go_ret
      exact ⟨ret_bool HB.out.symm, rfl⟩
end Go.Proofs.Ytkipcblbadkjnaa
