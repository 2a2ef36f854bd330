/- The contracts of ofName, Name, mayBe, few, Get, and of the document's own Name, Get, Same. Conditions: those of each theorem. -/
import Derived.Test.YthklkhdcmoonkaaC
namespace Go.Proofs.Ythklkhdcmoonkaa
open Go.RowKit

theorem ret_bool {a b : Bool} (h : a = b) : Ending.returned (.bool a) = .returned (.bool b) := by rw [h]

set_option maxHeartbeats 800000 in
theorem ofName_any (c : Int) (w : World) : Calls Try.prog 33 #[.int .u8 c] w fun e w' => e = .returned (.bool (nmc c)) ∧ w' = w := by
  by_cases h1 : 97 ≤ c <;> by_cases h2 : c ≤ 122 <;> by_cases h3 : 48 ≤ c <;> by_cases h4 : c ≤ 57
  all_goals
    obtain ⟨b, hb⟩ : ∃ b, Hid (b = nmc c) := ⟨_, rfl⟩
    rw [← hb.out]
    go_enter Try.func33, Try.ntmps33
    go_wp2
    go_ret
    refine ⟨ret_bool ?_, rfl⟩
    rw [hb.out, Bool.eq_iff_iff]
    simp [nmc]
    omega

theorem all_snoc (l : List Int) (c : Int) : (l ++ [c]).all nmc = (l.all nmc && nmc c) := by simp
theorem all_take_false {l : List Int} {k : Nat} (hk : k < l.length) (h : nmc (l.getD k 0) = false) : l.all nmc = false := by
  rw [Bool.eq_false_iff]; intro h'
  rw [List.all_eq_true] at h'
  have e : l.getD k 0 = l[k] := by simp [List.getD, hk]
  rw [e, h' _ (List.getElem_mem hk)] at h; cases h

set_option maxHeartbeats 800000 in
theorem name_any (s : ByteArray) (w : World) (hs : s.size ≤ maxLen) : Calls Try.prog 16 #[.string s] w fun e w' => e = .returned (.bool (nm s)) ∧ w' = w := by
  unfold maxLen at hs
  obtain ⟨b, hb⟩ : ∃ b, Hid (b = nm s) := ⟨_, rfl⟩
  rw [← hb.out]
  by_cases h1 : s.size < 1
  · have h1' : (s.size : Int) < 1 := by omega
    go_enter Try.func16, Try.ntmps16
    go_wp2
    go_ret
    exact ⟨ret_bool (by rw [hb.out]; simp [nm]; omega), rfl⟩
  by_cases h2 : 12 < s.size
  · have h1' : ¬ (s.size : Int) < 1 := by omega
    have h2' : (12 : Int) < (s.size : Int) := by omega
    go_enter Try.func16, Try.ntmps16
    go_wp2
    go_ret
    exact ⟨ret_bool (by rw [hb.out]; simp [nm]; omega), rfl⟩
  have h1' : ¬ (s.size : Int) < 1 := by omega
  have h2' : ¬ (12 : Int) < (s.size : Int) := by omega
  have hnl := nums_len s
  have HN : Hid (∀ k, (h : k < s.size) → (nums s).getD k 0 = (s[k].toNat : Int)) := nums_at s
  have HL : Hid ((nums s).length = s.size) := hnl
  clear hnl
  go_enter Try.func16, Try.ntmps16
  go_wp2
  go_loop [3, 14] (fun _ i => ∃ k : Nat, k ≤ s.size ∧ i = .int .i64 k ∧ Hid (((nums s).take k).all nmc = true)) (fun _ i => s.size - (intOf i).toNat)
  case atStart => exact ⟨0, Nat.zero_le _, rfl, (by simp : ((nums s).take 0).all nmc = true)⟩
  case round =>
    obtain ⟨k, hk, rfl, HA⟩ := hrel
    by_cases hlt : k < s.size
    · have hlt' : (k : Int) < (s.size : Int) := by omega
      cases hc : nmc (s[k].toNat : Int) with
      | true =>
        have HC : Hid (nmc (s[k].toNat : Int) = true) := hc
        have hof : ∀ w, Calls Try.prog 33 #[.int .u8 (s[k].toNat : Int)] w fun e w' => e = .returned (.bool true) ∧ w' = w := fun w => by rw [← hc]; exact ofName_any _ w
        clear hc
        go_wp2_with (go_at_call 33; refine (hof _).mono ?_; rintro e w' ⟨rfl, rfl⟩)
        go_round
        case rel =>
          refine ⟨k + 1, by omega, by go_num, ?_⟩
          show ((nums s).take (k + 1)).all nmc = true
          rw [take_snocI _ k (by rw [HL.out]; exact hlt), all_snoc, HA.out, HN.out k hlt, HC.out]; rfl
        case measure => simp [intOf]; omega
      | false =>
        have HC : Hid (nmc (s[k].toNat : Int) = false) := hc
        have hof : ∀ w, Calls Try.prog 33 #[.int .u8 (s[k].toNat : Int)] w fun e w' => e = .returned (.bool false) ∧ w' = w := fun w => by rw [← hc]; exact ofName_any _ w
        clear hc
        go_wp2_with (go_at_call 33; refine (hof _).mono ?_; rintro e w' ⟨rfl, rfl⟩)
        go_ret
        refine ⟨ret_bool ?_, rfl⟩
        rw [hb.out, nm, all_take_false (k := k) (by rw [HL.out]; exact hlt) (by rw [HN.out k hlt]; exact HC.out)]; simp
    · have hlt' : ¬ (k : Int) < (s.size : Int) := by omega
      go_wp2_with fail
      go_ret
      refine ⟨ret_bool ?_, rfl⟩
      have := HA.out
      rw [List.take_of_length_le (by rw [HL.out]; omega)] at this
      rw [hb.out, nm, this]; simp; omega

set_option maxHeartbeats 1600000 in
theorem refname_any (s : ByteArray) (w : World) (hs : s.size ≤ maxLen) : Calls Try.prog 17 #[.string s] w fun e w' => e = .returned (.bool (nm s)) ∧ w' = w := by
  unfold maxLen at hs
  obtain ⟨b, hb⟩ : ∃ b, Hid (b = nm s) := ⟨_, rfl⟩
  rw [← hb.out]
  by_cases h1 : s.size < 1
  · have h1' : (s.size : Int) < 1 := by omega
    go_enter Try.func17, Try.ntmps17
    go_wp2
    go_ret
    exact ⟨ret_bool (by rw [hb.out]; simp [nm]; omega), rfl⟩
  by_cases h2 : 12 < s.size
  · have h1' : ¬ (s.size : Int) < 1 := by omega
    have h2' : (12 : Int) < (s.size : Int) := by omega
    go_enter Try.func17, Try.ntmps17
    go_wp2
    go_ret
    exact ⟨ret_bool (by rw [hb.out]; simp [nm]; omega), rfl⟩
  have h1' : ¬ (s.size : Int) < 1 := by omega
  have h2' : ¬ (12 : Int) < (s.size : Int) := by omega
  have hnl := nums_len s
  have HN : Hid (∀ k, (h : k < s.size) → (nums s).getD k 0 = (s[k].toNat : Int)) := nums_at s
  have HL : Hid ((nums s).length = s.size) := hnl
  clear hnl
  go_enter Try.func17, Try.ntmps17
  go_wp2
  go_loop [3, 4] (fun i _ => ∃ k : Nat, k ≤ s.size ∧ i = .int .i64 k ∧ Hid (((nums s).take k).all nmc = true)) (fun i _ => s.size - (intOf i).toNat)
  case atStart => exact ⟨0, Nat.zero_le _, rfl, (by simp : ((nums s).take 0).all nmc = true)⟩
  case round =>
    obtain ⟨k, hk, rfl, HA⟩ := hrel
    by_cases hlt : k < s.size
    · have hlt' : (k : Int) < (s.size : Int) := by omega
      have HK : Hid (∀ c : Int, (s[k].toNat : Int) = c → nmc c = true → ((nums s).take (k + 1)).all nmc = true) := fun c e hc => by
        rw [take_snocI _ k (by rw [HL.out]; exact hlt), all_snoc, HA.out, HN.out k hlt, e, hc]; rfl
      have HF : Hid (∀ c : Int, (s[k].toNat : Int) = c → nmc c = false → nm s = false) := fun c e hc => by
        rw [nm, all_take_false (k := k) (by rw [HL.out]; exact hlt) (by rw [HN.out k hlt, e]; exact hc)]; simp
      by_cases a1 : (s[k].toNat : Int) = 95 <;> by_cases a2 : (s[k].toNat : Int) < 97 <;> by_cases a3 : (122 : Int) < (s[k].toNat : Int) <;> by_cases a4 : (s[k].toNat : Int) < 48 <;> by_cases a5 : (57 : Int) < (s[k].toNat : Int)
      all_goals first
        | (exfalso; omega)
        | (have a1' : ((s[k].toNat : Int) != 95) = false := by simp [a1]
           go_wp2_with fail
           go_round
           case rel => exact ⟨k + 1, by omega, by go_num, HK.out _ rfl (by simp [nmc]; omega)⟩
           case measure => simp [intOf]; omega
           done)
        | (have a1' : ((s[k].toNat : Int) != 95) = true := by simpa using a1
           go_wp2_with fail
           go_round
           case rel => exact ⟨k + 1, by omega, by go_num, HK.out _ rfl (by simp [nmc]; omega)⟩
           case measure => simp [intOf]; omega
           done)
        | (have a1' : ((s[k].toNat : Int) != 95) = true := by simpa using a1
           go_wp2_with fail
           go_ret
           exact ⟨ret_bool (by rw [hb.out, HF.out _ rfl (by simp [nmc]; omega)]), rfl⟩)
    · have hlt' : ¬ (k : Int) < (s.size : Int) := by omega
      go_wp2_with fail
      go_ret
      refine ⟨ret_bool ?_, rfl⟩
      have := HA.out
      rw [List.take_of_length_le (by rw [HL.out]; omega)] at this
      rw [hb.out, nm, this]; simp; omega

set_option maxHeartbeats 800000 in
theorem mayBe_any (x : Lb) (w : World) (h1 : x.1.size ≤ maxLen) (h2 : x.2.size ≤ maxLen) : Calls Try.prog 31 #[.agg #[.string x.1, .string x.2]] w fun e w' => e = .returned (.bool (okl x)) ∧ Below w.heap.size w w' := by
  obtain ⟨n, v⟩ := x
  simp only at h1 h2 ⊢
  obtain ⟨b, hb⟩ : ∃ b, Hid (b = okl (n, v)) := ⟨_, rfl⟩
  rw [← hb.out]
  unfold maxLen at h2
  have Hnm : Hid _ := name_any n
  cases hn : nm n with
  | true =>
    rw [hn] at Hnm
    have HN : Hid (nm n = true) := hn
    clear hn
    by_cases h3 : 1 ≤ v.size
    · have h3' : (1 : Int) ≤ (v.size : Int) := by omega
      go_enter Try.func31, Try.ntmps31
      go_wp2_with (go_at_call 16; refine (Hnm.out _ h1).mono ?_; rintro e w' ⟨rfl, rfl⟩)
      go_ret
      refine ⟨ret_bool ?_, (Below.refl _ _).alloc (Nat.le_refl _) _⟩
      rw [hb.out, okl, HN.out]
      simp [h3]; omega
    · have h3' : ¬ (1 : Int) ≤ (v.size : Int) := by omega
      go_enter Try.func31, Try.ntmps31
      go_wp2_with (go_at_call 16; refine (Hnm.out _ h1).mono ?_; rintro e w' ⟨rfl, rfl⟩)
      go_ret
      refine ⟨ret_bool ?_, (Below.refl _ _).alloc (Nat.le_refl _) _⟩
      rw [hb.out, okl, HN.out]
      simp [h3]
  | false =>
    rw [hn] at Hnm
    have HN : Hid (nm n = false) := hn
    clear hn
    go_enter Try.func31, Try.ntmps31
    go_wp2_with (go_at_call 16; refine (Hnm.out _ h1).mono ?_; rintro e w' ⟨rfl, rfl⟩)
    go_ret
    refine ⟨ret_bool ?_, (Below.refl _ _).alloc (Nat.le_refl _) _⟩
    rw [hb.out, okl, HN.out]
    simp
end Go.Proofs.Ythklkhdcmoonkaa
