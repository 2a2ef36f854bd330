/- The contracts of ofName, Name, Get, and of the document's own Name, Get. Conditions: those of each theorem. -/
import Derived.Test.YtejdpelolihpeaaC
namespace Go.Proofs.Ytejdpelolihpeaa
open Go.RowKit

theorem ret_bool {a b : Bool} (h : a = b) : Ending.returned (.bool a) = .returned (.bool b) := by rw [h]

set_option maxHeartbeats 800000 in
theorem ofName_any (c : Int) (w : World) : Calls Try.prog 34 #[.int .u8 c] w fun e w' => e = .returned (.bool (nmc c)) ∧ w' = w := by
  by_cases h1 : 97 ≤ c <;> by_cases h2 : c ≤ 122 <;> by_cases h3 : 48 ≤ c <;> by_cases h4 : c ≤ 57
  all_goals
    obtain ⟨b, hb⟩ : ∃ b, Hid (b = nmc c) := ⟨_, rfl⟩
    rw [← hb.out]
    go_enter Try.func34, Try.ntmps34
    go_wp2
    go_ret
    refine ⟨ret_bool ?_, rfl⟩
    rw [hb.out, Bool.eq_iff_iff]
    simp [nmc]
    omega

theorem all_snoc (l : List Int) (c : Int) : (l ++ [c]).all nmc = (l.all nmc && nmc c) := by simp
theorem all_take_false {l : List Int} {k : Nat} (hk : k < l.length) (h : nmc (l.getD k 0) = false) : l.all nmc = false := by
  rw [Bool.eq_false_iff]; intro h'
  rw [List.all_eq_true] at h'
  have e : l.getD k 0 = l[k] := by simp [List.getD, hk]
  rw [e, h' _ (List.getElem_mem hk)] at h; cases h

set_option maxHeartbeats 800000 in
theorem name_any (s : ByteArray) (w : World) (hs : s.size ≤ maxLen) : Calls Try.prog 31 #[.string s] w fun e w' => e = .returned (.bool (nm s)) ∧ w' = w := by
  unfold maxLen at hs
  obtain ⟨b, hb⟩ : ∃ b, Hid (b = nm s) := ⟨_, rfl⟩
  rw [← hb.out]
  by_cases h1 : s.size < 1
  · have h1' : (s.size : Int) < 1 := by omega
    go_enter Try.func31, Try.ntmps31
    go_wp2
    go_ret
    exact ⟨ret_bool (by rw [hb.out]; simp [nm]; omega), rfl⟩
  by_cases h2 : 12 < s.size
  · have h1' : ¬ (s.size : Int) < 1 := by omega
    have h2' : (12 : Int) < (s.size : Int) := by omega
    go_enter Try.func31, Try.ntmps31
    go_wp2
    go_ret
    exact ⟨ret_bool (by rw [hb.out]; simp [nm]; omega), rfl⟩
  have h1' : ¬ (s.size : Int) < 1 := by omega
  have h2' : ¬ (12 : Int) < (s.size : Int) := by omega
  have hnl := nums_len s
  have HN : Hid (∀ k, (h : k < s.size) → (nums s).getD k 0 = (s[k].toNat : Int)) := nums_at s
  have HL : Hid ((nums s).length = s.size) := hnl
  clear hnl
  go_enter Try.func31, Try.ntmps31
  go_wp2
  go_loop [3, 14] (fun _ i => ∃ k : Nat, k ≤ s.size ∧ i = .int .i64 k ∧ Hid (((nums s).take k).all nmc = true)) (fun _ i => s.size - (intOf i).toNat)
  case atStart => exact ⟨0, Nat.zero_le _, rfl, (by simp : ((nums s).take 0).all nmc = true)⟩
  case round =>
    obtain ⟨k, hk, rfl, HA⟩ := hrel
    by_cases hlt : k < s.size
    · have hlt' : (k : Int) < (s.size : Int) := by omega
      cases hc : nmc (s[k].toNat : Int) with
      | true =>
        have HC : Hid (nmc (s[k].toNat : Int) = true) := hc
        have hof : ∀ w, Calls Try.prog 34 #[.int .u8 (s[k].toNat : Int)] w fun e w' => e = .returned (.bool true) ∧ w' = w := fun w => by rw [← hc]; exact ofName_any _ w
        clear hc
        go_wp2_with (go_at_call 34; refine (hof _).mono ?_; rintro e w' ⟨rfl, rfl⟩)
        go_round
        case rel =>
          refine ⟨k + 1, by omega, by go_num, ?_⟩
          show ((nums s).take (k + 1)).all nmc = true
          rw [take_snocI _ k (by rw [HL.out]; exact hlt), all_snoc, HA.out, HN.out k hlt, HC.out]; rfl
        case measure => simp [intOf]; omega
      | false =>
        have HC : Hid (nmc (s[k].toNat : Int) = false) := hc
        have hof : ∀ w, Calls Try.prog 34 #[.int .u8 (s[k].toNat : Int)] w fun e w' => e = .returned (.bool false) ∧ w' = w := fun w => by rw [← hc]; exact ofName_any _ w
        clear hc
        go_wp2_with (go_at_call 34; refine (hof _).mono ?_; rintro e w' ⟨rfl, rfl⟩)
        go_ret
        refine ⟨ret_bool ?_, rfl⟩
        rw [hb.out, nm, all_take_false (k := k) (by rw [HL.out]; exact hlt) (by rw [HN.out k hlt]; exact HC.out)]; simp
    · have hlt' : ¬ (k : Int) < (s.size : Int) := by omega
      go_wp2_with fail
      go_ret
      refine ⟨ret_bool ?_, rfl⟩
      have := HA.out
      rw [List.take_of_length_le (by rw [HL.out]; omega)] at this
      rw [hb.out, nm, this]; simp; omega

set_option maxHeartbeats 1600000 in
theorem refname_any (s : ByteArray) (w : World) (hs : s.size ≤ maxLen) : Calls Try.prog 23 #[.string s] w fun e w' => e = .returned (.bool (nm s)) ∧ w' = w := by
  unfold maxLen at hs
  obtain ⟨b, hb⟩ : ∃ b, Hid (b = nm s) := ⟨_, rfl⟩
  rw [← hb.out]
  by_cases h1 : s.size < 1
  · have h1' : (s.size : Int) < 1 := by omega
    go_enter Try.func23, Try.ntmps23
    go_wp2
    go_ret
    exact ⟨ret_bool (by rw [hb.out]; simp [nm]; omega), rfl⟩
  by_cases h2 : 12 < s.size
  · have h1' : ¬ (s.size : Int) < 1 := by omega
    have h2' : (12 : Int) < (s.size : Int) := by omega
    go_enter Try.func23, Try.ntmps23
    go_wp2
    go_ret
    exact ⟨ret_bool (by rw [hb.out]; simp [nm]; omega), rfl⟩
  have h1' : ¬ (s.size : Int) < 1 := by omega
  have h2' : ¬ (12 : Int) < (s.size : Int) := by omega
  have hnl := nums_len s
  have HN : Hid (∀ k, (h : k < s.size) → (nums s).getD k 0 = (s[k].toNat : Int)) := nums_at s
  have HL : Hid ((nums s).length = s.size) := hnl
  clear hnl
  go_enter Try.func23, Try.ntmps23
  go_wp2
  go_loop [3, 4] (fun i _ => ∃ k : Nat, k ≤ s.size ∧ i = .int .i64 k ∧ Hid (((nums s).take k).all nmc = true)) (fun i _ => s.size - (intOf i).toNat)
  case atStart => exact ⟨0, Nat.zero_le _, rfl, (by simp : ((nums s).take 0).all nmc = true)⟩
  case round =>
    obtain ⟨k, hk, rfl, HA⟩ := hrel
    by_cases hlt : k < s.size
    · have hlt' : (k : Int) < (s.size : Int) := by omega
      have HK : Hid (∀ c : Int, (s[k].toNat : Int) = c → nmc c = true → ((nums s).take (k + 1)).all nmc = true) := fun c e hc => by
        rw [take_snocI _ k (by rw [HL.out]; exact hlt), all_snoc, HA.out, HN.out k hlt, e, hc]; rfl
      have HF : Hid (∀ c : Int, (s[k].toNat : Int) = c → nmc c = false → nm s = false) := fun c e hc => by
        rw [nm, all_take_false (k := k) (by rw [HL.out]; exact hlt) (by rw [HN.out k hlt, e]; exact hc)]; simp
      by_cases a1 : (s[k].toNat : Int) = 95 <;> by_cases a2 : (s[k].toNat : Int) < 97 <;> by_cases a3 : (122 : Int) < (s[k].toNat : Int) <;> by_cases a4 : (s[k].toNat : Int) < 48 <;> by_cases a5 : (57 : Int) < (s[k].toNat : Int)
      all_goals first
        | (exfalso; omega)
        | (have a1' : ((s[k].toNat : Int) != 95) = false := by simp [a1]
           go_wp2_with fail
           go_round
           case rel => exact ⟨k + 1, by omega, by go_num, HK.out _ rfl (by simp [nmc]; omega)⟩
           case measure => simp [intOf]; omega
           done)
        | (have a1' : ((s[k].toNat : Int) != 95) = true := by simpa using a1
           go_wp2_with fail
           go_round
           case rel => exact ⟨k + 1, by omega, by go_num, HK.out _ rfl (by simp [nmc]; omega)⟩
           case measure => simp [intOf]; omega
           done)
        | (have a1' : ((s[k].toNat : Int) != 95) = true := by simpa using a1
           go_wp2_with fail
           go_ret
           exact ⟨ret_bool (by rw [hb.out, HF.out _ rfl (by simp [nmc]; omega)]), rfl⟩)
    · have hlt' : ¬ (k : Int) < (s.size : Int) := by omega
      go_wp2_with fail
      go_ret
      refine ⟨ret_bool ?_, rfl⟩
      have := HA.out
      rw [List.take_of_length_le (by rw [HL.out]; omega)] at this
      rw [hb.out, nm, this]; simp; omega

theorem below_dr (w : World) (n : Nat) : Below w.heap.size w (w.drewN n) := ⟨rfl, rfl, rfl, Nat.le_refl _, fun _ _ => rfl⟩
theorem ret_str {a b : ByteArray} (h : a = b) : Ending.returned (.string a) = .returned (.string b) := by rw [h]

set_option maxHeartbeats 1600000 in
theorem get_any (a : Option Addr) (len cap : Nat) (ls : List Lb) (nam : ByteArray) (w : World) (hI : IsL w a len cap ls) :
    Calls Try.prog 30 #[.slice a len cap, .string nam] w fun e w' => e = .returned (.string (get ls nam)) ∧ Below w.heap.size w w' := by
  have hm := hI.hm
  have hc := hI.hc
  unfold maxLen at hm
  obtain ⟨b, hb⟩ : ∃ b, Hid (b = get ls nam) := ⟨_, rfl⟩
  rw [← hb.out]
  have HI : Hid (IsL w a len cap ls) := hI
  clear hI
  go_enter Try.func30, Try.ntmps30
  go_wp2
  go_loopw [9, 6] (fun i _ wr => ∃ k : Nat, k ≤ len ∧ i = .int .i64 k ∧ Hid (get ls nam = get (ls.drop k) nam) ∧ Below w.heap.size w wr) (fun i _ _ => len - (intOf i).toNat)
  case atStart => exact ⟨0, Nat.zero_le _, rfl, rfl, Below.refl _ _⟩
  case round =>
    obtain ⟨k, hk, rfl, HA, hbw⟩ := hrel
    by_cases hlt : k < len
    · have hlt' : (k : Int) < (len : Int) := by omega
      have hkl : k < ls.length := by rw [HI.out.hl]; exact hlt
      obtain ⟨g, off, rfl, hg, c0, c1⟩ := (HI.out.rd.below hbw).at hkl
      obtain ⟨x, hx⟩ : ∃ x, Hid (x = ls.getD k l0) := ⟨_, rfl⟩
      have HK : Hid (get ls nam = if x.1 = nam then x.2 else get (ls.drop (k + 1)) nam) := by
        show get ls nam = _
        rw [HA.out, drop_consL ls k hkl, ← hx.out, get]
      rw [← hx.out] at c0 c1
      clear hkl
      obtain ⟨n, v⟩ := x
      simp only at c0 c1
      have hbs := hbw.size
      by_cases e : n = nam
      · have e' : (n.toList == nam.toList) = true := by rw [beq_eq]; simpa using e
        have HE : Hid (n = nam) := e
        clear e
        go_wp2_with fail
        go_ret
        refine ⟨ret_str ?_, hbw.alloc hbs _⟩
        rw [hb.out, HK.out, if_pos HE.out]
      · have e' : (n.toList == nam.toList) = false := by rw [beq_eq]; simpa using e
        have HE : Hid (¬ n = nam) := e
        clear e
        go_wp2_with fail
        go_roundw
        case rel =>
          refine ⟨k + 1, by omega, by go_num, ?_, hbw.alloc hbs _⟩
          show get ls nam = _
          rw [HK.out, if_neg HE.out]
        case measure => simp [intOf]; omega
    · have hlt' : ¬ (k : Int) < (len : Int) := by omega
      go_wp2_with fail
      go_ret
      refine ⟨ret_str ?_, hbw⟩
      rw [hb.out, HA.out, List.drop_eq_nil_of_le (by rw [HI.out.hl]; omega)]; rfl

set_option maxHeartbeats 1600000 in
theorem refget_any (a : Option Addr) (len cap : Nat) (ls : List Lb) (nam : ByteArray) (w : World) (hI : IsL w a len cap ls) :
    Calls Try.prog 20 #[.slice a len cap, .string nam] w fun e w' => e = .returned (.string (get ls nam)) ∧ Below w.heap.size w w' := by
  have hm := hI.hm
  have hc := hI.hc
  unfold maxLen at hm
  obtain ⟨b, hb⟩ : ∃ b, Hid (b = get ls nam) := ⟨_, rfl⟩
  rw [← hb.out]
  have HI : Hid (IsL w a len cap ls) := hI
  clear hI
  go_enter Try.func20, Try.ntmps20
  go_wp2
  go_loop [5] (fun i => ∃ k : Nat, k ≤ len ∧ i = .int .i64 k ∧ Hid (get ls nam = get (ls.drop k) nam)) (fun i => len - (intOf i).toNat)
  case atStart => exact ⟨0, Nat.zero_le _, rfl, rfl⟩
  case round =>
    obtain ⟨k, hk, rfl, HA⟩ := hrel
    by_cases hlt : k < len
    · have hlt' : (k : Int) < (len : Int) := by omega
      have hkl : k < ls.length := by rw [HI.out.hl]; exact hlt
      obtain ⟨g, off, rfl, hg, c0, c1⟩ := HI.out.rd.at hkl
      obtain ⟨x, hx⟩ : ∃ x, Hid (x = ls.getD k l0) := ⟨_, rfl⟩
      have HK : Hid (get ls nam = if x.1 = nam then x.2 else get (ls.drop (k + 1)) nam) := by
        show get ls nam = _
        rw [HA.out, drop_consL ls k hkl, ← hx.out, get]
      rw [← hx.out] at c0 c1
      clear hkl
      obtain ⟨n, v⟩ := x
      simp only at c0 c1
      by_cases e : n = nam
      · have e' : (n.toList == nam.toList) = true := by rw [beq_eq]; simpa using e
        have HE : Hid (n = nam) := e
        clear e
        go_wp2_with fail
        go_ret
        refine ⟨ret_str ?_, Below.refl _ _⟩
        rw [hb.out, HK.out, if_pos HE.out]
      · have e' : (n.toList == nam.toList) = false := by rw [beq_eq]; simpa using e
        have HE : Hid (¬ n = nam) := e
        clear e
        go_wp2_with fail
        go_round
        case rel =>
          refine ⟨k + 1, by omega, by go_num, ?_⟩
          show get ls nam = _
          rw [HK.out, if_neg HE.out]
        case measure => simp [intOf]; omega
    · have hlt' : ¬ (k : Int) < (len : Int) := by omega
      go_wp2_with fail
      go_ret
      refine ⟨ret_str ?_, Below.refl _ _⟩
      rw [hb.out, HA.out, List.drop_eq_nil_of_le (by rw [HI.out.hl]; omega)]; rfl

end Go.Proofs.Ytejdpelolihpeaa
