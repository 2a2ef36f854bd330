/- The contracts of few, Get, and of the document's own Get and Same. Conditions: those of each theorem. -/
import Derived.Test.YthklkhdcmoonkaaD
namespace Go.Proofs.Ythklkhdcmoonkaa
open Go.RowKit

theorem below_dr (w : World) (n : Nat) : Below w.heap.size w (w.drewN n) := ⟨rfl, rfl, rfl, Nat.le_refl _, fun _ _ => rfl⟩
/-- Each text's length fits. -/
abbrev WfL (ls : List Lb) : Prop := ∀ x ∈ ls, x.1.size ≤ maxLen ∧ x.2.size ≤ maxLen
def fw1 (x : Lb) : Bool := decide (x.1.size ≤ 50) && decide (x.2.size ≤ 50)
def few (ls : List Lb) : Bool := decide (ls.length ≤ 12) && ls.all fw1
theorem few_spec {ls : List Lb} (h : few ls = true) : ls.length ≤ 12 ∧ ∀ x ∈ ls, x.1.size ≤ 50 ∧ x.2.size ≤ 50 := by
  simp [few, fw1] at h
  exact ⟨h.1, fun x hx => h.2 _ _ hx⟩
theorem few_not {ls : List Lb} {k : Nat} (hk : k < ls.length) (h : fw1 (ls.getD k l0) = false) : few ls = false := by
  rw [few, Bool.eq_false_iff]; intro h'
  simp only [Bool.and_eq_true, List.all_eq_true] at h'
  rw [h'.2 _ (getD_memL hk)] at h; cases h

set_option maxHeartbeats 1600000 in
theorem few_any (a : Option Addr) (len cap : Nat) (ls : List Lb) (w : World) (hI : IsL w a len cap ls) (hwf : WfL ls) : Calls Try.prog 10 #[.slice a len cap] w fun e w' => e = .returned (.bool (few ls)) ∧ w' = w := by
  have hm := hI.hm
  have hc := hI.hc
  unfold maxLen at hm
  obtain ⟨b, hb⟩ : ∃ b, Hid (b = few ls) := ⟨_, rfl⟩
  rw [← hb.out]
  have HI : Hid (IsL w a len cap ls ∧ WfL ls) := ⟨hI, hwf⟩
  clear hI hwf
  by_cases h12 : 12 < len
  · have h' : (12 : Int) < (len : Int) := by omega
    go_enter Try.func10, Try.ntmps10
    go_wp2
    go_ret
    refine ⟨ret_bool ?_, rfl⟩
    rw [hb.out, few, HI.out.1.hl]; simp; omega
  have h' : ¬ (12 : Int) < (len : Int) := by omega
  go_enter Try.func10, Try.ntmps10
  go_wp2
  go_loop [3] (fun i => ∃ k : Nat, k ≤ len ∧ i = .int .i64 k ∧ Hid ((ls.take k).all fw1 = true)) (fun i => len - (intOf i).toNat)
  case atStart => exact ⟨0, Nat.zero_le _, rfl, (by simp : (ls.take 0).all fw1 = true)⟩
  case round =>
    obtain ⟨k, hk, rfl, HA⟩ := hrel
    by_cases hlt : k < len
    · have hlt' : (k : Int) < (len : Int) := by omega
      have hkl : k < ls.length := by rw [HI.out.1.hl]; exact hlt
      obtain ⟨g, off, rfl, hg, c0, c1⟩ := HI.out.1.rd.at hkl
      have hsz := HI.out.2 _ (getD_memL hkl)
      obtain ⟨x, hx⟩ : ∃ x, Hid (x = ls.getD k l0) := ⟨_, rfl⟩
      have HK : Hid (fw1 x = true → (ls.take (k + 1)).all fw1 = true) := fun h => by
        rw [take_snocL ls k hkl, ← hx.out]; simp [HA.out, h]
      have HF : Hid (fw1 x = false → few ls = false) := fun h => few_not hkl (by rw [← hx.out]; exact h)
      rw [← hx.out] at c0 c1 hsz
      clear hkl
      obtain ⟨n, v⟩ := x
      simp only at c0 c1 hsz
      unfold maxLen at hsz
      obtain ⟨hs1, hs2⟩ := hsz
      by_cases a1 : 50 < n.size
      · have a1' : (50 : Int) < (n.size : Int) := by omega
        go_wp2_with fail
        go_ret
        exact ⟨ret_bool (by rw [hb.out, HF.out (by simp [fw1]; omega)]), rfl⟩
      · have a1' : ¬ (50 : Int) < (n.size : Int) := by omega
        by_cases a2 : 50 < v.size
        · have a2' : (50 : Int) < (v.size : Int) := by omega
          go_wp2_with fail
          go_ret
          exact ⟨ret_bool (by rw [hb.out, HF.out (by simp [fw1]; omega)]), rfl⟩
        · have a2' : ¬ (50 : Int) < (v.size : Int) := by omega
          go_wp2_with fail
          go_round
          case rel => exact ⟨k + 1, by omega, by go_num, HK.out (by simp [fw1]; omega)⟩
          case measure => simp [intOf]; omega
    · have hlt' : ¬ (k : Int) < (len : Int) := by omega
      go_wp2_with fail
      go_ret
      refine ⟨ret_bool ?_, rfl⟩
      have := HA.out
      rw [List.take_of_length_le (by rw [HI.out.1.hl]; omega)] at this
      rw [hb.out, few, this, HI.out.1.hl]; simp; omega

def get : List Lb → ByteArray → ByteArray
  | [], _ => ⟨#[]⟩
  | x :: r, n => if x.1 = n then x.2 else get r n
theorem ret_str {a b : ByteArray} (h : a = b) : Ending.returned (.string a) = .returned (.string b) := by rw [h]

set_option maxHeartbeats 1600000 in
theorem get_any (a : Option Addr) (len cap : Nat) (ls : List Lb) (nam : ByteArray) (w : World) (hI : IsL w a len cap ls) :
    Calls Try.prog 14 #[.slice a len cap, .string nam] w fun e w' => e = .returned (.string (get ls nam)) ∧ Below w.heap.size w w' := by
  have hm := hI.hm
  have hc := hI.hc
  unfold maxLen at hm
  obtain ⟨b, hb⟩ : ∃ b, Hid (b = get ls nam) := ⟨_, rfl⟩
  rw [← hb.out]
  have HI : Hid (IsL w a len cap ls) := hI
  clear hI
  go_enter Try.func14, Try.ntmps14
  go_wp2
  go_loopw [9, 6] (fun i _ wr => ∃ k : Nat, k ≤ len ∧ i = .int .i64 k ∧ Hid (get ls nam = get (ls.drop k) nam) ∧ Below w.heap.size w wr) (fun i _ _ => len - (intOf i).toNat)
  case atStart => exact ⟨0, Nat.zero_le _, rfl, rfl, Below.refl _ _⟩
  case round =>
    obtain ⟨k, hk, rfl, HA, hbw⟩ := hrel
    by_cases hlt : k < len
    · have hlt' : (k : Int) < (len : Int) := by omega
      have hkl : k < ls.length := by rw [HI.out.hl]; exact hlt
      obtain ⟨g, off, rfl, hg, c0, c1⟩ := (HI.out.rd.below hbw).at hkl
      obtain ⟨x, hx⟩ : ∃ x, Hid (x = ls.getD k l0) := ⟨_, rfl⟩
      have HK : Hid (get ls nam = if x.1 = nam then x.2 else get (ls.drop (k + 1)) nam) := by
        show get ls nam = _
        rw [HA.out, drop_consL ls k hkl, ← hx.out, get]
      rw [← hx.out] at c0 c1
      clear hkl
      obtain ⟨n, v⟩ := x
      simp only at c0 c1
      have hbs := hbw.size
      by_cases e : n = nam
      · have e' : (n.toList == nam.toList) = true := by rw [beq_eq]; simpa using e
        have HE : Hid (n = nam) := e
        clear e
        go_wp2_with fail
        go_ret
        refine ⟨ret_str ?_, hbw.alloc hbs _⟩
        rw [hb.out, HK.out, if_pos HE.out]
      · have e' : (n.toList == nam.toList) = false := by rw [beq_eq]; simpa using e
        have HE : Hid (¬ n = nam) := e
        clear e
        go_wp2_with fail
        go_roundw
        case rel =>
          refine ⟨k + 1, by omega, by go_num, ?_, hbw.alloc hbs _⟩
          show get ls nam = _
          rw [HK.out, if_neg HE.out]
        case measure => simp [intOf]; omega
    · have hlt' : ¬ (k : Int) < (len : Int) := by omega
      go_wp2_with fail
      go_ret
      refine ⟨ret_str ?_, hbw⟩
      rw [hb.out, HA.out, List.drop_eq_nil_of_le (by rw [HI.out.hl]; omega)]; rfl

set_option maxHeartbeats 1600000 in
theorem refget_any (a : Option Addr) (len cap : Nat) (ls : List Lb) (nam : ByteArray) (w : World) (hI : IsL w a len cap ls) :
    Calls Try.prog 15 #[.slice a len cap, .string nam] w fun e w' => e = .returned (.string (get ls nam)) ∧ Below w.heap.size w w' := by
  have hm := hI.hm
  have hc := hI.hc
  unfold maxLen at hm
  obtain ⟨b, hb⟩ : ∃ b, Hid (b = get ls nam) := ⟨_, rfl⟩
  rw [← hb.out]
  have HI : Hid (IsL w a len cap ls) := hI
  clear hI
  go_enter Try.func15, Try.ntmps15
  go_wp2
  go_loop [5] (fun i => ∃ k : Nat, k ≤ len ∧ i = .int .i64 k ∧ Hid (get ls nam = get (ls.drop k) nam)) (fun i => len - (intOf i).toNat)
  case atStart => exact ⟨0, Nat.zero_le _, rfl, rfl⟩
  case round =>
    obtain ⟨k, hk, rfl, HA⟩ := hrel
    by_cases hlt : k < len
    · have hlt' : (k : Int) < (len : Int) := by omega
      have hkl : k < ls.length := by rw [HI.out.hl]; exact hlt
      obtain ⟨g, off, rfl, hg, c0, c1⟩ := HI.out.rd.at hkl
      obtain ⟨x, hx⟩ : ∃ x, Hid (x = ls.getD k l0) := ⟨_, rfl⟩
      have HK : Hid (get ls nam = if x.1 = nam then x.2 else get (ls.drop (k + 1)) nam) := by
        show get ls nam = _
        rw [HA.out, drop_consL ls k hkl, ← hx.out, get]
      rw [← hx.out] at c0 c1
      clear hkl
      obtain ⟨n, v⟩ := x
      simp only at c0 c1
      by_cases e : n = nam
      · have e' : (n.toList == nam.toList) = true := by rw [beq_eq]; simpa using e
        have HE : Hid (n = nam) := e
        clear e
        go_wp2_with fail
        go_ret
        refine ⟨ret_str ?_, Below.refl _ _⟩
        rw [hb.out, HK.out, if_pos HE.out]
      · have e' : (n.toList == nam.toList) = false := by rw [beq_eq]; simpa using e
        have HE : Hid (¬ n = nam) := e
        clear e
        go_wp2_with fail
        go_round
        case rel =>
          refine ⟨k + 1, by omega, by go_num, ?_⟩
          show get ls nam = _
          rw [HK.out, if_neg HE.out]
        case measure => simp [intOf]; omega
    · have hlt' : ¬ (k : Int) < (len : Int) := by omega
      go_wp2_with fail
      go_ret
      refine ⟨ret_str ?_, Below.refl _ _⟩
      rw [hb.out, HA.out, List.drop_eq_nil_of_le (by rw [HI.out.hl]; omega)]; rfl

set_option maxHeartbeats 1600000 in
theorem same_any (a1 a2 : Option Addr) (n c1 c2 : Nat) (ls : List Lb) (w : World) (hn : n ≤ 100000) (h1 : IsL w a1 n c1 ls) (h2 : IsL w a2 n c2 ls) :
    Calls Try.prog 13 #[.slice a1 n c1, .slice a2 n c2] w fun e w' => e = .returned (.bool true) ∧ Below w.heap.size w w' := by
  have HC : Hid (∀ k, k < n → ∃ b1 o1 b2 o2, a1 = some ⟨b1, o1, none⟩ ∧ a2 = some ⟨b2, o2, none⟩ ∧
      (w.cell? ⟨b1, o1 + k * 2, none⟩ = some (.string (ls.getD k l0).1) ∧ w.cell? ⟨b1, o1 + k * 2 + 1, none⟩ = some (.string (ls.getD k l0).2)) ∧
      w.cell? ⟨b2, o2 + k * 2, none⟩ = some (.string (ls.getD k l0).1) ∧ w.cell? ⟨b2, o2 + k * 2 + 1, none⟩ = some (.string (ls.getD k l0).2)) := by
    intro k hk
    obtain ⟨b1, o1, e1, _, c1⟩ := h1.rd.at (k := k) (by rw [h1.hl]; omega)
    obtain ⟨b2, o2, e2, _, c2⟩ := h2.rd.at (k := k) (by rw [h1.hl]; omega)
    exact ⟨b1, o1, b2, o2, e1, e2, c1, c2⟩
  clear h1 h2
  go_enter Try.func13, Try.ntmps13
  go_wp2
  go_loopw [5] (fun i wr => ∃ k q : Nat, i = .int .i64 (k : Int) ∧ k ≤ n ∧ wr = w.drewN q) (fun i _ => n - (intOf i).toNat)
  case atStart => exact ⟨0, 0, rfl, Nat.zero_le _, rfl⟩
  case round =>
    obtain ⟨k, q, rfl, hk, rfl⟩ := hrel
    by_cases hlt : k < n
    · obtain ⟨b1, o1, b2, o2, rfl, rfl, ⟨p0, p1⟩, q0, q1⟩ := HC.out k hlt
      have hlt' : (k : Int) < (n : Int) := by omega
      have hk0 : (0 : Int) ≤ (k : Int) := by omega
      generalize (ls.getD k l0).1 = M at *
      generalize (ls.getD k l0).2 = E at *
      go_wp2
      go_quiet (fail)
      go_wp2
      go_roundw
      case rel => exact ⟨k + 1, _, by go_num, by omega, rfl⟩
      case measure => simp [intOf]; omega
    · have hlt' : ¬ (k : Int) < (n : Int) := by omega
      go_wp2
      go_ret
      exact ⟨rfl, below_dr _ _⟩
end Go.Proofs.Ythklkhdcmoonkaa
