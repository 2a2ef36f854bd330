/- The document's own: two rows of numbers the same; a number in a row; one more put in its place. Conditions: how the rows lie; sizes. -/
import Derived.Test.YtkojbpifcflgfaaVa
import Derived.Test.YtkojbpifcflgfaaPi
import Derived.Test.YtkojbpifcflgfaaOi
import Derived.Deep.LoopGhost
import Derived.Deep.QuietTactic
import Derived.BigQuiet
namespace Go.Proofs.Ytkojbpifcflgfaa
open Go.RowKit Go.Shelf

theorem getD_lt {l : List Int} {k : Nat} (h : k < l.length) : l[k]? = some (l.getD k 0) := by simp [List.getD, h]
theorem eq_of_take {xs ys : List Int} {k : Nat} (hl : xs.length = ys.length) (hk : xs.length ≤ k) (h : xs.take k = ys.take k) : xs = ys := by
  rwa [List.take_of_length_le hk, List.take_of_length_le (by omega)] at h

set_option maxRecDepth 20000 in
theorem sameI_any (a b : Option Addr) (n c m d : Nat) (xs ys : List Int) (w : World) (h1 : IsI .i64 w a n c xs) (h2 : IsI .i64 w b m d ys) (hn : n ≤ 1000000) (hm : m ≤ 1000000) :
    Calls Try.prog 15 #[.slice a n c, .slice b m d] w fun e w' => e = .returned (.bool (decide (xs = ys))) ∧ ∃ q, w' = w.drewN q := by
  have H : Hid (IsI .i64 w a n c xs ∧ IsI .i64 w b m d ys) := ⟨h1, h2⟩
  have e1 := h1.hl
  have e2 := h2.hl
  clear h1 h2
  by_cases hnm : n = m
  · subst hnm
    have HL : Hid (xs.length = n ∧ ys.length = n) := ⟨e1, e2⟩
    clear e1 e2
    go_enter Try.func15, Try.ntmps15
    go_wp2
    go_loopg [5] n (fun gg s5 wr => ∃ k q : Nat, s5 = .int .i64 k ∧ k ≤ n ∧ n - k ≤ gg ∧ wr = w.drewN q ∧ Hid (xs.take k = ys.take k))
    case atStart => exact ⟨0, 0, rfl, Nat.zero_le _, Nat.le_refl _, rfl, rfl⟩
    case round =>
      obtain ⟨k, q, rfl, hk, hg, rfl, HT⟩ := hrel
      by_cases hlt : k < n
      · obtain ⟨g1, o1, rfl, _, c1⟩ := H.out.1.lt (by omega)
        obtain ⟨g2, o2, rfl, _, c2⟩ := H.out.2.lt (by omega)
        have hk0 : (k : Int) < (n : Int) := by omega
        have d1 := c1 k hlt
        have d2 := c2 k hlt
        have HX : Hid (∀ k, k < n → xs.take (k + 1) = xs.take k ++ [xs.getD k 0] ∧ ys.take (k + 1) = ys.take k ++ [ys.getD k 0]) := fun k hk => ⟨take_snocI xs k (by rw [HL.out.1]; exact hk), take_snocI ys k (by rw [HL.out.2]; exact hk)⟩
        by_cases he : xs.getD k 0 = ys.getD k 0
        · have hne : (xs.getD k 0 != ys.getD k 0) = false := by simpa using he
          have HE : Hid (xs.getD k 0 = ys.getD k 0) := he
          obtain ⟨x, hx⟩ : ∃ x, x = xs.getD k 0 := ⟨_, rfl⟩
          obtain ⟨y, hy⟩ : ∃ y, y = ys.getD k 0 := ⟨_, rfl⟩
          rw [← hx] at d1 hne
          rw [← hy] at d2 hne
          clear he c1 c2 hx hy
          go_wp2_with fail
          go_quiet (fail)
          go_wp2
          go_roundg (n - (k + 1))
          case measure => omega
          case rel => exact ⟨k + 1, q + nq, by go_num, by omega, Nat.le_refl _, rfl, by show _ = _; rw [(HX.out k hlt).1, (HX.out k hlt).2, HT.out, HE.out]⟩
        · have hne : (xs.getD k 0 != ys.getD k 0) = true := by simpa using he
          have HE : Hid (¬ xs = ys) := fun e => he (by rw [e])
          obtain ⟨x, hx⟩ : ∃ x, x = xs.getD k 0 := ⟨_, rfl⟩
          obtain ⟨y, hy⟩ : ∃ y, y = ys.getD k 0 := ⟨_, rfl⟩
          rw [← hx] at d1 hne
          rw [← hy] at d2 hne
          clear he c1 c2 hx hy
          go_wp2_with fail
          go_quiet (fail)
          go_wp2
          go_ret
          exact ⟨by rw [decide_eq_false HE.out]; rfl, q + nq, by rw [World.drewN_drewN]⟩
      · have HE : Hid (xs = ys) := eq_of_take (HL.out.1.trans HL.out.2.symm) (by rw [HL.out.1]; omega) HT.out
        have e : k = n := by omega
        subst e
        go_wp2
        go_ret
        exact ⟨by rw [decide_eq_true HE.out]; rfl, q, rfl⟩
  · have HE : Hid (¬ xs = ys) := fun e => hnm (by rw [← e1, ← e2, e])
    have hne : ¬ ((n : Int) = (m : Int)) := by omega
    clear e1 e2
    go_enter Try.func15, Try.ntmps15
    go_wp2
    go_ret
    exact ⟨by rw [decide_eq_false HE.out]; rfl, 0, rfl⟩

theorem inI_any (a : Option Addr) (n c : Nat) (x : Int) (xs : List Int) (w : World) (h1 : IsI .i64 w a n c xs) (hn : n ≤ 1000000) :
    Calls Try.prog 23 #[.slice a n c, .int .i64 x] w fun e w' => e = .returned (.bool (decide (x ∈ xs))) ∧ w' = w := by
  have H : Hid (IsI .i64 w a n c xs) := h1
  have HL : Hid (xs.length = n) := h1.hl
  clear h1
  go_enter Try.func23, Try.ntmps23
  go_wp2
  go_loopg [5] n (fun gg s5 wr => ∃ k : Nat, s5 = .int .i64 k ∧ k ≤ n ∧ n - k ≤ gg ∧ wr = w ∧ Hid (x ∉ xs.take k))
  case atStart => exact ⟨0, rfl, Nat.zero_le _, Nat.le_refl _, rfl, by show x ∉ xs.take 0; simp⟩
  case round =>
    obtain ⟨k, rfl, hk, hg, rfl, HT⟩ := hrel
    by_cases hlt : k < n
    · obtain ⟨g1, o1, rfl, _, c1⟩ := H.out.lt (by omega)
      have hk0 : (k : Int) < (n : Int) := by omega
      have d1 := c1 k hlt
      have HX : Hid (xs.take (k + 1) = xs.take k ++ [xs.getD k 0] ∧ xs.getD k 0 ∈ xs) := ⟨take_snocI xs k (by rw [HL.out]; exact hlt), by
        have h : k < xs.length := by rw [HL.out]; exact hlt
        have e : xs.getD k 0 = xs[k] := by simp [List.getD, h]
        rw [e]; exact List.getElem_mem h⟩
      by_cases he : xs.getD k 0 = x
      · have HE : Hid (x ∈ xs) := he ▸ HX.out.2
        rw [he] at d1
        clear he c1 HX
        go_wp2
        go_ret
        exact ⟨by rw [decide_eq_true HE.out]; rfl, rfl⟩
      · have HE : Hid (x ∉ xs.take (k + 1)) := by
          show x ∉ _
          rw [HX.out.1]
          intro h
          rcases List.mem_append.1 h with h | h
          · exact HT.out h
          · exact he (List.mem_singleton.1 h).symm
        obtain ⟨y, hy⟩ : ∃ y, y = xs.getD k 0 := ⟨_, rfl⟩
        rw [← hy] at d1 he
        clear c1 HX hy
        go_wp2
        go_roundg (n - (k + 1))
        case measure => omega
        case rel => exact ⟨k + 1, by go_num, by omega, Nat.le_refl _, rfl, HE.out⟩
    · have HE : Hid (x ∉ xs) := by
        have := HT.out
        rwa [List.take_of_length_le (by rw [HL.out]; omega)] at this
      have e : k = n := by omega
      subst e
      go_wp2
      go_ret
      exact ⟨by rw [decide_eq_false HE.out]; rfl, rfl⟩
end Go.Proofs.Ytkojbpifcflgfaa
