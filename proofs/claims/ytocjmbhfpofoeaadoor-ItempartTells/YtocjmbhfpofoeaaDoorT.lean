/- The contract of taken: a number that bytes begin with, and what lies behind. Conditions: those of each theorem. -/
import Derived.Test.YtocjmbhfpofoeaaDoorR
namespace Go.Proofs.YtocjmbhfpofoeaaDoor
open Go.RowKit

/-- A number, what lies behind it, the error. -/
def tkn (z : List Int) (m : Nat) : Nat × List Int × Int :=
  if 10 ≤ hi z then (0, [], 11) else if hi z = z.length then (0, [], 10) else if (hi z = 9 ∧ 1 < z.getD (hi z) 0) ∨ (0 < hi z ∧ z.getD (hi z) 0 = 0) then (0, [], 11) else
  if m < vl (z.take (hi z + 1)) then (0, [], 11) else (vl (z.take (hi z + 1)), z.drop (hi z + 1), 0)
theorem tkn_bs {u m : Nat} (hu : u ≤ m) (hm : m < 18446744073709551616) (rest : List Int) : tkn (bs u ++ rest) m = (u, rest, 0) := by
  have hu' : u < 18446744073709551616 := by omega
  obtain ⟨f1, f2, f3, f4, f5⟩ := bs_app hu' rest
  have hp := bs_pos u
  have hl := bs_le10 hu'
  have hh := hi_bs hu' rest
  have e : hi (bs u ++ rest) + 1 = (bs u).length := by omega
  unfold tkn
  rw [if_neg (by omega), if_neg (by rw [hh, List.length_append]; omega), if_neg, e, List.take_left, vl_bs64 hu', if_neg (by omega), List.drop_left]
  rw [hh]
  rintro (⟨h1, h2⟩ | ⟨h1, h2⟩)
  · have := f4 h1; omega
  · exact f5 h1 h2

theorem below_drN {B : Nat} {w w' : World} (h : Below B w w') (n : Nat) : Below B w (w'.drewN n) := by
  induction n with
  | zero => exact h
  | succ n ih => exact ih.drew

theorem taken_err (a : Option Addr) (nb cb M m : Nat) (x : Int) (hx : (x == 0) = false) (w : World) (hnc : nb ≤ cb) (hM : Hid (M = min nb 10)) (hMc : M ≤ nb) (hcm : cb ≤ 9223372036854775807) (hnil : a = none → cb = 0)
    (HT : Hid (Calls Tryd.prog 75 #[.slice a M cb] w fun e w' => e = .returned (.tuple #[.int .u64 0, .slice none 0 0, .int .i64 x]) ∧ w' = w)) :
    Calls Tryd.prog 78 #[.slice a nb cb, .int .i64 (m : Int)] w fun e w' => e = .returned (.tuple #[.int .i64 0, .slice none 0 0, .int .i64 x]) ∧ w' = w := by
  have hmin : ∀ ts t w', Sem.run Tryd.prog (Builtin.min_ ts t #[.int .i64 (nb : Int), .int .i64 10]) w' = .ok (.int .i64 (M : Int)) w' := by
    intro ts t w'
    have := hM.out
    rw [run_min_int2]
    congr 2
    split <;> omega
  cases a with
  | none =>
    obtain rfl : cb = 0 := hnil rfl
    obtain rfl : nb = 0 := by omega
    obtain rfl : M = 0 := by omega
    clear hnil
    go_enter Tryd.func78, Tryd.ntmps78
    go_wp2_with fail
    refine Calls.mono HT.out ?_
    rintro e w' ⟨rfl, hw'⟩; rw [hw']; clear hw' w'
    go_wp2_with fail
    go_ret3
    exact ⟨rfl, rfl⟩
  | some ad =>
    clear hnil
    obtain ⟨g, off, sp⟩ := ad
    go_enter Tryd.func78, Tryd.ntmps78
    go_wp2_with fail
    refine Calls.mono HT.out ?_
    rintro e w' ⟨rfl, hw'⟩; rw [hw']; clear hw' w'
    go_wp2_with fail
    go_ret3
    exact ⟨rfl, rfl⟩

set_option maxHeartbeats 1600000 in
theorem taken_ok (g off nb cb M m u s : Nat) (w : World) (hnc : nb ≤ cb) (hM : Hid (M = min nb 10)) (hMc : M ≤ nb) (hcm : cb ≤ 9223372036854775807) (hu : u < 18446744073709551616) (hm : m ≤ 1000000) (hs : s ≤ nb) (hss : Hid (s = (bs u).length))
    (HT : Hid (Calls Tryd.prog 75 #[.slice (some ⟨g, off, none⟩) M cb] w fun e w' => ∃ v, e = .returned (.tuple #[.int .u64 (u : Int), v, .int .i64 0]) ∧ Below w.heap.size w w')) :
    Calls Tryd.prog 78 #[.slice (some ⟨g, off, none⟩) nb cb, .int .i64 (m : Int)] w fun e w' => Below w.heap.size w w' ∧ (if m < u then e = .returned (.tuple #[.int .i64 0, .slice none 0 0, .int .i64 11]) else
      e = .returned (.tuple #[.int .i64 (u : Int), .slice (if cb = s then some ⟨g, off, none⟩ else some ⟨g, off + s, none⟩) (nb - s) (cb - s), .int .i64 0])) := by
  have hmin : ∀ ts t w', Sem.run Tryd.prog (Builtin.min_ ts t #[.int .i64 (nb : Int), .int .i64 10]) w' = .ok (.int .i64 (M : Int)) w' := by
    intro ts t w'
    have := hM.out
    rw [run_min_int2]
    congr 2
    split <;> omega
  have hmw : IntKind.u64.wrap (m : Int) = (m : Int) := by rw [IntKind.wrap_u64]; omega
  go_enter Tryd.func78, Tryd.ntmps78
  go_wp2_with fail
  refine Calls.mono HT.out ?_
  rintro e w1 ⟨v, rfl, hb⟩
  have HB : Hid (Below w.heap.size w w1) := hb
  clear hb
  by_cases hlt : m < u
  · have hlt' : (m : Int) < (u : Int) := by omega
    go_wp2_with fail
    go_ret3
    exact ⟨HB.out, by first | rfl | simp⟩
  · have hlt' : ¬ (m : Int) < (u : Int) := by omega
    have huw : IntKind.i64.wrap (u : Int) = (u : Int) := by rw [IntKind.wrap_i64]; omega
    have HS : Hid (∀ W, Calls Tryd.prog 72 #[.int .u64 (u : Int)] W fun e w' => e = .returned (.int .i64 (s : Int)) ∧ w' = W) := fun W => by
      rw [hss.out]; exact size_any u hu W
    by_cases hc : cb = s
    · subst hc
      obtain rfl : nb = cb := by omega
      go_wp2_with fail
      go_quiet (exact Calls.quiet_of_same (HS.out _))
      go_wp2_with fail
      go_ret3
      exact ⟨below_drN HB.out _, by first | rfl | simp⟩
    · go_wp2_with fail
      go_quiet (exact Calls.quiet_of_same (HS.out _))
      go_wp2_with fail
      go_ret3
      exact ⟨below_drN HB.out _, by first | rfl | simp⟩
end Go.Proofs.YtocjmbhfpofoeaaDoor
