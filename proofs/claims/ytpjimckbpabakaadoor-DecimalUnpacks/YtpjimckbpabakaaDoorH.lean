/- The contracts of the document's own Same, of numbers and of values, where both slices read alike. Conditions: at most 100 of them. -/
import Derived.Test.YtpjimckbpabakaaDoorG
namespace Go.Proofs.YtpjimckbpabakaaDoor
open Go.RowKit

set_option maxHeartbeats 1600000 in
theorem sameI_any (a1 a2 : Option Addr) (n c1 c2 : Nat) (zs : List Int) (w : World) (hz : zs.length = n) (hn : n ≤ 100) (h1 : RdI w a1 zs) (h2 : RdI w a2 zs) :
    Calls Tryd.prog 12 #[.slice a1 n c1, .slice a2 n c2] w fun e w' => e = .returned (.bool true) ∧ Below w.heap.size w w' := by
  have HC : Hid (∀ k, k < n → ∃ b1 o1 b2 o2, a1 = some ⟨b1, o1, none⟩ ∧ a2 = some ⟨b2, o2, none⟩ ∧ w.cell? ⟨b1, o1 + k, none⟩ = some (.int .i64 (zs.getD k 0)) ∧ w.cell? ⟨b2, o2 + k, none⟩ = some (.int .i64 (zs.getD k 0))) := by
    intro k hk
    obtain ⟨b1, o1, e1, _, c1⟩ := h1.at (k := k) (by omega)
    obtain ⟨b2, o2, e2, _, c2⟩ := h2.at (k := k) (by omega)
    exact ⟨b1, o1, b2, o2, e1, e2, c1, c2⟩
  clear h1 h2 hz
  go_enter Tryd.func12, Tryd.ntmps12
  go_wp2
  go_loopw [5] (fun i wr => ∃ k q : Nat, i = .int .i64 (k : Int) ∧ k ≤ n ∧ wr = w.drewN q) (fun i _ => n - (intOf i).toNat)
  case atStart => exact ⟨0, 0, rfl, Nat.zero_le _, rfl⟩
  case round =>
    obtain ⟨k, q, rfl, hk, rfl⟩ := hrel
    by_cases hlt : k < n
    · obtain ⟨b1, o1, b2, o2, rfl, rfl, hc1, hc2⟩ := HC.out k hlt
      have hlt' : (k : Int) < (n : Int) := by omega
      have hk0 : (0 : Int) ≤ (k : Int) := by omega
      go_wp2
      go_quiet (fail)
      go_wp2
      go_roundw
      case rel => exact ⟨k + 1, _, by go_num, by omega, rfl⟩
      case measure => simp [intOf]; omega
    · have hlt' : ¬ (k : Int) < (n : Int) := by omega
      go_wp2
      go_ret
      exact ⟨rfl, below_drewN _ _⟩

set_option maxHeartbeats 1600000 in
theorem sameV_any (a1 a2 : Option Addr) (n c1 c2 : Nat) (vs : List Vl) (w : World) (hz : vs.length = n) (hn : n ≤ 100) (h1 : RdV w a1 vs) (h2 : RdV w a2 vs) :
    Calls Tryd.prog 15 #[.slice a1 n c1, .slice a2 n c2] w fun e w' => e = .returned (.bool true) ∧ Below w.heap.size w w' := by
  have HC : Hid (∀ k, k < n → ∃ b1 o1 b2 o2, a1 = some ⟨b1, o1, none⟩ ∧ a2 = some ⟨b2, o2, none⟩ ∧
      (w.cell? ⟨b1, o1 + k * 3, none⟩ = some (.int .i64 (vs.getD k v0).M) ∧ w.cell? ⟨b1, o1 + k * 3 + 1, none⟩ = some (.int .i64 (vs.getD k v0).E) ∧ w.cell? ⟨b1, o1 + k * 3 + 2, none⟩ = some (.int .i64 (vs.getD k v0).S)) ∧
      w.cell? ⟨b2, o2 + k * 3, none⟩ = some (.int .i64 (vs.getD k v0).M) ∧ w.cell? ⟨b2, o2 + k * 3 + 1, none⟩ = some (.int .i64 (vs.getD k v0).E) ∧ w.cell? ⟨b2, o2 + k * 3 + 2, none⟩ = some (.int .i64 (vs.getD k v0).S)) := by
    intro k hk
    obtain ⟨b1, o1, e1, _, c1⟩ := h1.at (k := k) (by omega)
    obtain ⟨b2, o2, e2, _, c2⟩ := h2.at (k := k) (by omega)
    exact ⟨b1, o1, b2, o2, e1, e2, c1, c2⟩
  clear h1 h2 hz
  go_enter Tryd.func15, Tryd.ntmps15
  go_wp2
  go_loopw [5] (fun i wr => ∃ k q : Nat, i = .int .i64 (k : Int) ∧ k ≤ n ∧ wr = w.drewN q) (fun i _ => n - (intOf i).toNat)
  case atStart => exact ⟨0, 0, rfl, Nat.zero_le _, rfl⟩
  case round =>
    obtain ⟨k, q, rfl, hk, rfl⟩ := hrel
    by_cases hlt : k < n
    · obtain ⟨b1, o1, b2, o2, rfl, rfl, ⟨p0, p1, p2⟩, q0, q1, q2⟩ := HC.out k hlt
      have hlt' : (k : Int) < (n : Int) := by omega
      have hk0 : (0 : Int) ≤ (k : Int) := by omega
      generalize (vs.getD k v0).M = M at *
      generalize (vs.getD k v0).E = E at *
      generalize (vs.getD k v0).S = S at *
      go_wp2
      go_quiet (fail)
      go_wp2
      go_roundw
      case rel => exact ⟨k + 1, _, by go_num, by omega, rfl⟩
      case measure => simp [intOf]; omega
    · have hlt' : ¬ (k : Int) < (n : Int) := by omega
      go_wp2
      go_ret
      exact ⟨rfl, below_drewN _ _⟩
end Go.Proofs.YtpjimckbpabakaaDoor
