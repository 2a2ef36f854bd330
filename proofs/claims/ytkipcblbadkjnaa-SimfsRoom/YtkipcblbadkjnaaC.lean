/- The struct of files in memory, and the contracts of enter, Fuse, Pending and New. Conditions: those of each theorem. -/
import Derived.Test.YtkipcblbadkjnaaB
import Derived.Deep.RegionWith
namespace Go.Proofs.Ytkipcblbadkjnaa
open Go.RowKit

/-- Block b is the struct of files, with these seven values. -/
structure Fc (w : World) (b : Nat) (room made : Int) (p s c : Value) (fused : Bool) (left : Int) : Prop where
  h : w.heap[b]? = some (.cells #[.int .i64 room, .int .i64 made, p, s, c, .bool fused, .int .i64 left] 67)
theorem Fc.c0 {w b room made p s c fused left} (h : Fc w b room made p s c fused left) : w.cell? ⟨b, 0, none⟩ = some (.int .i64 room) := by simp [World.cell?, h.h]
theorem Fc.c1 {w b room made p s c fused left} (h : Fc w b room made p s c fused left) : w.cell? ⟨b, 1, none⟩ = some (.int .i64 made) := by simp [World.cell?, h.h]
theorem Fc.c2 {w b room made p s c fused left} (h : Fc w b room made p s c fused left) : w.cell? ⟨b, 2, none⟩ = some p := by simp [World.cell?, h.h]
theorem Fc.c3 {w b room made p s c fused left} (h : Fc w b room made p s c fused left) : w.cell? ⟨b, 3, none⟩ = some s := by simp [World.cell?, h.h]
theorem Fc.c4 {w b room made p s c fused left} (h : Fc w b room made p s c fused left) : w.cell? ⟨b, 4, none⟩ = some c := by simp [World.cell?, h.h]
theorem Fc.c5 {w b room made p s c fused left} (h : Fc w b room made p s c fused left) : w.cell? ⟨b, 5, none⟩ = some (.bool fused) := by simp [World.cell?, h.h]
theorem Fc.c6 {w b room made p s c fused left} (h : Fc w b room made p s c fused left) : w.cell? ⟨b, 6, none⟩ = some (.int .i64 left) := by simp [World.cell?, h.h]
theorem Fc.fz {w b room made p s c fused left} (h : Fc w b room made p s c fused left) (i : Nat) : w.frozen? ⟨b, i, none⟩ = false := by simp [World.frozen?, h.h]

theorem pending_any (b : Nat) (room made : Int) (p s : Value) (fused : Bool) (left : Int) (a : Option Addr) (n m : Nat) (w : World) (h : Fc w b room made p s (.slice a n m) fused left) :
    Calls Try.prog 19 #[.pointer (some ⟨b, 0, none⟩)] w fun e w' => e = .returned (.int .i64 (n : Int)) ∧ w' = w := by
  have h4 := h.c4
  clear h
  go_enter Try.func19, Try.ntmps19
  go_wp2
  go_ret
  exact ⟨rfl, rfl⟩
theorem enter_free (b : Nat) (room made : Int) (p s c : Value) (left : Int) (w : World) (h : Fc w b room made p s c false left) :
    Calls Try.prog 51 #[.pointer (some ⟨b, 0, none⟩)] w fun e w' => e = .returned (.int .i64 0) ∧ w' = w := by
  have h5 := h.c5
  clear h
  go_enter Try.func51, Try.ntmps51
  go_wp2
  go_ret
  exact ⟨rfl, rfl⟩
theorem enter_spent (b : Nat) (room made : Int) (p s c : Value) (w : World) (h : Fc w b room made p s c true 0) :
    Calls Try.prog 51 #[.pointer (some ⟨b, 0, none⟩)] w fun e w' => e = .returned (.int .i64 62) ∧ w' = w := by
  have h5 := h.c5
  have h6 := h.c6
  clear h
  go_enter Try.func51, Try.ntmps51
  go_wp2
  go_ret
  exact ⟨rfl, rfl⟩
theorem new_any (room : Int) (w : World) :
    Calls Try.prog 11 #[.int .i64 room] w fun e w' => e = .returned (.pointer (some ⟨w.heap.size, 0, none⟩)) ∧ w' = w.alloc (.cells #[.int .i64 (wi room 16777216), .int .i64 0, .map none, .map none, .slice none 0 0, .bool false, .int .i64 0] 67) := by
  go_enter Try.func11, Try.ntmps11
  go_wp2_with (go_at_call 34; refine (within_any _ _ _).mono ?_; rintro e w' ⟨rfl, rfl⟩)
  go_ret
  exact ⟨rfl, rfl⟩
end Go.Proofs.Ytkipcblbadkjnaa
