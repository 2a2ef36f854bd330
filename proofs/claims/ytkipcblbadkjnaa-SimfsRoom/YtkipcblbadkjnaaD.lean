/- The contracts of enter with a fuse that isn't spent, and of Fuse. Conditions: those of each theorem. -/
import Derived.Test.YtkipcblbadkjnaaC
namespace Go.Proofs.Ytkipcblbadkjnaa
open Go.RowKit

theorem Fc.set5 {w b room made p s c fused left} (h : Fc w b room made p s c fused left) (x : Bool) : Fc (w.setCell ⟨b, 5, none⟩ (.bool x)) b room made p s c x left :=
  ⟨by
    simp [World.setCell, Array.getElem?_modify, h.h]⟩
theorem Fc.set6 {w b room made p s c fused left} (h : Fc w b room made p s c fused left) (x : Int) : Fc (w.setCell ⟨b, 6, none⟩ (.int .i64 x)) b room made p s c fused x :=
  ⟨by
    simp [World.setCell, Array.getElem?_modify, h.h]⟩

theorem enter_left (b : Nat) (room made : Int) (p s c : Value) (left : Int) (w : World) (h : Fc w b room made p s c true left) (h0 : 0 < left) (h1 : left ≤ 9223372036854775807) :
    Calls Try.prog 51 #[.pointer (some ⟨b, 0, none⟩)] w fun e w' => e = .returned (.int .i64 0) ∧ w' = w.setCell ⟨b, 6, none⟩ (.int .i64 (left - 1)) := by
  have h5 := h.c5
  have h6 := h.c6
  have f6 := h.fz 6
  have hne : ((left : Int) == 0) = false := by simp; omega
  clear h
  go_enter Try.func51, Try.ntmps51
  go_wp2
  go_ret
  exact ⟨rfl, rfl⟩
theorem fuse_any (b : Nat) (room made : Int) (p s c : Value) (fused : Bool) (left n : Int) (w : World) (h : Fc w b room made p s c fused left) :
    Calls Try.prog 32 #[.pointer (some ⟨b, 0, none⟩), .int .i64 n] w fun e w' => e = .returned (.tuple #[]) ∧ w' = (w.setCell ⟨b, 5, none⟩ (.bool true)).setCell ⟨b, 6, none⟩ (.int .i64 (if 0 ≤ n then n else 0)) := by
  have f5 := h.fz 5
  have f6 := h.fz 6
  have h5 := h.c5
  have h6 := h.c6
  clear h
  by_cases hn : 0 ≤ n
  · go_enter Try.func32, Try.ntmps32
    go_wp2
    go_end0
    exact ⟨rfl, rfl⟩
  · go_enter Try.func32, Try.ntmps32
    go_wp2
    go_end0
    exact ⟨rfl, rfl⟩
end Go.Proofs.Ytkipcblbadkjnaa
