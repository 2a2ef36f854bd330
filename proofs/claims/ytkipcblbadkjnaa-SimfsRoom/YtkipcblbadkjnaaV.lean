/- What a crash makes of files, and the contract of settle where two maps are one. Conditions: those of each theorem. -/
import Derived.Test.YtkipcblbadkjnaaU
namespace Go.Proofs.Ytkipcblbadkjnaa
open Go.RowKit

set_option maxHeartbeats 1600000 in
set_option maxRecDepth 100000 in
/-- settle, of which only the paths are asked. -/
theorem settle_raw (b : Nat) (room made : Int) (o : Option Nat) (s c : Value) (fused : Bool) (left : Int) (n : Nat) (m : ByteArray → Option Nat) (w : World) (h : Fc w b room made (.map o) s c fused left) (hM : Mo w o n m) :
    Calls Try.prog 54 #[.pointer (some ⟨b, 0, none⟩)] w fun e w' => e = .returned (.tuple #[]) ∧ ∃ w1 sb, w' = (w1.setCell ⟨b, 3, none⟩ (.map sb)).setCell ⟨b, 4, none⟩ (.slice none 0 0) ∧ Mo w1 sb n m ∧ Below w.heap.size w w1 ∧ ∀ k, sb = some k → w.heap.size ≤ k := by
  have H : Hid (Fc w b room made (.map o) s c fused left) := h
  have HO : Hid (Mo w o n m) := hM
  have HL : Hid (b < w.heap.size) := (Array.getElem?_eq_some_iff.1 h.h).1
  have c2 := h.c2
  clear h hM
  go_enter Try.func54, Try.ntmps54
  go_wp2_with (go_at_call 69; refine (mclone_any o n m w HO.out).mono ?_; rintro e w1 ⟨sb, rfl, hM, hb, hs⟩; have hf := H.out.kept (hb.block b HL.out); have z3 := hf.fz 3; have z4 := hf.fz 4; have d3 := hf.c3; have d4 := hf.c4; have HM : Hid _ := hM; have HB : Hid _ := hb; have HS : Hid _ := hs; clear hM hb hs hf)
  go_end0
  exact ⟨rfl, _, sb, rfl, HM.out, HB.out, HS.out⟩
end Go.Proofs.Ytkipcblbadkjnaa
