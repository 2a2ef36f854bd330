/- The contract of Take. Conditions: what the bytes are. -/
import Derived.Test.YtkojbpifcflgfaaE
namespace Go.Proofs.Ytkojbpifcflgfaa
open Go.RowKit
theorem own_mono {w : World} {base base' : Nat} {e : TypeId} {size : Nat} {v : Value} {n : Nat} {xs : List Value} (h : w.ownsRow base e size v n xs) (hb : base' ≤ base) : w.ownsRow base' e size v n xs := by
  refine ⟨h.1, ?_⟩
  rcases h.2 with h0 | ⟨g, cap, cur, h1, h2, h3⟩
  · exact .inl h0
  · exact .inr ⟨g, cap, cur, h1, Nat.le_trans hb h2, h3⟩
theorem cells_app_left {w : World} {g off : Nat} {ls rest : List Int} (hc : ∀ i, i < (ls ++ rest).length → w.cell? ⟨g, off + i, none⟩ = some (.int .u8 ((ls ++ rest).getD i 0))) :
    ∀ i, i < ls.length → w.cell? ⟨g, off + i, none⟩ = some (.int .u8 (ls.getD i 0)) := by
  intro i hi
  rw [hc i (by simp; omega)]
  simp [List.getD, List.getElem?_append_left hi]
theorem cells_app_right {w : World} {g off : Nat} {ls rest : List Int} (hc : ∀ i, i < (ls ++ rest).length → w.cell? ⟨g, off + i, none⟩ = some (.int .u8 ((ls ++ rest).getD i 0))) :
    ∀ i, i < rest.length → w.cell? ⟨g, off + ls.length + i, none⟩ = some (.int .u8 (rest.getD i 0)) := by
  intro i hi
  rw [Nat.add_assoc, hc (ls.length + i) (by simp; omega)]
  simp [List.getD, List.getElem?_append_right (show ls.length ≤ ls.length + i by omega)]
theorem bs_getD {u : Nat} (h : u < 18446744073709551616) : ∀ i, 0 ≤ (bs u).getD i 0 ∧ (bs u).getD i 0 ≤ 255 := by
  intro i
  by_cases hi : i < (bs u).length
  · have e : (bs u).getD i 0 = (bs u)[i] := by simp [List.getD, hi]
    rw [e]; exact bs_mem64 h _ (List.getElem_mem hi)
  · have e : (bs u).getD i 0 = 0 := by simp [List.getD, show (bs u)[i]? = none from List.getElem?_eq_none (by omega)]
    rw [e]; omega

/-- What a row of the call's own reads as. -/
theorem own_cells {w : World} {base g n cap : Nat} {k : IntKind} {e : TypeId} {zs : List Int} (h : w.ownsRow base e 1 (.slice (some ⟨g, 0, none⟩) n cap) n (zs.map (Value.int k))) :
    ∀ i, i < zs.length → w.cell? ⟨g, 0 + i, none⟩ = some (.int k (zs.getD i 0)) := by
  intro i hi
  have hl := h.1
  simp only [List.length_map, Nat.mul_one] at hl
  rw [Nat.zero_add, h.cellAt i (by omega)]
  simp [List.getD, hi]
/-- A row that owns something has an address. -/
theorem own_some {w : World} {base n : Nat} {v : Value} {e : TypeId} {xs : List Value} (h : w.ownsRow base e 1 v n xs) (hn : 0 < n) :
    ∃ g cap, v = .slice (some ⟨g, 0, none⟩) n cap ∧ base ≤ g ∧ g < w.heap.size ∧ n ≤ cap ∧ cap ≤ maxLen := by
  rcases h.2 with ⟨_, h0⟩ | ⟨g, cap, cur, rfl, hb, hg, h1, h2, _, _⟩
  · omega
  · exact ⟨g, cap, rfl, hb, (Array.getElem?_eq_some_iff.1 hg).1, h1, h2⟩
/-- What is owned reads so. -/
theorem own_rd {w : World} {base g n cap : Nat} {k : IntKind} {e : TypeId} {zs : List Int} (h : w.ownsRow base e 1 (.slice (some ⟨g, 0, none⟩) n cap) n (zs.map (Value.int k))) : Rd k w (some ⟨g, 0, none⟩) zs := by
  refine .inr ⟨g, 0, rfl, (h.lt g rfl).2, own_cells h⟩
end Go.Proofs.Ytkojbpifcflgfaa
