/- The contracts of the document's own Zig, Zag and Bytes, and how a slice of bytes becomes a string. Conditions: the argument fits its kind. -/
import Derived.Test.YtkojbpifcflgfaaG
namespace Go.Proofs.Ytkojbpifcflgfaa
open Go.RowKit

theorem conv_rd (w : World) (a : Option Addr) (cap n : Nat) (xs : List Int) (hn : xs.length = n) (h : Rd .u8 w a xs) :
    Sem.run Try.prog (convert 41 9 (.slice a n cap)) w = .ok (.string (strOfNums xs)) w := by
  rcases h with rfl | ⟨b, off, rfl, _, hc⟩
  · simp at hn; subst hn
    cases a with
    | none => exact run_convert_bytes_nil w 41 5 Try.underlying41 Try.underlying5 0 cap 9 Try.underlying9
    | some x =>
      rw [run_convert_bytes_string w 41 9 5 (some x) 0 cap Try.underlying41 Try.underlying5 Try.underlying9]
      rw [run_bytesToString w x 0 cap [] (by simp [loadCells, loadCellsFrom])]
      rfl
  · exact conv w b off cap n xs hn hc
theorem sl_rd {k : IntKind} {zs : List Int} {v : Value} {w : World} (h : Sl k zs v w) : ∃ a cap, v = .slice a zs.length cap ∧ Rd k w a zs := by
  obtain ⟨g, off, cap, h1, h2, _, _, h5⟩ := h
  exact ⟨_, cap, h1, .inr ⟨g, off, rfl, h2, h5⟩⟩
theorem str_append (xs ys : List Int) : strOfNums xs ++ strOfNums ys = strOfNums (xs ++ ys) := by
  apply ByteArray.ext
  simp [strOfNums]

/-- What is told of a slice of integers that came in: it is nil; or it leads to a row of so many cells, the numbers (the first ones are its elements, the rest its spare room), each fitting its kind. -/
def IsRow (k : IntKind) (w : World) (a : Option Addr) (len cap : Nat) (zs : List Int) : Prop :=
  (a = none ∧ len = 0 ∧ cap = 0 ∧ zs = []) ∨
  ∃ x, a = some x ∧ len ≤ cap ∧ cap ≤ maxLen ∧ zs.length = cap ∧ (∀ i, i < zs.length → w.cell? (x.add i) = some (.int k (zs.getD i 0))) ∧ ∀ n ∈ zs, (Lit.int k n).wf = true

theorem row_rd {k : IntKind} {w : World} {a : Option Addr} {len cap : Nat} {zs : List Int} (h : IsRow k w a len cap zs) :
    Rd k w a (zs.take len) ∧ (zs.take len).length = len ∧ (a = none → cap = 0 ∧ len = 0) ∧ len ≤ cap ∧ cap ≤ maxLen ∧ ∀ n ∈ zs.take len, (Lit.int k n).wf = true := by
  rcases h with ⟨rfl, rfl, rfl, rfl⟩ | ⟨x, rfl, h1, h2, h3, h4, h5⟩
  · exact ⟨.inl rfl, rfl, fun _ => ⟨rfl, rfl⟩, Nat.le_refl _, Nat.zero_le _, fun n hn => by simp at hn⟩
  · refine ⟨?_, by simp; omega, (fun h => by cases h), h1, h2, fun n hn => h5 n (List.mem_of_mem_take hn)⟩
    by_cases h0 : len = 0
    · subst h0; exact .inl rfl
    · obtain ⟨b, off, spot⟩ := x
      have hc := h4 0 (by omega)
      have hspot : spot = none := by simpa [Addr.add] using World.cell?_spot hc
      subst hspot
      have hb : b < w.heap.size := by
        have := World.block_lt_of_cell? w _ hc
        simpa [Addr.add] using this
      refine .inr ⟨b, off, rfl, hb, fun i hi => ?_⟩
      simp only [List.length_take] at hi
      have := h4 i (by omega)
      rw [Addr.add_lit] at this
      rw [this]
      congr 2
      simp [List.getD, show i < len by omega]
end Go.Proofs.Ytkojbpifcflgfaa
