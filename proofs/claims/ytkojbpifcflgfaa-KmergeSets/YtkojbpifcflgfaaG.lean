/- The contract of awake, the look at the document's examples: it answers true, and what was in memory stays. No conditions. -/
import Derived.Test.YtkojbpifcflgfaaF
import Derived.Test.YtkojbpifcflgfaaY
import Derived.Laws.BytesArg
namespace Go.Proofs.Ytkojbpifcflgfaa
open Go.RowKit

theorem own_sl {w : World} {base n : Nat} {v : Value} {e : TypeId} {k : IntKind} {zs : List Int} (h : w.ownsRow base e 1 v n (zs.map (Value.int k))) (hn : 0 < n) : Sl k zs v w := by
  obtain ⟨g, cap, rfl, _, hg, h1, h2⟩ := own_some h hn
  have hl := h.1
  simp only [List.length_map, Nat.mul_one] at hl
  subst hl
  exact ⟨g, 0, cap, rfl, hg, h1, h2, own_cells h⟩
/-- The bytes of a slice as a string. -/
theorem conv (w : World) (g off cap n : Nat) (xs : List Int) (hn : xs.length = n) (hc : ∀ i, i < xs.length → w.cell? ⟨g, off + i, none⟩ = some (.int .u8 (xs.getD i 0))) :
    Sem.run Try.prog (convert 41 9 (.slice (some ⟨g, off, none⟩) n cap)) w = .ok (.string (strOfNums xs)) w :=
  run_convert_bytes_arg w 41 5 Try.underlying41 Try.underlying5 g off n cap xs hn (by rw [← hn]; exact hc) 9 Try.underlying9
theorem does_conv {o : Oper} {t : Nat} {a : Act} {w : World} {zs : List Int} (ho : o.op = Op.convert 41 9 (.tmp t)) (h : Sl .u8 zs (a.eval (.tmp t)) w) :
    does Try.prog o a.eval w (fun v w' => v = .string (strOfNums zs) ∧ Below w.heap.size w w') := by
  obtain ⟨g, off, cap, h1, _, _, _, h5⟩ := h
  refine does_val (v := .string (strOfNums zs)) (w' := w) ?_ ⟨rfl, Below.refl _ _⟩
  have hc := conv w g off cap zs.length zs rfl h5
  simp [execOp, ho, h1, hc]
theorem sl_lit2 (w : World) (x y : Int) : Sl .u8 [x, y] (.slice (some ⟨w.heap.size, 0, none⟩) 2 2) (w.alloc (.cells #[.int .u8 x, .int .u8 y] 5)) := by
  refine ⟨w.heap.size, 0, 2, rfl, by simp, by simp, by decide, ?_⟩
  intro i hi
  match i, hi with
  | 0, _ => simp
  | 1, _ => simp

theorem bs_300 : bs 300 = [172, 2] := by rw [bs_big (by decide), bs_small (by decide)]; rfl
def s300 : ByteArray := strOfNums [172, 2]
end Go.Proofs.Ytkojbpifcflgfaa
