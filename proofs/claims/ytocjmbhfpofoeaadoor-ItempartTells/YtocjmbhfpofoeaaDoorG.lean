/- The contract of awake, the look at the document's examples: it answers true, and what was in memory stays. No conditions. -/
import Derived.Test.YtocjmbhfpofoeaaDoorF
import Derived.Test.YtocjmbhfpofoeaaDoorY
import Derived.Laws.BytesArg
namespace Go.Proofs.YtocjmbhfpofoeaaDoor
open Go.RowKit

theorem own_sl {w : World} {base n : Nat} {v : Value} {e : TypeId} {k : IntKind} {zs : List Int} (h : w.ownsRow base e 1 v n (zs.map (Value.int k))) (hn : 0 < n) : Sl k zs v w := by
  obtain ⟨g, cap, rfl, _, hg, h1, h2⟩ := own_some h hn
  have hl := h.1
  simp only [List.length_map, Nat.mul_one] at hl
  subst hl
  exact ⟨g, 0, cap, rfl, hg, h1, h2, own_cells h⟩
theorem put_sl (a : Option Addr) (len cap : Nat) (zs : List Int) (u : Nat) (w : World) (hu : u < 18446744073709551616) (hz : zs.length = len) (hrd : Rd .u8 w a zs) (hs : len ≤ 140737487000000) :
    Calls Tryd.prog 59 #[.slice a len cap, .int .u64 (u : Int)] w fun e w' => ∃ v, e = .returned v ∧ Sl .u8 (zs ++ bs u) v w' ∧ Below w.heap.size w w' := by
  refine (put_any a len cap zs u w hu hz hrd hs).mono ?_
  rintro e w' ⟨v', rfl, ho, hb⟩
  have := bs_pos u
  exact ⟨v', rfl, own_sl ho (by omega), hb⟩
/-- The bytes of a slice as a string. -/
theorem conv (w : World) (g off cap n : Nat) (xs : List Int) (hn : xs.length = n) (hc : ∀ i, i < xs.length → w.cell? ⟨g, off + i, none⟩ = some (.int .u8 (xs.getD i 0))) :
    Sem.run Tryd.prog (convert 23 9 (.slice (some ⟨g, off, none⟩) n cap)) w = .ok (.string (strOfNums xs)) w :=
  run_convert_bytes_arg w 23 5 Tryd.underlying23 Tryd.underlying5 g off n cap xs hn (by rw [← hn]; exact hc) 9 Tryd.underlying9
theorem does_conv {o : Oper} {t : Nat} {a : Act} {w : World} {zs : List Int} (ho : o.op = Op.convert 23 9 (.tmp t)) (h : Sl .u8 zs (a.eval (.tmp t)) w) :
    does Tryd.prog o a.eval w (fun v w' => v = .string (strOfNums zs) ∧ Below w.heap.size w w') := by
  obtain ⟨g, off, cap, h1, _, _, _, h5⟩ := h
  refine does_val (v := .string (strOfNums zs)) (w' := w) ?_ ⟨rfl, Below.refl _ _⟩
  have hc := conv w g off cap zs.length zs rfl h5
  simp [execOp, ho, h1, hc]
theorem sl_lit2 (w : World) (x y : Int) : Sl .u8 [x, y] (.slice (some ⟨w.heap.size, 0, none⟩) 2 2) (w.alloc (.cells #[.int .u8 x, .int .u8 y] 5)) := by
  refine ⟨w.heap.size, 0, 2, rfl, by simp, by simp, by decide, ?_⟩
  intro i hi
  match i, hi with
  | 0, _ => simp
  | 1, _ => simp

theorem bs_300 : bs 300 = [172, 2] := by rw [bs_big (by decide), bs_small (by decide)]; rfl
def s300 : ByteArray := strOfNums [172, 2]
theorem take_300 (g : Nat) (w : World) (hg : g < w.heap.size) (h0 : w.cell? ⟨g, 0, none⟩ = some (.int .u8 172)) (h1 : w.cell? ⟨g, 1, none⟩ = some (.int .u8 2)) (h2 : w.cell? ⟨g, 2, none⟩ = some (.int .u8 9)) :
    Calls Tryd.prog 75 #[.slice (some ⟨g, 0, none⟩) 3 3] w fun e w' => ∃ h, e = .returned (.tuple #[.int .u64 300, .slice (some ⟨h, 0, none⟩) 1 1, .int .i64 0]) ∧ Below w.heap.size w w' := by
  have h := take_ok g 0 3 300 [9] w (by decide) hg (by
    rw [bs_300]
    intro i hi
    match i, hi with
    | 0, _ => exact h0
    | 1, _ => exact h1
    | 2, _ => exact h2) (by rw [bs_300]; decide) (by decide) (by decide)
  rw [bs_300] at h
  refine Calls.mono h ?_
  rintro e w' ⟨h, rfl, _, hb⟩
  exact ⟨h, rfl, hb⟩
end Go.Proofs.YtocjmbhfpofoeaaDoor
