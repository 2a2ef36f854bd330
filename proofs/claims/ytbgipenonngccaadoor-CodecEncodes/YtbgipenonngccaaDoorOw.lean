/- A row of the call's own as a slice that reads so; beginnings and ends of it. Conditions: those of each theorem. -/
import Derived.Test.YtbgipenonngccaaDoorFr
import Derived.Deep.AppendLies
namespace Go.Proofs.YtbgipenonngccaaDoor
open Go.ChangeShapes Go.WideShapes Go.ChangeAt Go.RowKit Go.Lib

theorem own_isI {w : World} {base n : Nat} {v : Value} {zs : List Int} (h : w.ownsRow base 2 1 v n (zs.map (Value.int .i64))) : ∃ a c, v = .slice a n c ∧ IsI .i64 w a n c zs := by
  obtain ⟨a, c, rfl, hr⟩ := own_form h
  have hl : zs.length = n := by have := h.1; simpa using this
  refine ⟨a, c, rfl, hl, own_cap h, ?_, hr, ?_⟩
  · rcases h with ⟨_, ⟨h, _⟩ | ⟨_, _, _, hv, _, _, _, h1, _⟩⟩
    · cases h; exact Nat.zero_le _
    · cases hv; exact h1
  · intro e
    rcases h with ⟨_, ⟨h, _⟩ | ⟨_, _, _, hv, _⟩⟩
    · cases h; rfl
    · cases hv; cases e
theorem Rd.take {k : IntKind} {w : World} {a : Option Addr} {zs : List Int} (h : Rd k w a zs) (n : Nat) : Rd k w a (zs.take n) := by
  rcases h with rfl | ⟨b, off, h1, h2, h3⟩
  · exact .inl (by simp)
  · refine .inr ⟨b, off, h1, h2, fun i hi => ?_⟩
    simp only [List.length_take] at hi
    rw [h3 i (by omega)]
    congr 2
    simp [List.getD, show i < n by omega]
theorem one_news (w : World) (x : Int) : ∀ j u, [Value.int .i64 x][j]? = some u → (w.alloc (.cells #[.int .i64 x] 2)).cell? ((⟨w.heap.size, 0, none⟩ : Addr).add j) = some u := one_at w (.int .i64 x) 2


theorem Rd.drop {k : IntKind} {w : World} {g n m cap : Nat} {zs : List Int} (h : Rd k w (some ⟨g, 0, none⟩) zs) (hz : zs.length = n) (hc : n ≤ cap) (hm : m ≤ n) : Rd k w (if cap = m then some ⟨g, 0, none⟩ else some ⟨g, m, none⟩) (zs.drop m) ∧ (zs.drop m).length = n - m := by
  refine ⟨?_, by simp [hz]⟩
  by_cases e : m = n
  · exact .inl (List.eq_nil_of_length_eq_zero (by simp [hz]; omega))
  · rw [if_neg (by omega)]
    rcases h with rfl | ⟨b, off, h1, h2, h3⟩
    · exact .inl (by simp)
    · cases h1
      refine .inr ⟨g, m, rfl, h2, fun i hi => ?_⟩
      simp only [List.length_drop] at hi
      rw [show m + i = 0 + (m + i) by omega, h3 (m + i) (by omega)]
      congr 2
      simp [List.getD]
end Go.Proofs.YtbgipenonngccaaDoor
