/- Literals in memory. Conditions: those of each theorem. -/
import Derived.Test.YtkojbpifcflgfaaMl
import Derived.Test.YtkojbpifcflgfaaIu
import Derived.Test.YtkojbpifcflgfaaDa
namespace Go.Proofs.Ytkojbpifcflgfaa
open Go.RowKit Go.Shelf

theorem heap_al (W : World) (o : Obj) (k : Nat) : (W.alloc o).heap[k]? = if k = W.heap.size then some o else W.heap[k]? := by
  by_cases h : k = W.heap.size
  · rw [if_pos h, h]; exact World.alloc_heap_new W o
  · rw [if_neg h]
    by_cases h2 : k < W.heap.size
    · exact Below.heap_alloc _ _ _ (by omega)
    · rw [Array.getElem?_eq_none (by rw [World.size_alloc]; omega), Array.getElem?_eq_none (by omega)]
theorem isI_at {W : World} {g : Nat} {t : TypeId} {f : Nat × Nat} {k : IntKind} {xs : List Int} (h : W.heap[g]? = some (.cells (xs.map (Value.int k)).toArray t f)) (hn : xs.length ≤ 1000000) : IsI k W (some ⟨g, 0, none⟩) xs.length xs.length xs :=
  ⟨rfl, Nat.le_refl _, by unfold maxLen; omega, .inr ⟨g, 0, rfl, (Array.getElem?_eq_some_iff.1 h).1, fun i hi => by
    rw [I.cell_of h, Nat.zero_add]; simp [List.getD, hi]⟩, fun e => by cases e⟩
theorem isS_of_isI {w0 W : World} {a : Option Addr} {n c : Nat} {xs : List Int} (h : IsI .i64 W a n c xs) : I.IsS (kI w0) W a n c xs := ⟨h.hl, h.hc, h.hm, h.nil, rd_any h.rd⟩
theorem isI_of_own {w : World} {base : Nat} {v : Value} {ys : List Int} (h : w.ownsRow base 3 1 v ys.length (ys.map (Value.int .i64))) : ∃ a c, v = .slice a ys.length c ∧ IsI .i64 w a ys.length c ys := own_isI h
/-- Two rows of numbers, written out. -/
def two (W : World) (xs ys : List Int) : World := ((W.alloc (.cells (xs.map (Value.int .i64)).toArray 3)).alloc (.cells (ys.map (Value.int .i64)).toArray 3)).alloc (.cells #[.slice (some ⟨W.heap.size, 0, none⟩) xs.length xs.length, .slice (some ⟨W.heap.size + 1, 0, none⟩) ys.length ys.length] 30)
theorem two_below (W : World) (xs ys : List Int) : Below W.heap.size W (two W xs ys) := (((Below.refl _ _).alloc (Nat.le_refl _) _).alloc (by simp) _).alloc (by simp; omega) _
theorem two_ss (W : World) (xs ys : List Int) (hx : xs.length ≤ 1000) (hy : ys.length ≤ 1000) : I.IsSS (kI (two W xs ys)) (two W xs ys) (some ⟨W.heap.size + 2, 0, none⟩) 2 2 [xs, ys] := by
  have h0 : (two W xs ys).heap[W.heap.size]? = some (.cells (xs.map (Value.int .i64)).toArray 3) := by
    unfold two
    rw [heap_al, if_neg (by simp; omega), heap_al, if_neg (by simp), heap_al, if_pos rfl]
  have h1 : (two W xs ys).heap[W.heap.size + 1]? = some (.cells (ys.map (Value.int .i64)).toArray 3) := by
    unfold two
    rw [heap_al, if_neg (by simp), heap_al, if_pos (by simp)]
  have h2 : (two W xs ys).heap[W.heap.size + 2]? = some (.cells #[.slice (some ⟨W.heap.size, 0, none⟩) xs.length xs.length, .slice (some ⟨W.heap.size + 1, 0, none⟩) ys.length ys.length] 30) := by
    unfold two
    rw [heap_al, if_pos (by simp)]
  exact isSS_two (isS_of_isI (isI_at h0 (by omega))) (isS_of_isI (isI_at h1 (by omega))) h2
theorem ints_two (W : World) (xs ys : List Int) (hx : xs.length ≤ 1000) (hy : ys.length ≤ 1000) : Calls Try.prog 16 #[.slice (some ⟨W.heap.size + 2, 0, none⟩) 2 2] (two W xs ys) (NewR (two W xs ys) (inss ltI (xs ++ ys))) := by
  have h := ints_any (some ⟨W.heap.size + 2, 0, none⟩) 2 2 [xs, ys] (two W xs ys) (two_ss W xs ys hx hy) (by omega) (by simp [I.tot]; omega) (fun i => by match i with | 0 => (simp; omega) | 1 => (simp; omega) | k + 2 => simp)
  simp only [List.flatten_cons, List.flatten_nil, List.append_nil] at h
  exact h
theorem meet_two (W : World) (xs ys : List Int) (hx : xs.length ≤ 1000) (hy : ys.length ≤ 1000) : Calls Try.prog 18 #[.slice (some ⟨W.heap.size + 2, 0, none⟩) 2 2] (two W xs ys) (NewR (two W xs ys) (hads 2 [xs, ys])) :=
  meet_any (some ⟨W.heap.size + 2, 0, none⟩) 2 2 [xs, ys] (two W xs ys) (two_ss W xs ys hx hy) (by omega) (by simp [I.tot]; omega) (fun i => by match i with | 0 => (simp; omega) | 1 => (simp; omega) | k + 2 => simp)

theorem below_dr' (B : Nat) (w : World) (n : Nat) : Below B w (w.drewN n) := ⟨rfl, rfl, rfl, Nat.le_refl _, fun _ _ => rfl⟩
/-- Two rows of numbers, each on its own. -/
def pair (W : World) (xs ys : List Int) : World := (W.alloc (.cells (xs.map (Value.int .i64)).toArray 3)).alloc (.cells (ys.map (Value.int .i64)).toArray 3)
theorem pair_below (W : World) (xs ys : List Int) : Below W.heap.size W (pair W xs ys) := ((Below.refl _ _).alloc (Nat.le_refl _) _).alloc (by simp) _
theorem less_two (W : World) (xs ys : List Int) (hx : xs.length ≤ 1000) (hy : ys.length ≤ 1000) : Calls Try.prog 20 #[.slice (some ⟨W.heap.size, 0, none⟩) xs.length xs.length, .slice (some ⟨W.heap.size + 1, 0, none⟩) ys.length ys.length] (pair W xs ys) (NewR (pair W xs ys) (hads 1 [xs, hads 2 [xs, ys]])) := by
  have h0 : (pair W xs ys).heap[W.heap.size]? = some (.cells (xs.map (Value.int .i64)).toArray 3) := by
    unfold pair
    rw [heap_al, if_neg (by simp), heap_al, if_pos rfl]
  have h1 : (pair W xs ys).heap[W.heap.size + 1]? = some (.cells (ys.map (Value.int .i64)).toArray 3) := by
    unfold pair
    rw [heap_al, if_pos (by simp)]
  exact less_any _ _ _ _ _ _ xs ys _ (isS_of_isI (isI_at h0 (by omega))) (isS_of_isI (isI_at h1 (by omega))) (by omega) (by omega)

/-- The example's items. -/
def six (w : World) : World := (((((w.alloc (.cells #[.int .u8 98] 5 (1, 2))).alloc (.cells #[.slice (some ⟨w.heap.size, 0, none⟩) 1 1] 41)).alloc (.cells #[.int .u8 97] 5 (1, 2))).alloc (.cells #[.int .u8 98] 5 (1, 2))).alloc
  (.cells #[.slice (some ⟨w.heap.size + 2, 0, none⟩) 1 1, .slice (some ⟨w.heap.size + 3, 0, none⟩) 1 1] 41)).alloc (.cells #[.slice (some ⟨w.heap.size + 1, 0, none⟩) 1 1, .slice (some ⟨w.heap.size + 4, 0, none⟩) 2 2] 26)
theorem six_below (w : World) : Below w.heap.size w (six w) := (((((((Below.refl _ _).alloc (Nat.le_refl _) _).alloc (by simp) _).alloc (by simp; omega) _).alloc (by simp; omega) _).alloc (by simp; omega) _)).alloc (by simp; omega) _
theorem isR_at {W : World} {g n : Nat} {t : TypeId} {f : Nat × Nat} {cur : Array Value} {ls : List (List Int)} (h : W.heap[g]? = some (.cells cur t f)) (hl : ls.length = n) (hn : n ≤ 1000000) (hc : ∀ i, i < n → ∃ ai ni ci, cur[i]? = some (.slice ai ni ci) ∧ IsI .u8 W ai ni ci (ls.getD i [])) : IsR W (some ⟨g, 0, none⟩) n n ls :=
  ⟨hl, Nat.le_refl _, by unfold maxLen; omega, .inr ⟨g, 0, rfl, (Array.getElem?_eq_some_iff.1 h).1, fun i hi => by
    obtain ⟨ai, ni, ci, e1, e2⟩ := hc i (by omega)
    exact ⟨ai, ni, ci, by rw [I.cell_of h, Nat.zero_add]; exact e1, e2⟩⟩, fun e => by cases e⟩
theorem six_items (w : World) : Calls Try.prog 12 #[.slice (some ⟨w.heap.size + 5, 0, none⟩) 2 2] (six w) (NewB (six w) [[97], [98]]) := by
  have h0 : (six w).heap[w.heap.size]? = some (.cells #[.int .u8 98] 5 (1, 2)) := by
    unfold six
    rw [heap_al, if_neg (by simp <;> omega), heap_al, if_neg (by simp <;> omega), heap_al, if_neg (by simp <;> omega), heap_al, if_neg (by simp <;> omega), heap_al, if_neg (by simp), heap_al, if_pos rfl]
  have h1 : (six w).heap[w.heap.size + 1]? = some (.cells #[.slice (some ⟨w.heap.size, 0, none⟩) 1 1] 41) := by
    unfold six
    rw [heap_al, if_neg (by simp <;> omega), heap_al, if_neg (by simp <;> omega), heap_al, if_neg (by simp <;> omega), heap_al, if_neg (by simp), heap_al, if_pos (by simp)]
  have h2 : (six w).heap[w.heap.size + 2]? = some (.cells #[.int .u8 97] 5 (1, 2)) := by
    unfold six
    rw [heap_al, if_neg (by simp <;> omega), heap_al, if_neg (by simp <;> omega), heap_al, if_neg (by simp), heap_al, if_pos (by simp)]
  have h3 : (six w).heap[w.heap.size + 3]? = some (.cells #[.int .u8 98] 5 (1, 2)) := by
    unfold six
    rw [heap_al, if_neg (by simp <;> omega), heap_al, if_neg (by simp), heap_al, if_pos (by simp)]
  have h4 : (six w).heap[w.heap.size + 4]? = some (.cells #[.slice (some ⟨w.heap.size + 2, 0, none⟩) 1 1, .slice (some ⟨w.heap.size + 3, 0, none⟩) 1 1] 41) := by
    unfold six
    rw [heap_al, if_neg (by simp), heap_al, if_pos (by simp)]
  have h5 : (six w).heap[w.heap.size + 5]? = some (.cells #[.slice (some ⟨w.heap.size + 1, 0, none⟩) 1 1, .slice (some ⟨w.heap.size + 4, 0, none⟩) 2 2] 26) := by
    unfold six
    rw [heap_al, if_pos (by simp)]
  have i0 := isI_at (k := .u8) (xs := [98]) h0 (by decide)
  have i2 := isI_at (k := .u8) (xs := [97]) h2 (by decide)
  have i3 := isI_at (k := .u8) (xs := [98]) h3 (by decide)
  have r1 : IsR (six w) (some ⟨w.heap.size + 1, 0, none⟩) 1 1 [[98]] := isR_at h1 rfl (by decide) (fun i hi => by
    obtain rfl : i = 0 := by omega
    exact ⟨_, _, _, rfl, i0⟩)
  have r4 : IsR (six w) (some ⟨w.heap.size + 4, 0, none⟩) 2 2 [[97], [98]] := isR_at h4 rfl (by decide) (fun i hi => by
    match i, hi with
    | 0, _ => exact ⟨_, _, _, rfl, i2⟩
    | 1, _ => exact ⟨_, _, _, rfl, i3⟩)
  have hw1 : WfR [[98]] := fun l hl x hx => by simp at hl; subst hl; simp at hx; subst hx; decide
  have hw2 : WfR [[97], [98]] := fun l hl x hx => by
    simp at hl
    rcases hl with rfl | rfl <;> (simp at hx; subst hx; decide)
  have h : IsRR (six w) (some ⟨w.heap.size + 5, 0, none⟩) 2 2 [[[98]], [[97], [98]]] := ⟨rfl, Nat.le_refl _, fun i hi => by
    match i, hi with
    | 0, _ => exact ⟨_, 0, _, _, _, rfl, by rw [I.cell_of h5]; rfl, r1, hw1⟩
    | 1, _ => exact ⟨_, 0, _, _, _, rfl, by rw [I.cell_of h5]; rfl, r4, hw2⟩⟩
  have := items_any _ 2 2 [[[98]], [[97], [98]]] (six w) h (by omega) (by decide) (fun i => by match i with | 0 => simp | 1 => simp | k + 2 => simp) (fun r hr x hx => by
    simp at hr
    rcases hr with rfl | rfl
    · simp at hx; subst hx; decide
    · simp at hx; rcases hx with rfl | rfl <;> decide)
  rw [show inss li ([[[98]], [[97], [98]]] : List (List (List Int))).flatten = [[97], [98]] by decide] at this
  exact this
end Go.Proofs.Ytkojbpifcflgfaa
