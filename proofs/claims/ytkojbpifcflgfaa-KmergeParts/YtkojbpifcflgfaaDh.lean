/- Rows of items: some of them, those left, two, three, turned; what Items tells of them. Conditions: how the rows lie; sizes. -/
import Derived.Test.YtkojbpifcflgfaaItems
namespace Go.Proofs.Ytkojbpifcflgfaa
open Go.RowKit Go.Shelf

theorem IsQ.take {w : World} {a : Option Addr} {n c k : Nat} {rows : List (List (List Int))} (h : IsQ w a n c rows) (hk : k ≤ n) : IsQ w a k c (rows.take k) :=
  ⟨by rw [List.length_take, h.hl]; omega, Nat.le_trans hk h.hc, h.hm, h.nil, fun i hi => by
    obtain ⟨b, off, ai, ni, ci, h1, h2, h3, h4, h5⟩ := h.rd i (by omega)
    have e : (rows.take k).getD i [] = rows.getD i [] := by simp [List.getD, hi]
    exact ⟨b, off, ai, ni, ci, h1, h2, h3, by rw [e]; exact h4, by rw [e]; exact h5⟩⟩
theorem IsQ.drop {w : World} {b off n c k : Nat} {rows : List (List (List Int))} (h : IsQ w (some ⟨b, off, none⟩) n c rows) (hk : k ≤ n) : IsQ w (some ⟨b, off + k, none⟩) (n - k) (c - k) (rows.drop k) :=
  ⟨by rw [List.length_drop, h.hl], by have := h.hc; omega, by have := h.hm; omega, (fun e => by cases e), fun i hi => by
    obtain ⟨b', off', ai, ni, ci, h1, h2, h3, h4, h5⟩ := h.rd (k + i) (by omega)
    cases h1
    have e : (rows.drop k).getD i [] = rows.getD (k + i) [] := by simp [List.getD]
    exact ⟨b, off + k, ai, ni, ci, rfl, h2, by rw [Nat.add_assoc]; exact h3, by rw [e]; exact h4, by rw [e]; exact h5⟩⟩
theorem isQ_none (w : World) {a : Option Addr} {c : Nat} (hm : c ≤ maxLen) (hn : a = none → c = 0) : IsQ w a 0 c [] := ⟨rfl, Nat.zero_le _, hm, hn, fun i hi => by omega⟩

/-- A value that is a slice of these items. -/
def SlQ (W : World) (v : Value) (l : List (List Int)) : Prop := ∃ a n c, v = .slice a n c ∧ IsR W a n c l ∧ WfR l
def FoQ (W : World) : List Value → List (List (List Int)) → Prop
  | [], [] => True
  | v :: vs, l :: ls => SlQ W v l ∧ FoQ W vs ls
  | _, _ => False
theorem FoQ.len {W : World} : ∀ {vs : List Value} {ls : List (List (List Int))}, FoQ W vs ls → vs.length = ls.length
  | [], [], _ => rfl
  | _ :: _, _ :: _, h => by have := FoQ.len h.2; simp [this]
theorem FoQ.below {W W' : World} (hb : Below W.heap.size W W') : ∀ {vs : List Value} {ls : List (List (List Int))}, FoQ W vs ls → FoQ W' vs ls
  | [], [], _ => trivial
  | _ :: _, _ :: _, h => by
    obtain ⟨⟨a, n, c, e, hi, hw⟩, h2⟩ := h
    exact ⟨⟨a, n, c, e, hi.below hb, hw⟩, FoQ.below hb h2⟩
theorem FoQ.app {W : World} : ∀ {vs us : List Value} {ls ms : List (List (List Int))}, FoQ W vs ls → FoQ W us ms → FoQ W (vs ++ us) (ls ++ ms)
  | [], _, [], _, _, h => h
  | _ :: _, _, _ :: _, _, h1, h2 => ⟨h1.1, FoQ.app h1.2 h2⟩
theorem FoQ.get {W : World} : ∀ {vs : List Value} {ls : List (List (List Int))} {i : Nat}, FoQ W vs ls → i < ls.length → ∃ u, vs[i]? = some u ∧ SlQ W u (ls.getD i [])
  | [], [], i, _, hi => by simp at hi
  | v :: _, _ :: _, 0, h, _ => ⟨v, rfl, h.1⟩
  | _ :: _, _ :: _, i + 1, h, hi => by
    obtain ⟨u, h1, h2⟩ := FoQ.get (i := i) h.2 (by simpa using hi)
    exact ⟨u, by simpa using h1, by simpa using h2⟩
theorem own_isQ {W : World} {D n : Nat} {v : Value} {vs : List Value} {ls : List (List (List Int))} (h : W.ownsRow D 26 1 v n vs) (hf : FoQ W vs ls) : ∃ a c, v = .slice a n c ∧ IsQ W a n c ls := by
  have hl := h.1
  have hle := hf.len
  by_cases hn : 0 < n
  · obtain ⟨g, cap, h1, h2, h3, h4, h5, h6, _⟩ := own_cell h hn
    refine ⟨_, cap, h1, ⟨by omega, h4, h5, (fun h => by cases h), fun i hi => ?_⟩⟩
    obtain ⟨u, hu, ai, ni, ci, rfl, hii, hw⟩ := hf.get (i := i) (by omega)
    exact ⟨g, 0, ai, ni, ci, rfl, h3, by rw [Nat.zero_add]; exact h6 _ _ hu, hii, hw⟩
  · obtain rfl : n = 0 := by omega
    have hv : ls = [] := List.eq_nil_of_length_eq_zero (by omega)
    subst hv
    rcases h.2 with ⟨h1, _⟩ | ⟨g, cap, cur, h1, _, _, h4, h5, _⟩
    · exact ⟨none, 0, h1, isQ_none _ (Nat.zero_le _) (fun _ => rfl)⟩
    · exact ⟨_, cap, h1, isQ_none _ h5 (fun h => by cases h)⟩
/-- Two rows, three rows, written out. -/
theorem isQ2 (W : World) {a b : Option Addr} {n c m d : Nat} {us vs : List (List Int)} (h1 : IsR W a n c us) (w1 : WfR us) (h2 : IsR W b m d vs) (w2 : WfR vs) : IsQ (W.alloc (.cells #[.slice a n c, .slice b m d] 26)) (some ⟨W.heap.size, 0, none⟩) 2 2 [us, vs] :=
  ⟨rfl, Nat.le_refl _, by unfold maxLen; omega, (fun e => by cases e), fun i hi => by
    have hb := al1 W (.cells #[.slice a n c, .slice b m d] 26)
    match i, hi with
    | 0, _ => exact ⟨_, 0, a, n, c, rfl, by simp, by rw [I.cell_of (World.alloc_heap_new W _)]; rfl, h1.below hb, w1⟩
    | 1, _ => exact ⟨_, 0, b, m, d, rfl, by simp, by rw [I.cell_of (World.alloc_heap_new W _)]; rfl, h2.below hb, w2⟩⟩
theorem isQ3 (W : World) {a b g : Option Addr} {n c m d k e : Nat} {us vs zs : List (List Int)} (h1 : IsR W a n c us) (w1 : WfR us) (h2 : IsR W b m d vs) (w2 : WfR vs) (h3 : IsR W g k e zs) (w3 : WfR zs) : IsQ (W.alloc (.cells #[.slice a n c, .slice b m d, .slice g k e] 26)) (some ⟨W.heap.size, 0, none⟩) 3 3 [us, vs, zs] :=
  ⟨rfl, Nat.le_refl _, by unfold maxLen; omega, (fun e => by cases e), fun i hi => by
    have hb := al1 W (.cells #[.slice a n c, .slice b m d, .slice g k e] 26)
    match i, hi with
    | 0, _ => exact ⟨_, 0, a, n, c, rfl, by simp, by rw [I.cell_of (World.alloc_heap_new W _)]; rfl, h1.below hb, w1⟩
    | 1, _ => exact ⟨_, 0, b, m, d, rfl, by simp, by rw [I.cell_of (World.alloc_heap_new W _)]; rfl, h2.below hb, w2⟩
    | 2, _ => exact ⟨_, 0, g, k, e, rfl, by simp, by rw [I.cell_of (World.alloc_heap_new W _)]; rfl, h3.below hb, w3⟩⟩

/-- Rows that are short. -/
def Bd (rows : List (List (List Int))) : Prop := ∀ r ∈ rows, r.length ≤ 1000 ∧ ∀ x ∈ r, x.length ≤ 1000
theorem items_q {W : World} {a : Option Addr} {n c : Nat} {rows : List (List (List Int))} (h : IsQ W a n c rows) (hn : n ≤ 100) (hb : Bd rows) : Calls Try.prog 12 #[.slice a n c] W (NewO W (inss li rows.flatten)) := by
  have hl := h.hl
  have h1 : ∀ i, (rows.getD i []).length ≤ 1000 := fun i => by
    by_cases hi : i < rows.length
    · have : rows.getD i [] = rows[i] := by simp [List.getD, hi]
      rw [this]; exact (hb _ (List.getElem_mem hi)).1
    · rw [show rows.getD i [] = [] by simp [List.getD, List.getElem?_eq_none (show rows.length ≤ i by omega)]]
      exact Nat.zero_le _
  have h2 := flatQ_le 1000 rows (fun i _ => h1 i)
  exact Calls.mono (items_any a n c rows W h.rr (by omega) (by rw [← List.length_flatten]; omega) (fun i => Nat.le_trans (h1 i) (by omega)) (fun r hr x hx => Nat.le_trans ((hb r hr).2 x hx) (by omega))) (fun _ _ h => newO_of h)

theorem parts1 (rows : List (List (List Int))) (k : Nat) : inss li ([inss li (rows.take k).flatten, inss li (rows.drop k).flatten] : List (List (List Int))).flatten = inss li rows.flatten := by
  refine inss_eq stoL (inss_inc stoL _) (fun z => ?_)
  rw [mem_inss stoL]
  simp only [List.flatten_cons, List.flatten_nil, List.append_nil, List.mem_append, mem_inss stoL]
  rw [← List.mem_append, ← List.flatten_append, List.take_append_drop]
theorem parts2 (rows : List (List (List Int))) : inss li rows.reverse.flatten = inss li rows.flatten := by
  refine inss_eq stoL (inss_inc stoL _) (fun z => ?_)
  rw [mem_inss stoL, List.mem_flatten, List.mem_flatten]
  simp only [List.mem_reverse]
theorem parts3 (rows : List (List (List Int))) (k : Nat) : inss li ([inss li rows.flatten, inss li rows.flatten, inss li (rows.take k).flatten] : List (List (List Int))).flatten = inss li rows.flatten := by
  refine inss_eq stoL (inss_inc stoL _) (fun z => ?_)
  rw [mem_inss stoL]
  simp only [List.flatten_cons, List.flatten_nil, List.append_nil, List.mem_append, mem_inss stoL]
  constructor
  · rintro (h | h | h)
    · exact h
    · exact h
    · obtain ⟨r, hr, hz⟩ := List.mem_flatten.1 h
      exact List.mem_flatten.2 ⟨r, List.mem_of_mem_take hr, hz⟩
  · exact fun h => .inl h
theorem rises_inss (l : List (List Int)) : rises (inss li l) = true := rises_iff.2 fun i hi => by
  have h := List.pairwise_iff_getElem.1 (inss_inc stoL l) i (i + 1) (by omega) hi (by omega)
  rw [getD_eqR (show i < (inss li l).length by omega), getD_eqR hi]
  exact h
end Go.Proofs.Ytkojbpifcflgfaa
