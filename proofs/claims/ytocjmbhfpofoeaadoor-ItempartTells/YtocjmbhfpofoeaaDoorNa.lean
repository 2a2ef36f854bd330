/- What told keeps in memory, and the contract of its closure, that takes a number off. Conditions: those of each theorem. -/
import Derived.Test.YtocjmbhfpofoeaaDoorX
import Derived.RangeFuncBox
import Derived.RangeFuncNested
namespace Go.Proofs.YtocjmbhfpofoeaaDoor
open Go.RowKit

/-- Blocks that are rows of bytes are as they were. -/
structure K5 (w w' : World) : Prop where
  size : w.heap.size ≤ w'.heap.size
  row : ∀ (g : Nat) cur f, w.heap[g]? = some (.cells cur 5 f) → w'.heap[g]? = some (.cells cur 5 f)
theorem K5.refl (w : World) : K5 w w := ⟨Nat.le_refl _, fun _ _ _ h => h⟩
theorem K5.trans {a b c : World} (h : K5 a b) (k : K5 b c) : K5 a c := ⟨Nat.le_trans h.size k.size, fun g cur f e => k.row g cur f (h.row g cur f e)⟩
theorem blk_lt {w : World} {b : Nat} {o : Obj} (h : w.heap[b]? = some o) : b < w.heap.size := (Array.getElem?_eq_some_iff.1 h).1
theorem K5.of_below {w w' : World} (h : Below w.heap.size w w') : K5 w w' := ⟨h.size, fun g _ _ e => (h.block g (blk_lt e)).trans e⟩
theorem K5.of_grown {w w' : World} {row : Option Nat} (hg : w.grownBy w' row) (hr : ∀ (g : Nat), row = some g → ∃ cur t f, w.heap[g]? = some (.cells cur t f) ∧ t ≠ 5) : K5 w w' :=
  ⟨hg.size, fun g cur f e => (hg.block g (blk_lt e) (fun h => by
    obtain ⟨c, t, f', e', ht⟩ := hr g h.symm
    rw [e] at e'; cases e'; exact ht rfl)).trans e⟩
theorem K5.of_set {w : World} {B : Nat} {t : TypeId} {v : Value} (h : Boxed w B t v) (ht : t ≠ 5) (u : Value) : K5 w (w.setCell ⟨B, 0, none⟩ u) :=
  K5.of_grown (grownBy_setCell' w B u) (fun g e => by cases e; exact ⟨_, _, _, h, ht⟩)
theorem own_tag {w : World} {base n size : Nat} {v : Value} {e : TypeId} {xs : List Value} (h : w.ownsRow base e size v n xs) : ∀ (g : Nat), v.ownBlock = some g → ∃ cur f, w.heap[g]? = some (.cells cur e f) := by
  intro g hg
  rcases h.2 with ⟨rfl, _⟩ | ⟨g', cap, cur, rfl, _, h3, _⟩
  · simp [Value.ownBlock] at hg
  · simp [Value.ownBlock] at hg
    subst hg
    exact ⟨cur, _, h3⟩
/-- A slice of bytes that lies in a row of bytes. -/
def IsT (w : World) (a : Option Addr) (n c : Nat) (zs : List Int) : Prop := IsI .u8 w a n c zs ∧ ∀ (g off : Nat) s, a = some ⟨g, off, s⟩ → ∃ cur f, w.heap[g]? = some (.cells cur 5 f)
theorem IsT.keep {w w' : World} {a : Option Addr} {n c : Nat} {zs : List Int} (h : IsT w a n c zs) (hk : K5 w w') : IsT w' a n c zs := by
  obtain ⟨⟨hl, hc, hm, hr, hn⟩, ht⟩ := h
  refine ⟨⟨hl, hc, hm, ?_, hn⟩, fun g off s e => ?_⟩
  · rcases hr with h | ⟨b, off, h1, h2, h3⟩
    · exact .inl h
    · obtain ⟨cur, f, e⟩ := ht b off _ h1
      refine .inr ⟨b, off, h1, Nat.lt_of_lt_of_le h2 hk.size, fun i hi => ?_⟩
      exact (World.cell?_of_block (a := ⟨b, off + i, Option.none⟩) ((hk.row b cur f e).trans e.symm)).trans (h3 i hi)
  · obtain ⟨cur, f, e⟩ := ht g off s e
    exact ⟨cur, f, hk.row g cur f e⟩
theorem isT_nil (w : World) : IsT w none 0 0 [] := ⟨isI_nil _ w, fun _ _ _ h => by cases h⟩
theorem own_isT {w : World} {base n : Nat} {v : Value} {zs : List Int} (h : w.ownsRow base 5 1 v n (zs.map (Value.int .u8))) : ∃ a c, v = .slice a n c ∧ IsT w a n c zs := by
  obtain ⟨a, c, rfl, hI⟩ := own_isI h
  refine ⟨a, c, rfl, hI, fun g off s e => ?_⟩
  subst e
  exact own_tag h g rfl
/-- Values that are slices of these items, each in a row of bytes. -/
def RdX (w : World) (xs : List Value) (ls : List (List Int)) : Prop := xs.length = ls.length ∧ ∀ i, i < ls.length → ∃ a n c, xs[i]? = some (.slice a n c) ∧ IsT w a n c (ls.getD i [])
theorem RdX.keep {w w' : World} {xs : List Value} {ls : List (List Int)} (h : RdX w xs ls) (hk : K5 w w') : RdX w' xs ls :=
  ⟨h.1, fun i hi => by obtain ⟨a, n, c, e, ht⟩ := h.2 i hi; exact ⟨a, n, c, e, ht.keep hk⟩⟩
theorem rdX_nil (w : World) : RdX w [] [] := ⟨rfl, fun i hi => by simp at hi⟩
theorem RdX.snoc {w : World} {xs : List Value} {ls : List (List Int)} (h : RdX w xs ls) {a : Option Addr} {n c : Nat} {x : List Int} (hx : IsT w a n c x) : RdX w (xs ++ [.slice a n c]) (ls ++ [x]) := by
  refine ⟨by simp [h.1], fun i hi => ?_⟩
  rcases Nat.lt_or_ge i ls.length with h1 | h1
  · obtain ⟨a', n', c', e, ht⟩ := h.2 i h1
    refine ⟨a', n', c', ?_, ?_⟩
    · rw [List.getElem?_append_left (by rw [h.1]; exact h1)]; exact e
    · have : (ls ++ [x]).getD i [] = ls.getD i [] := by simp [List.getD, List.getElem?_append_left h1]
      rw [this]; exact ht
  · obtain rfl : i = ls.length := by simp at hi; omega
    refine ⟨a, n, c, ?_, ?_⟩
    · rw [← h.1]; simp
    · have : (ls ++ [x]).getD ls.length [] = x := by simp [List.getD]
      rw [this]; exact hx
theorem rdX_one {w : World} {xs : List Value} {ls : List (List Int)} (h : RdX w xs ls) : ∀ u ∈ xs, u.oneCell' = true := by
  intro u hu
  obtain ⟨i, hi, e⟩ := List.getElem_of_mem hu
  obtain ⟨a, n, c, e', _⟩ := h.2 i (by rw [← h.1]; exact hi)
  rw [List.getElem?_eq_getElem hi, e] at e'
  cases e'; rfl
/-- A row of items of the call's own reads so. -/
theorem own_isR {w : World} {base n : Nat} {v : Value} {xs : List Value} {ls : List (List Int)} (h : w.ownsRow base 23 1 v n xs) (hx : RdX w xs ls) : ∃ a c, v = .slice a n c ∧ IsR w a n c ls := by
  have hl := h.1
  rw [Nat.mul_one, hx.1] at hl
  by_cases hn : 0 < n
  · obtain ⟨g, cap, h1, h2, h3, h4, h5, h6, _⟩ := own_cell h hn
    refine ⟨_, cap, h1, ⟨by omega, h4, h5, .inr ⟨g, 0, rfl, h3, fun i hi => ?_⟩, fun h => by cases h⟩⟩
    obtain ⟨a, m, c, e, ht⟩ := hx.2 i hi
    rw [Nat.zero_add]
    exact ⟨a, m, c, h6 _ _ e, ht.1⟩
  · obtain rfl : n = 0 := by omega
    have hv : ls = [] := List.eq_nil_of_length_eq_zero (by omega)
    rcases h.2 with ⟨h1, _⟩ | ⟨g, cap, cur, h1, _, _, h4, h5, _⟩
    · exact ⟨none, 0, h1, ⟨by omega, Nat.le_refl _, Nat.zero_le _, .inl hv, fun _ => rfl⟩⟩
    · exact ⟨_, cap, h1, ⟨by omega, h4, h5, .inl hv, fun h => by cases h⟩⟩

/-- Items each in a row of bytes. -/
def RdT (w : World) (a : Option Addr) (ls : List (List Int)) : Prop :=
  ls = [] ∨ ∃ b off, a = some ⟨b, off, none⟩ ∧ b < w.heap.size ∧ ∀ i, i < ls.length → ∃ ai ni ci, w.cell? ⟨b, off + i, none⟩ = some (.slice ai ni ci) ∧ IsT w ai ni ci (ls.getD i [])
theorem own_rdT {w : World} {base n : Nat} {a : Option Addr} {c : Nat} {xs : List Value} {ls : List (List Int)} (h : w.ownsRow base 23 1 (.slice a n c) n xs) (hx : RdX w xs ls) : RdT w a ls := by
  have hl := h.1
  rw [Nat.mul_one, hx.1] at hl
  by_cases hn : 0 < n
  · obtain ⟨g, cap, h1, h2, h3, h4, h5, h6, _⟩ := own_cell h hn
    cases h1
    refine .inr ⟨g, 0, rfl, h3, fun i hi => ?_⟩
    obtain ⟨a, m, c, e, ht⟩ := hx.2 i hi
    rw [Nat.zero_add]
    exact ⟨a, m, c, h6 _ _ e, ht⟩
  · exact .inl (List.eq_nil_of_length_eq_zero (by omega))
/-- Items in memory of the call's own: they read so wherever rows of bytes, and what lies at or beyond a base, are as they were. -/
def IsN (base : Nat) (w : World) (a : Option Addr) (n c : Nat) (ls : List (List Int)) : Prop :=
  ∀ U : World, K5 w U → (∀ (k : Nat) cur f, base ≤ k → w.heap[k]? = some (.cells cur 23 f) → U.heap[k]? = some (.cells cur 23 f)) → IsR U a n c ls ∧ RdT U a ls
theorem IsN.isR {base n c : Nat} {w : World} {a : Option Addr} {ls : List (List Int)} (h : IsN base w a n c ls) : IsR w a n c ls := (h w (K5.refl w) (fun _ _ _ _ e => e)).1
theorem IsN.rdT {base n c : Nat} {w : World} {a : Option Addr} {ls : List (List Int)} (h : IsN base w a n c ls) : RdT w a ls := (h w (K5.refl w) (fun _ _ _ _ e => e)).2
theorem IsN.below {base n c : Nat} {w w' : World} {a : Option Addr} {ls : List (List Int)} (h : IsN base w a n c ls) (hb : Below w.heap.size w w') : IsN base w' a n c ls :=
  fun U hk hc => h U ((K5.of_below hb).trans hk) (fun k cur f hB e => hc k cur f hB ((hb.block k (blk_lt e)).trans e))
theorem isN_nil (base : Nat) (w : World) : IsN base w none 0 0 [] := fun U _ _ => ⟨isR_nil U, .inl rfl⟩
theorem own_isN {w : World} {base n : Nat} {v : Value} {xs : List Value} {ls : List (List Int)} (h : w.ownsRow base 23 1 v n xs) (hx : RdX w xs ls) : ∃ a c, v = .slice a n c ∧ IsN base w a n c ls := by
  obtain ⟨a, c, rfl, _⟩ := own_isR h hx
  refine ⟨a, c, rfl, fun U hk hc => ?_⟩
  have hU : U.ownsRow base 23 1 (.slice a n c) n xs := ⟨h.1, by
    rcases h.2 with h0 | ⟨g, cap, cur, h1, h2, h3, h4⟩
    · exact .inl h0
    · exact .inr ⟨g, cap, cur, h1, h2, hc g _ _ h2 h3, h4⟩⟩
  obtain ⟨a', c', e, hR⟩ := own_isR hU (hx.keep hk)
  cases e; exact ⟨hR, own_rdT hU (hx.keep hk)⟩

/-- All blocks but two are as they were. -/
structure Oth (F G : Nat) (w w' : World) : Prop where
  bl : ∀ B, B ≤ F → B ≤ G → Below B w w'
  size : w.heap.size ≤ w'.heap.size
  oth : ∀ g, g < w.heap.size → g ≠ F → g ≠ G → w'.heap[g]? = w.heap[g]?
theorem Oth.own {F G : Nat} {w w' : World} (h : Oth F G w w') {base n size : Nat} {v : Value} {e : TypeId} {xs : List Value} (ho : w.ownsRow base e size v n xs) (hF : F < base) (hG : G < base) : w'.ownsRow base e size v n xs := by
  refine ⟨ho.1, ?_⟩
  rcases ho.2 with h0 | ⟨g, cap, cur, h1, h2, h3, h4⟩
  · exact .inl h0
  · exact .inr ⟨g, cap, cur, h1, h2, (h.oth g (blk_lt h3) (by omega) (by omega)).trans h3, h4⟩
theorem Oth.k5 {F G : Nat} {w w' : World} (h : Oth F G w w') {t u : TypeId} {v x : Value} (hF : Boxed w F t v) (hG : Boxed w G u x) (ht : t ≠ 5) (hu : u ≠ 5) : K5 w w' :=
  ⟨h.size, fun g cur f e => (h.oth g (blk_lt e) (fun e' => by
    subst e'; have := e.symm.trans hF; simp at this; exact ht this.2.1.symm) (fun e' => by
    subst e'; have := e.symm.trans hG; simp at this; exact hu this.2.1.symm)).trans e⟩

theorem num_err (F G : Nat) (m : Int) (x : Int) (hx : (x == 0) = false) (w : World) (hF : Boxed w F 26 (.int .i64 x)) :
    Calls Tryd.prog 77 #[.int .i64 m, .pointer (some ⟨F, 0, none⟩), .pointer (some ⟨G, 0, none⟩)] w fun e w' => e = .returned (.int .i64 0) ∧ w' = w := by
  have c := hF.cell
  clear hF
  go_enter Tryd.func77, Tryd.ntmps77
  go_wp2
  go_ret
  exact ⟨rfl, rfl⟩

/-- What stands in the two variables behind a call. -/
def Nm (B : Nat) (w0 : World) (F G : Nat) (w w' : World) (x : Int) (rest : List Int) : Prop :=
  Boxed w' F 26 (.int .i64 x) ∧ (∃ a n c, Boxed w' G 23 (.slice a n c) ∧ (∀ W, Below B w0 W → IsI .u8 W a n c rest) ∧ PA a) ∧ Oth F G w w'

set_option maxHeartbeats 1600000 in
theorem num_ok (B : Nat) (w0 : World) (F G : Nat) (hFG : F ≠ G) (a : Option Addr) (nb cb : Nat) (z : List Int) (S : ∀ W, Below B w0 W → IsI .u8 W a nb cb z) (hz : Bytes z) (m : Nat) (hm : m ≤ 400) (w : World) (hw : Below B w0 w) (hn : nb ≤ 1000000)
    (hF : Boxed w F 26 (.int .i64 0)) (hG : Boxed w G 23 (.slice a nb cb)) :
    Calls Tryd.prog 77 #[.int .i64 (m : Int), .pointer (some ⟨F, 0, none⟩), .pointer (some ⟨G, 0, none⟩)] w fun e w' => e = .returned (.int .i64 ((tkn z m).1 : Int)) ∧ Nm B w0 F G w w' (tkn z m).2.2 (tkn z m).2.1 := by
  have c := hF.cell
  have d := hG.cell
  have HK : Hid _ := taken_any B w0 a nb cb z S hz m hm w hw hn
  obtain ⟨t, ht⟩ : ∃ t, Hid (t = tkn z m) := ⟨_, rfl⟩
  rw [← ht.out] at HK ⊢
  obtain ⟨k, rest, x⟩ := t
  simp only at HK ⊢
  have HB : Hid (Boxed w F 26 (.int .i64 0) ∧ Boxed w G 23 (.slice a nb cb) ∧ F ≠ G) := ⟨hF, hG, hFG⟩
  clear S hz hw hF hG ht
  go_enter Tryd.func77, Tryd.ntmps77
  go_wp2_with fail
  refine Calls.mono HK.out ?_
  rintro e w1 ⟨hb, a', n', c', rfl, hS, hPA⟩
  have f1 : Boxed w1 F 26 (.int .i64 0) := (hb.block F HB.out.1.lt).trans HB.out.1
  have g1 : Boxed w1 G 23 (.slice a nb cb) := (hb.block G HB.out.2.1.lt).trans HB.out.2.1
  have zg := g1.frozen
  have zf := (f1.other HB.out.2.2 (.slice a' n' c')).frozen
  have cg := g1.cell
  have cf := (f1.other HB.out.2.2 (.slice a' n' c')).cell
  have H1 : Hid (Boxed w1 F 26 (.int .i64 0) ∧ Boxed w1 G 23 (.slice a nb cb) ∧ Below w.heap.size w w1 ∧ (∀ W, Below B w0 W → IsI .u8 W a' n' c' rest) ∧ PA a') := ⟨f1, g1, hb, hS, hPA⟩
  clear f1 g1 hb hS hPA
  go_wp2_with fail
  go_ret
  obtain ⟨f1, g1, hb, hS, hPA⟩ := H1.out
  have f2 := (f1.other HB.out.2.2 (.slice a' n' c')).set (.int .i64 x)
  have g2 := (g1.set (.slice a' n' c')).other (Ne.symm HB.out.2.2) (.int .i64 x)
  refine ⟨rfl, f2, ⟨a', n', c', g2, hS, hPA⟩, ?_, ?_, ?_⟩
  · intro B' hB1 hB2
    exact ((hb.mono (by have := HB.out.1.lt; omega)).setCell (p := ⟨G, 0, none⟩) hB2 _).setCell (p := ⟨F, 0, none⟩) hB1 _
  · have := hb.size; simpa [World.setCell] using this
  · intro g hg h1 h2
    rw [Below.heap_setCell _ _ _ _ h1, Below.heap_setCell _ _ _ _ h2]
    exact hb.block g hg
end Go.Proofs.YtocjmbhfpofoeaaDoor
