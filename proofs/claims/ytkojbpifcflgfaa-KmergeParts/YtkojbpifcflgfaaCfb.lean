/- The library's CompactFunc over a sorted row (items). Conditions: how the row lies. -/
import Derived.Test.YtkojbpifcflgfaaTkb
import Derived.Lib.SliceRun
import Derived.Laws.OwnMore
namespace Go.Proofs.Ytkojbpifcflgfaa.B
open Go.RowKit Go.Shelf
open Go.Sort (SWO)
variable {E : Type} [Inhabited E]

/-- Of the first m of d these are left: each once. -/
structure Cpt (k : Ks E) (d : List E) (m : Nat) (ys : List E) : Prop where
  sub : ∀ y ∈ ys, y ∈ d
  all : ∀ j, j < m → ∃ y ∈ ys, k.cf (d.getD j default) y = 0
  inc : ys.Pairwise (fun x y => k.lt x y = true)
  last : ∀ y ∈ ys, k.lt y (d.getD (m - 1) default) = true ∨ k.cf (d.getD (m - 1) default) y = 0
  pos : ys ≠ []
/-- How a total order in which only the same are neither ahead lies. -/
structure Tot (k : Ks E) : Prop where
  refl : ∀ x, k.cf x x = 0
  symm : ∀ x y, k.cf x y = 0 → k.cf y x = 0
  eqt : ∀ x y z, k.cf x y = 0 → k.cf y z = 0 → k.cf x z = 0
  lte : ∀ x y z, k.lt x y = true → k.cf y z = 0 → k.lt x z = true
  elt : ∀ x y z, k.cf x y = 0 → k.lt y z = true → k.lt x z = true
  tot : ∀ x y, k.lt x y = false → k.cf x y ≠ 0 → k.lt y x = true
theorem getD_mem' {d : List E} {j : Nat} (h : j < d.length) : d.getD j default ∈ d := by
  have e : d.getD j default = d[j] := by simp [List.getD, h]
  rw [e]; exact List.getElem_mem h
theorem Cpt.skip {k : Ks E} (ht : Tot k) {d : List E} {m : Nat} {ys : List E} (h : Cpt k d m ys) (hm : 0 < m) (he : k.cf (d.getD m default) (d.getD (m - 1) default) = 0) : Cpt k d (m + 1) ys := by
  refine ⟨h.sub, fun j hj => ?_, h.inc, fun y hy => ?_, h.pos⟩
  · by_cases e : j = m
    · subst e
      obtain ⟨y, hy, hc⟩ := h.all (j - 1) (by omega)
      exact ⟨y, hy, ht.eqt _ _ _ he hc⟩
    · exact h.all j (by omega)
  · rw [Nat.add_sub_cancel]
    rcases h.last y hy with h1 | h1
    · exact .inl (ht.lte _ _ _ h1 (ht.symm _ _ he))
    · exact .inr (ht.eqt _ _ _ he h1)
theorem Cpt.keep {k : Ks E} (ht : Tot k) (hO : SWO k.lt) {d : List E} {m : Nat} {ys : List E} (h : Cpt k d m ys) (hmd : m < d.length) (hne : k.cf (d.getD m default) (d.getD (m - 1) default) ≠ 0) (hs : k.lt (d.getD m default) (d.getD (m - 1) default) = false) : Cpt k d (m + 1) (ys ++ [d.getD m default]) := by
  have hl := ht.tot _ _ hs hne
  have hlast : ∀ y ∈ ys, k.lt y (d.getD m default) = true := fun y hy => by
    rcases h.last y hy with h1 | h1
    · exact hO.trans _ _ _ h1 hl
    · exact ht.elt _ _ _ (ht.symm _ _ h1) hl
  refine ⟨fun y hy => ?_, fun j hj => ?_, ?_, fun y hy => ?_, by simp⟩
  · simp only [List.mem_append, List.mem_singleton] at hy
    rcases hy with hy | rfl
    · exact h.sub y hy
    · exact getD_mem' hmd
  · by_cases e : j = m
    · subst e
      exact ⟨_, by simp, ht.refl _⟩
    · obtain ⟨y, hy, hc⟩ := h.all j (by omega)
      exact ⟨y, by simp [hy], hc⟩
  · rw [List.pairwise_append]
    exact ⟨h.inc, List.pairwise_singleton _ _, fun a ha b hb => by simp at hb; rw [hb]; exact hlast a ha⟩
  · rw [Nat.add_sub_cancel]
    simp only [List.mem_append, List.mem_singleton] at hy
    rcases hy with hy | rfl
    · exact .inl (hlast y hy)
    · exact .inr (ht.refl _)
theorem Cpt.start {k : Ks E} (ht : Tot k) {d : List E} (hd : 0 < d.length) : Cpt k d 1 [d.getD 0 default] :=
  ⟨fun y hy => by rw [List.mem_singleton.1 hy]; exact getD_mem' hd, fun j hj => ⟨d.getD 0 default, List.mem_singleton.2 rfl, (show j = 0 by omega) ▸ ht.refl _⟩,
   List.pairwise_singleton _ _, fun y hy => (List.mem_singleton.1 hy) ▸ .inr (ht.refl _), by simp⟩

omit [Inhabited E] in
/-- Two are the same: asked of a function in a variable. -/
theorem riseq_any {k : Ks E} (hk : Ok k) (x y : E) (bx : Nat) (w : World) (hb : w.cell? ⟨bx, 0, none⟩ = some (fnv k)) (hw : Below k.n0 k.w0 w) :
    Calls Try.prog 49 #[k.enc x, k.enc y, .pointer (some ⟨bx, 0, none⟩)] w fun e w' => e = .returned (.bool (k.cf x y == 0)) ∧ ∃ q, w' = w.drewN q := by
  have HC : Hid _ := hk.cmp x y w hw
  have eg := hk.enters
  unfold fnv at hb
  obtain ⟨r, hr⟩ : ∃ r, r = k.cf x y := ⟨_, rfl⟩
  obtain ⟨u, hu⟩ : ∃ u, u = k.enc x := ⟨_, rfl⟩
  obtain ⟨v, hv⟩ : ∃ v, v = k.enc y := ⟨_, rfl⟩
  obtain ⟨gc, hgc⟩ : ∃ gc, gc = k.gc := ⟨_, rfl⟩
  rw [← hr, ← hu, ← hv, ← hgc] at HC
  rw [← hr, ← hu, ← hv]
  rw [← hgc] at hb eg
  clear hr hu hv hgc hw
  go_enter Try.func49, Try.ntmps49
  go_wp2_with (first | (go_at_fn gc; refine Calls.mono HC.out ?_; rintro e w1 ⟨rfl, q, rfl⟩))
  go_ret
  exact ⟨rfl, q, rfl⟩

theorem cell_own {k : Ks E} {w : World} {base g n cap : Nat} {l : List E} (h : w.ownsRow base 41 1 (.slice (some ⟨g, 0, none⟩) n cap) n (l.map k.enc)) {j : Nat} (hj : j < n) : w.cell? ⟨g, j, none⟩ = some (k.enc (l.getD j default)) := by
  rw [h.cellAt j (by omega)]
  have hl : l.length = n := by simpa using h.1
  simp [List.getD, show j < l.length by omega]
omit [Inhabited E] in
theorem own_set1 {k : Ks E} {w : World} {base g n cap : Nat} {l : List E} (h : w.ownsRow base 41 1 (.slice (some ⟨g, 0, none⟩) n cap) n (l.map k.enc)) (j : Nat) (x : E) : (w.setCell ⟨g, j, none⟩ (k.enc x)).ownsRow base 41 1 (.slice (some ⟨g, 0, none⟩) n cap) n ((l.set j x).map k.enc) := by
  have := (h.stored j (k.enc x)).1
  rwa [← List.map_set] at this
theorem own_cut {w : World} {base g n cap m : Nat} {e : TypeId} {xs : List Value} (h : w.ownsRow base e 1 (.slice (some ⟨g, 0, none⟩) n cap) n xs) (hm : m ≤ n) : w.ownsRow base e 1 (.slice (some ⟨g, 0, none⟩) m cap) m (xs.take m) := by
  have h1 := h.1
  rcases h.2 with ⟨h', _⟩ | ⟨g', cap', cur, h', hb, hg, hnc, hcm, hcs, ht⟩
  · cases h'
  · cases h'
    refine ⟨by simp; omega, .inr ⟨g, cap, cur, rfl, hb, hg, by omega, hcm, hcs, ?_⟩⟩
    rw [← ht, Nat.mul_one, List.take_take]
    congr 1; omega
theorem own_past {w : World} {base g m cap : Nat} {e : TypeId} {xs : List Value} (h : w.ownsRow base e 1 (.slice (some ⟨g, 0, none⟩) m cap) m xs) (j : Nat) (hj : m ≤ j) (u : Value) : (w.setCell ⟨g, j, none⟩ u).ownsRow base e 1 (.slice (some ⟨g, 0, none⟩) m cap) m xs := by
  have := (h.stored j u).1
  rwa [List.set_eq_of_length_le (by have := h.1; omega)] at this
theorem own_pasts {base g m cap : Nat} {e : TypeId} {xs : List Value} : ∀ (us : List Value) (w : World) (j : Nat), m ≤ j → w.ownsRow base e 1 (.slice (some ⟨g, 0, none⟩) m cap) m xs → (w.setCells g j us).ownsRow base e 1 (.slice (some ⟨g, 0, none⟩) m cap) m xs
  | [], _, _, _, h => h
  | u :: r, w, j, hj, h => own_pasts r _ (j + 1) (by omega) (own_past h j hj u)
theorem setCells_below {B g : Nat} (hB : B ≤ g) : ∀ (us : List Value) (w : World) (j : Nat), Below B w (w.setCells g j us)
  | [], _, _ => Below.refl _ _
  | u :: r, w, j => ((Below.refl B w).setCell (p := ⟨g, j, none⟩) hB u).trans (setCells_below hB r _ (j + 1))
theorem below_dr' (B : Nat) (w : World) (n : Nat) : Below B w (w.drewN n) := ⟨rfl, rfl, rfl, Nat.le_refl _, fun _ _ => rfl⟩
/-- What the row is on the way: k of m are kept, the others are as they were. -/
structure Way (k : Ks E) (w0 : World) (base g n cap : Nat) (d : List E) (m q : Nat) (w : World) : Prop where
  row : ∃ (l ys : List E), w.ownsRow base 41 1 (.slice (some ⟨g, 0, none⟩) n cap) n (l.map k.enc) ∧ l.length = n ∧ l.take q = ys ∧ ys.length = q ∧ Cpt k d m ys ∧ (∀ j, q ≤ j → l.getD j default = d.getD j default)
  low : Below g w0 w
  lt : q ≤ m

theorem Way.skip {k : Ks E} (ht : Tot k) {w0 w : World} {base g n cap m q : Nat} {d : List E} (h : Way k w0 base g n cap d m q w) (hm : 0 < m) (he : k.cf (d.getD m default) (d.getD (m - 1) default) = 0) (z : Nat) : Way k w0 base g n cap d (m + 1) q (w.drewN z) := by
  obtain ⟨l, ys, h1, h2, h3, h4, h5, h6⟩ := h.row
  exact ⟨⟨l, ys, h1, h2, h3, h4, h5.skip ht hm he, h6⟩, h.low.trans (below_dr' g w z), by have := h.lt; omega⟩
theorem Way.keep {k : Ks E} (ht : Tot k) (hO : SWO k.lt) {w0 w : World} {base g n cap m q : Nat} {d : List E} (h : Way k w0 base g n cap d m q w) (hd : d.length = n) (hq : q < m) (hmd : m < n) (hne : k.cf (d.getD m default) (d.getD (m - 1) default) ≠ 0) (hs : k.lt (d.getD m default) (d.getD (m - 1) default) = false) (z : Nat) : Way k w0 base g n cap d (m + 1) (q + 1) ((w.drewN z).setCell ⟨g, q, none⟩ (k.enc (d.getD m default))) := by
  obtain ⟨l, ys, h1, h2, h3, h4, h5, h6⟩ := h.row
  refine ⟨⟨l.set q (d.getD m default), ys ++ [d.getD m default], own_set1 (w := w.drewN z) h1 q _, by simpa using h2, ?_, by simp [h4], h5.keep ht hO (by omega) hne hs, fun j hj => ?_⟩, (h.low.trans (below_dr' g w z)).setCell (p := ⟨g, q, none⟩) (Nat.le_refl _) _, by omega⟩
  · rw [← h3]
    apply List.ext_getElem?
    intro i
    by_cases e : i < q
    · rw [List.getElem?_take, if_pos (by omega), List.getElem?_set_ne (by omega), List.getElem?_append_left (by simp; omega), List.getElem?_take, if_pos e]
    · by_cases e2 : i = q
      · subst e2
        rw [List.getElem?_take, if_pos (by omega), List.getElem?_set_self (by omega), List.getElem?_append_right (by simp; omega)]
        simp [show min i l.length = i by omega]
      · rw [List.getElem?_take, if_neg (by omega), List.getElem?_eq_none (by simp; omega)]
  · rw [← h6 j (by omega)]
    simp only [List.getD_eq_getElem?_getD]
    rw [List.getElem?_set_ne (by omega)]
end Go.Proofs.Ytkojbpifcflgfaa.B
