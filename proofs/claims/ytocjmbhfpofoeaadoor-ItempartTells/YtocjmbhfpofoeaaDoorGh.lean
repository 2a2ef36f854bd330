/- A part in memory. No conditions but those of each theorem. -/
import Derived.Test.YtocjmbhfpofoeaaDoorGg
namespace Go.Proofs.YtocjmbhfpofoeaaDoor
open Go.RowKit

/-- All cells are as they were. -/
structure Kc (W U : World) : Prop where
  size : W.heap.size ≤ U.heap.size
  same : ∀ (k : Nat) (o : Obj), W.heap[k]? = some o → o.isCells = true → U.heap[k]? = some o
theorem Kc.refl (W : World) : Kc W W := ⟨Nat.le_refl _, fun _ _ e _ => e⟩
theorem Kc.trans {W U V : World} (h : Kc W U) (k : Kc U V) : Kc W V := ⟨Nat.le_trans h.size k.size, fun j o e c => k.same j o (h.same j o e c) c⟩
theorem Kc.of_below {W U : World} (h : Below W.heap.size W U) : Kc W U := ⟨h.size, fun k _ e _ => (h.block k (blk_lt e)).trans e⟩
theorem Kc.of_grown {W U : World} {row : Option Nat} (hg : W.grownBy U row) (hr : ∀ r, row = some r → ∃ o : Obj, W.heap[r]? = some o ∧ o.isCells = false) : Kc W U :=
  ⟨hg.size, fun k o e c => (hg.block k (blk_lt e) (fun h => by
    obtain ⟨o', e', c'⟩ := hr k h.symm
    rw [e] at e'; cases e'; rw [c] at c'; cases c')).trans e⟩
theorem Kc.put {W : World} {D : Nat} {o o' : Obj} (h : W.heap[D]? = some o) (hc : o.isCells = false) : Kc W (W.putObj D o') :=
  Kc.of_grown (grownBy_putObj' W D o') (fun r e => by cases e; exact ⟨o, h, hc⟩)
theorem Kc.cell {W U : World} (h : Kc W U) {p : Addr} {v : Value} (hc : W.cell? p = some v) : U.cell? p = some v := by
  have : ∃ o, W.heap[p.block]? = some o ∧ o.isCells = true := by
    unfold World.cell? at hc
    split at hc
    · rename_i e; exact ⟨_, e, rfl⟩
    · cases hc
  obtain ⟨o, e, c⟩ := this
  exact (World.cell?_of_block ((h.same _ o e c).trans e.symm)).trans hc
theorem IsI.kc {k : IntKind} {W U : World} {a : Option Addr} {n c : Nat} {zs : List Int} (h : IsI k W a n c zs) (hk : Kc W U) : IsI k U a n c zs := by
  refine ⟨h.hl, h.hc, h.hm, ?_, h.nil⟩
  rcases h.rd with e | ⟨b, off, e1, e2, e3⟩
  · exact .inl e
  · exact .inr ⟨b, off, e1, Nat.lt_of_lt_of_le e2 hk.size, fun i hi => hk.cell (e3 i hi)⟩
theorem IsR.kc {W U : World} {a : Option Addr} {n c : Nat} {ls : List (List Int)} (h : IsR W a n c ls) (hk : Kc W U) : IsR U a n c ls := by
  refine ⟨h.hl, h.hc, h.hm, ?_, h.nil⟩
  rcases h.rd with e | ⟨b, off, e1, e2, e3⟩
  · exact .inl e
  · refine .inr ⟨b, off, e1, Nat.lt_of_lt_of_le e2 hk.size, fun i hi => ?_⟩
    obtain ⟨ai, ni, ci, d1, d2⟩ := e3 i hi
    exact ⟨ai, ni, ci, hk.cell d1, d2.kc hk⟩
theorem IsH.kc {W U : World} {a : Option Addr} {n c : Nat} {H : List (Nat × List Int)} (h : IsH W a n c H) (hk : Kc W U) : IsH U a n c H := by
  refine ⟨h.hl, h.hc, h.hm, ?_, h.nil⟩
  rcases h.rd with e | ⟨b, off, e1, e2, e3⟩
  · exact .inl e
  · refine .inr ⟨b, off, e1, Nat.lt_of_lt_of_le e2 hk.size, fun i hi => ?_⟩
    obtain ⟨d0, ai, ni, ci, d1, d2⟩ := e3 i hi
    exact ⟨hk.cell d0, ai, ni, ci, hk.cell d1, d2.kc hk⟩
/-- A slice of blocks. -/
structure IsB (W : World) (a : Option Addr) (m c : Nat) (Bs : List (List (List Int))) : Prop where
  hl : Bs.length = m
  hc : m ≤ c
  hm : c ≤ maxLen
  nil : a = none → c = 0
  rd : Bs = [] ∨ ∃ b off, a = some ⟨b, off, none⟩ ∧ b < W.heap.size ∧ ∀ i, i < Bs.length → ∃ ai ni ci, W.cell? ⟨b, off + i, none⟩ = some (.slice ai ni ci) ∧ IsR W ai ni ci (Bs.getD i [])
theorem IsB.kc {W U : World} {a : Option Addr} {n c : Nat} {Bs : List (List (List Int))} (h : IsB W a n c Bs) (hk : Kc W U) : IsB U a n c Bs := by
  refine ⟨h.hl, h.hc, h.hm, h.nil, ?_⟩
  rcases h.rd with e | ⟨b, off, e1, e2, e3⟩
  · exact .inl e
  · refine .inr ⟨b, off, e1, Nat.lt_of_lt_of_le e2 hk.size, fun i hi => ?_⟩
    obtain ⟨ai, ni, ci, d1, d2⟩ := e3 i hi
    exact ⟨ai, ni, ci, hk.cell d1, d2.kc hk⟩
theorem own_isB {U : World} {base m : Nat} {v : Value} {xs : List Value} {Bs : List (List (List Int))} (h : U.ownsRow base 22 1 v m xs) (hr : RdB U xs Bs) : ∃ a c, v = .slice a m c ∧ IsB U a m c Bs := by
  have hl := h.1
  rw [hr.1, Nat.mul_one] at hl
  by_cases hn : 0 < m
  · obtain ⟨g, cap, h1, h2, h3, h4, h5, h6, _⟩ := own_cell h hn
    refine ⟨_, cap, h1, ⟨by omega, h4, h5, (fun h => by cases h), .inr ⟨g, 0, rfl, h3, fun i hi => ?_⟩⟩⟩
    obtain ⟨a, k, c, e1, ht⟩ := hr.2 i hi
    rw [Nat.zero_add]
    exact ⟨a, k, c, h6 _ _ e1, ht⟩
  · obtain rfl : m = 0 := by omega
    have hv : Bs = [] := List.eq_nil_of_length_eq_zero (by omega)
    rcases h.2 with ⟨h1, _⟩ | ⟨g, cap, cur, h1, _, _, h4, h5, _⟩
    · exact ⟨none, 0, h1, ⟨by omega, Nat.le_refl _, Nat.zero_le _, (fun _ => rfl), .inl hv⟩⟩
    · exact ⟨_, cap, h1, ⟨by omega, h4, h5, (fun h => by cases h), .inl hv⟩⟩
/-- A part with these items. -/
structure PtI (W : World) (p : Nat) (L : List (List Int)) : Prop where
  ok : chkF L = 0
  wf : WfR L
  mem : ∃ ah mh ch' ab mb cb, W.cell? ⟨p, 0, none⟩ = some (.slice ah mh ch') ∧ W.cell? ⟨p, 1, none⟩ = some (.slice ab mb cb) ∧ IsH W ah mh ch' (hs 0 (ch L)) ∧ IsB W ab mb cb (ch L)
theorem PtI.kc {W U : World} {p : Nat} {L : List (List Int)} (h : PtI W p L) (hk : Kc W U) : PtI U p L := by
  obtain ⟨ah, mh, ch', ab, mb, cb, h1, h2, h3, h4⟩ := h.mem
  exact ⟨h.ok, h.wf, ah, mh, ch', ab, mb, cb, hk.cell h1, hk.cell h2, h3.kc hk, h4.kc hk⟩
theorem PtI.below {W U : World} {p : Nat} {L : List (List Int)} (h : PtI W p L) (hb : Below W.heap.size W U) : PtI U p L := h.kc (Kc.of_below hb)

/-- The items of blocks. -/
def flatB (xs : List Bk) : List (List Int) := (xs.map (·.L)).flatten
theorem flatB_snoc (xs : List Bk) (x : Bk) : flatB (xs ++ [x]) = flatB xs ++ x.L := by simp [flatB]
/-- What Open holds between two blocks: the items that have come. -/
structure Io (w W : World) (L : List (List Int)) : Prop where
  row : ∃ v xs, Boxed W w.heap.size 22 v ∧ W.ownsRow (w.heap.size + 2) 23 1 v L.length xs ∧ RdX W xs L
  wf : WfR L
  bl : Below w.heap.size w W
  tb : ∃ v, Boxed W (w.heap.size + 1) 23 v
theorem Io.below {w W W' : World} {L : List (List Int)} (h : Io w W L) (hb : Below W.heap.size W W') : Io w W' L := by
  obtain ⟨v, xs, h1, h2, h3⟩ := h.row
  obtain ⟨u, h4⟩ := h.tb
  exact ⟨⟨v, xs, (hb.block _ h1.lt).trans h1, own_below h2 hb, h3.keep (K5.of_below hb)⟩, h.wf, h.bl.trans (hb.mono h.bl.size), u, (hb.block _ h4.lt).trans h4⟩
theorem Io.ab (w : World) (N : Nat) (hN : w.heap.size + 2 ≤ N) {β : Type} (f : β → List (List Int)) : AbB (w.heap.size + 1) 23 N (fun (s : β) W => Io w W (f s)) := fun s U U' row h hg hr => by
  obtain ⟨v, xs, h1, h2, h3⟩ := h.row
  obtain ⟨u, h4⟩ := h.tb
  refine ⟨⟨v, xs, h1.kept hg (fun e => ?_), h2.kept hg ?_, h3.keep (k5_grown (by decide) hg fun r e => (hr r e).imp id fun h => h.2)⟩, h.wf, h.bl.grown hg h.bl.size (fun r e => ?_), ?_⟩
  · rcases hr _ e.symm with ⟨h, _⟩ | ⟨h, _⟩ <;> omega
  · cases hb : v.ownBlock with
    | none => exact .inl rfl
    | some g =>
      refine .inr fun e => ?_
      have hl := (h2.lt g hb).1
      rcases hr g e.symm with ⟨h, _⟩ | ⟨_, o, e', c⟩
      · omega
      · obtain ⟨cur, f', q⟩ := own_tag h2 g hb
        rw [q] at e'; cases e'; cases c
  · rcases hr r e with ⟨h, _⟩ | ⟨h, _⟩ <;> omega
  · cases hrow : row with
    | none => exact ⟨u, h4.kept hg (fun e => by rw [hrow] at e; cases e)⟩
    | some r =>
      by_cases e : r = w.heap.size + 1
      · rcases hr r hrow with ⟨_, v1, v2, _, h6⟩ | ⟨h, _⟩
        · exact ⟨v2, h6⟩
        · omega
      · exact ⟨u, h4.kept hg (fun e' => by rw [hrow] at e'; cases e'; exact e rfl)⟩
end Go.Proofs.YtocjmbhfpofoeaaDoor
