/- Rows in a heap of heads (numbers): Swap, Pop, Push. Conditions: how the heap lies. -/
import Derived.Test.YtkojbpifcflgfaaHei
namespace Go.Proofs.Ytkojbpifcflgfaa.I
open Go.RowKit Go.Shelf
open Go.Sort (swp SWO PermIn size_swp swp_permIn permIn_refl permIn_trans permIn_mono swp_get)
variable {E : Type} [Inhabited E]

theorem IsW.kw {k : Ks E} {hb : Nat} {rb : Option Nat} {r : Row E} {w w' : World} (h : IsW k r w) (hk : Kw hb rb w w') (h1 : ∀ cur, w.heap[hb]? ≠ some (.cells cur 3 (0, 0))) (h2 : ∀ j cur, rb = some j → w.heap[j]? ≠ some (.cells cur 3 (0, 0))) : IsW k r w' := by
  obtain ⟨cur, c1, c2⟩ := h.rd
  exact ⟨h.pos, h.le, h.max, h.old, cur, (hk.block _ (fun e => h1 cur (by rw [← e]; exact c1)) (fun e => h2 _ cur e c1)).trans c1, c2⟩
omit [Inhabited E] in
theorem perm_swp {d : Array (Row E)} {i j : Nat} (hi : i < d.size) (hj : j < d.size) : ∀ q, q < (swp d i j).size → ∃ p, p < d.size ∧ (swp d i j)[q]! = d[p]! := fun q hq => by
  rw [size_swp] at hq
  rw [swp_get d hi hj]
  split
  · exact ⟨i, hi, rfl⟩
  · split
    · exact ⟨j, hj, rfl⟩
    · exact ⟨q, hq, rfl⟩

theorem ownBlock_some (g n c : Nat) : (Value.slice (some ⟨g, 0, none⟩) n c).ownBlock = some g := rfl

theorem hd_swap {k : Ks E} {hb g cap : Nat} {d : Array (Row E)} {w : World} (h : Hd k hb (.slice (some ⟨g, 0, none⟩) d.size cap) d w) (i j : Nat) (hi : i < d.size) (hj : j < d.size) :
    Hd k hb (.slice (some ⟨g, 0, none⟩) d.size cap) (swp d i j) ((w.setCell ⟨g, i, none⟩ (encR d[j]!)).setCell ⟨g, j, none⟩ (encR d[i]!)) ∧ Kw hb (some g) w ((w.setCell ⟨g, i, none⟩ (encR d[j]!)).setCell ⟨g, j, none⟩ (encR d[i]!)) := by
  have hK : Kw hb (some g) w ((w.setCell ⟨g, i, none⟩ (encR d[j]!)).setCell ⟨g, j, none⟩ (encR d[i]!)) := ((Kw.refl hb (some g) w).set ⟨g, i, none⟩ _ (.inr rfl)).set ⟨g, j, none⟩ _ (.inr rfl)
  obtain ⟨g', cap', cur, e1, e2, e3, e4, _⟩ := h.at (by omega)
  cases e1
  refine ⟨⟨?_, ?_, fun q hq => ?_, by rw [size_swp]; exact h.few, h.old, h.bel.trans (hK.below h.old (fun j e => by cases e; exact Nat.le_trans h.old e2))⟩, hK⟩
  · rw [heap_setCell_other _ _ _ _ (fun e => e3 e.symm), heap_setCell_other _ _ _ _ (fun e => e3 e.symm)]; exact h.box
  · have o1 := ((h.own.stored i (encR d[j]!)).1.stored j (encR d[i]!)).1
    rw [size_swp]
    have e : (swp d i j).toList.map encR = ((d.toList.map encR).set i (encR d[j]!)).set j (encR d[i]!) := by
      unfold swp
      rw [Array.toList_setIfInBounds, Array.toList_setIfInBounds, List.map_set, List.map_set]
    rw [e]; exact o1
  · obtain ⟨p, hp, ep⟩ := perm_swp hi hj q hq
    rw [ep]
    refine (h.rows p hp).kw hK (fun cur e => ?_) (fun j' cur' ej e => ?_)
    · rw [h.box] at e; simp at e
    · cases ej; rw [e4] at e; simp at e

set_option maxRecDepth 100000 in
set_option maxHeartbeats 4000000 in
theorem swap_any {k : Ks E} {hb : Nat} {v : Value} {d : Array (Row E)} {w : World} (h : Hd k hb v d w) (i j : Nat) (hi : i < d.size) (hj : j < d.size) :
    Calls Try.prog 111 #[.pointer (some ⟨hb, 0, none⟩), .int .i64 i, .int .i64 j] w fun e w' => e = .returned (.tuple #[]) ∧ Hd k hb v (swp d i j) w' ∧ Kw hb v.ownBlock w w' := by
  have c0 := h.c0
  have few := h.few
  obtain ⟨g, cap, cur, rfl, _, hne, hg, _, _, _, hc⟩ := h.at (by omega)
  rw [ownBlock_some]
  have HS : Hid _ := hd_swap h i j hi hj
  have hri := hc i hi
  have hrj := hc j hj
  obtain ⟨u, hu⟩ : ∃ u, u = encR d[i]! := ⟨_, rfl⟩
  obtain ⟨x, hx⟩ : ∃ x, x = encR d[j]! := ⟨_, rfl⟩
  rw [← hu] at hri HS
  rw [← hx] at hrj HS
  have cgi : w.cell? ⟨g, i, none⟩ = some u := by rw [cell_of hg]; exact hri
  have cgj : w.cell? ⟨g, j, none⟩ = some x := by rw [cell_of hg]; exact hrj
  have fgi := froz_of hg i
  have fgj := froz_of hg j
  have cgj' : ∃ y, (w.setCell ⟨g, i, none⟩ x).cell? ⟨g, j, none⟩ = some y := by
    by_cases e : i = j
    · subst e; exact ⟨x, World.cell?_setCell_same _ _ _ cgi⟩
    · exact ⟨x, (World.cell?_setCell_other _ _ _ _ (by intro e'; simp only [Addr.mk.injEq] at e'; omega)).trans cgj⟩
  obtain ⟨y, cgj'⟩ := cgj'
  have c0' : (w.setCell ⟨g, i, none⟩ x).cell? ⟨hb, 0, none⟩ = some (.slice (some ⟨g, 0, none⟩) d.size cap) := (World.cell?_setCell_other _ _ _ _ (by intro e'; simp only [Addr.mk.injEq] at e'; exact hne e'.1)).trans c0
  have i0 : (i : Int) < (d.size : Int) := by omega
  have j0 : (j : Int) < (d.size : Int) := by omega
  obtain ⟨ai, ni, ci, hui⟩ : ∃ a n c, u = .slice a n c := ⟨_, _, _, hu⟩
  obtain ⟨aj, nj, cj, hxj⟩ : ∃ a n c, x = .slice a n c := ⟨_, _, _, hx⟩
  subst hui hxj
  clear h hc hg hri hrj hu hx
  generalize d.size = n at *
  go_enter Try.func111, Try.ntmps111
  go_wp2
  go_region
  go_end0
  exact ⟨rfl, HS.out.1.drewN 1, HS.out.2.drewN 1⟩
end Go.Proofs.Ytkojbpifcflgfaa.I
