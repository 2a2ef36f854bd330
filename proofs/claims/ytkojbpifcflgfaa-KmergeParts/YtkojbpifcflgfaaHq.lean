/- Heaps in plain arrays: what is taken off their top. Conditions: those of each theorem. -/
import Derived.Test.YtkojbpifcflgfaaHp
namespace Go.Proofs.Ytkojbpifcflgfaa
open Go.Sort
variable {α : Type} [Inhabited α] {lt : α → α → Bool}

theorem perm_of_in {d d' : Array α} (h : PermIn 0 d.size d d') : d'.toList.Perm d.toList := by
  have h3 := h.2.2
  have e1 : d'.extract 0 d.size = d' := by rw [← h.1]; simp
  have e2 : d.extract 0 d.size = d := by simp
  rw [e1, e2] at h3
  exact h3
omit [Inhabited α] in
theorem extract_pop (d : Array α) : d.extract 0 (d.size - 1) = d.pop := by
  apply Array.ext_getElem?
  intro i
  rw [Array.getElem?_extract, Array.getElem?_pop]
  simp
omit [Inhabited α] in
theorem list_head {d : Array α} [Inhabited α] (hp : 0 < d.size) : d.toList = d[0]! :: d.toList.tail := by
  obtain ⟨l⟩ := d
  cases l with
  | nil => simp at hp
  | cons x r => rfl
omit [Inhabited α] in
theorem list_last {d : Array α} [Inhabited α] (hp : 0 < d.size) : d.toList = d.pop.toList ++ [d[d.size - 1]!] := by
  rw [Array.toList_pop, getElem!_pos d (d.size - 1) (by omega)]
  have hl : d.toList ≠ [] := fun e => by have := congrArg List.length e; rw [Array.length_toList] at this; simp only [List.length_nil] at this; omega
  have := List.dropLast_concat_getLast hl
  rw [List.getLast_eq_getElem] at this
  simpa using this.symm
/-- The top is put behind all, the others become a heap: what is left are they. -/
theorem top_off {d d2 : Array α} (hp : 0 < d.size) (h : PermIn 0 (d.size - 1) (swp d 0 (d.size - 1)) d2) : d2.pop.toList.Perm d.toList.tail := by
  have hs : (swp d 0 (d.size - 1)).size = d.size := size_swp _ _ _
  have h3 := h.2.2
  have e1 : d2.extract 0 (d.size - 1) = d2.pop := by rw [← hs, ← h.1]; exact extract_pop d2
  have e2 : (swp d 0 (d.size - 1)).extract 0 (d.size - 1) = (swp d 0 (d.size - 1)).pop := by
    have := extract_pop (swp d 0 (d.size - 1)); rw [hs] at this; exact this
  rw [e1, e2] at h3
  refine h3.trans ?_
  have hp1 := perm_of_in (swp_permIn d 0 d.size 0 (d.size - 1) (Nat.le_refl _) hp (Nat.zero_le _) (by omega) (Nat.le_refl _))
  rw [list_last (d := swp d 0 (d.size - 1)) (by rw [hs]; exact hp), hs, swp_right d 0 (d.size - 1) (by omega), list_head hp] at hp1
  exact (List.perm_append_comm.trans hp1).cons_inv
theorem pop_hp {n : Nat} {d : Array α} (h : Hp lt n d) (hn : n < d.size) : Hp lt n d.pop := fun k h0 hk => by
  have e : ∀ i, i < n → d.pop[i]! = d[i]! := fun i hi => by
    rw [getElem!_pos d.pop i (by simp; omega), getElem!_pos d i (by omega), Array.getElem_pop]
  rw [e k hk, e _ (by omega)]
  exact h k h0 hk
theorem top_start {d : Array α} (h : Hp lt d.size d) (hp : 0 < d.size) : HpDn lt (d.size - 1) 0 (swp d 0 (d.size - 1)) :=
  dn_start (hp_mono h (by omega)) (fun k h0 hk => swp_other d 0 (d.size - 1) k (by omega) (by omega))
theorem set_start {d : Array α} (h : Hp lt d.size d) (x : α) : HpDn lt d.size 0 (d.setIfInBounds 0 x) :=
  dn_start h (fun k h0 hk => by
    rw [getElem!_pos _ k (by simpa using hk), getElem!_pos d k hk, Array.getElem_setIfInBounds, if_neg (by omega)])
theorem set_head {d : Array α} (hp : 0 < d.size) (x : α) : (d.setIfInBounds 0 x).toList = x :: d.toList.tail := by
  rw [Array.toList_setIfInBounds, list_head hp]; rfl
end Go.Proofs.Ytkojbpifcflgfaa
