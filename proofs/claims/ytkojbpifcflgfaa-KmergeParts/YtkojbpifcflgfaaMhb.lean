/- The heads' state between what is told (items). Conditions: those of each theorem. -/
import Derived.Test.YtkojbpifcflgfaaPmb
import Derived.Test.YtkojbpifcflgfaaLw
namespace Go.Proofs.Ytkojbpifcflgfaa.B
open Go.RowKit
open Go.Sort (SWO)
variable {E : Type} [Inhabited E]

def tot (C : List (List E)) : Nat := (C.map List.length).sum
omit [Inhabited E] in
theorem tot_perm {C C' : List (List E)} (h : C.Perm C') : tot C = tot C' := (h.map _).sum_nat
omit [Inhabited E] in
theorem tot_take {C C' : List (List E)} {x : E} (h : TakeS C C' x) : tot C' + 1 = tot C := by
  obtain ⟨t, rest, h1, h2⟩ := h
  rw [tot_perm h1]
  rcases h2 with ⟨rfl, h2⟩ | ⟨_, h2⟩
  · rw [tot_perm h2]; simp [tot]; omega
  · rw [tot_perm h2]; simp [tot]; omega

/-- The heap, all of whose memory lies from hb on below D. -/
structure Hs (k : Ks E) (hb D : Nat) (v : Value) (d : Array (Row E)) (w : World) : Prop where
  hd : Hd k hb v d w
  hp : Hp k.ltr d.size d
  lt : ∀ j, v.ownBlock = some j → j < D
  low : ∀ r ∈ d.toList, hb ≤ r.b ∧ r.b < D
  hD : hb < D
  le : D ≤ w.heap.size
omit [Inhabited E] in
theorem mem_get {d : Array (Row E)} {i : Nat} (hi : i < d.size) : d[i]! ∈ d.toList := by
  rw [getElem!_pos d i hi]; simp
theorem Hs.yield {k : Ks E} {hb D : Nat} {v : Value} {d : Array (Row E)} {w w' : World} {K0 : Nat → Prop} (h : Hs k hb D v d w) (hk : Kept (fun j => K0 j ∨ (hb ≤ j ∧ j < D)) w w') (h0 : ∀ j, j < k.n0 → K0 j) : Hs k hb D v d w' := by
  have st : ∀ j, hb ≤ j → j < D → w'.heap[j]? = w.heap[j]? := fun j h1 h2 => hk.block j (Nat.lt_of_lt_of_le h2 h.le) (.inr ⟨h1, h2⟩)
  refine ⟨⟨(st hb (Nat.le_refl _) h.hD).trans h.hd.box, ⟨h.hd.own.1, ?_⟩, fun i hi => ?_, h.hd.few, h.hd.old, h.hd.bel.trans ⟨hk.os, hk.tape, hk.output, hk.size, fun j hj => hk.block j (by have := h.hd.old; have := h.hD; have := h.le; omega) (.inl (h0 j hj))⟩⟩, h.hp, h.lt, h.low, h.hD, Nat.le_trans h.le hk.size⟩
  · rcases h.hd.own.2 with h1 | ⟨g, cap, cur, e1, e2, e3, e4⟩
    · exact .inl h1
    · exact .inr ⟨g, cap, cur, e1, e2, (st g e2 (h.lt g (by rw [e1]; rfl))).trans e3, e4⟩
  · obtain ⟨p1, p2, p3, p4, cur, p5, p6⟩ := h.hd.rows i hi
    have hl := h.low _ (mem_get hi)
    exact ⟨p1, p2, p3, p4, cur, (st _ hl.1 hl.2).trans p5, p6⟩
omit [Inhabited E] in
theorem kept_kw {hb D : Nat} {rb : Option Nat} {w w' : World} (h : Kw hb rb w w') (h1 : hb < D) (h2 : ∀ j, rb = some j → hb ≤ j ∧ j < D) : Kept (fun j => j < hb ∨ D ≤ j) w w' :=
  ⟨h.os, h.tape, h.output, by rw [h.size]; exact Nat.le_refl _, fun j _ hs => h.block j (by omega) (fun e => by have := h2 j e; omega)⟩
omit [Inhabited E] in
theorem left_mem {d d' : Array (Row E)} (h0 : 0 < d.size) (h : Left d d') : ∀ r ∈ d'.toList, ∃ s ∈ d.toList, r.b = s.b := by
  intro r hr
  rcases h with ⟨_, q, _, hb, h3⟩ | ⟨_, h3⟩
  · rcases List.mem_cons.1 (h3.mem_iff.1 hr) with e | e
    · exact ⟨d[0]!, mem_get h0, by rw [e]; exact hb⟩
    · exact ⟨r, List.mem_of_mem_tail e, rfl⟩
  · exact ⟨r, List.mem_of_mem_tail (h3.mem_iff.1 hr), rfl⟩
theorem Hs.next {k : Ks E} {hb D : Nat} {v v' : Value} {d d' : Array (Row E)} {w w' : World} (h : Hs k hb D v d w) (h0 : 0 < d.size) (ev : v'.ownBlock = v.ownBlock) (hd : Hd k hb v' d' w') (hp : Hp k.ltr d'.size d') (hl : Left d d') (hk : Kw hb v.ownBlock w w') : Hs k hb D v' d' w' ∧ Kept (fun j => j < hb ∨ D ≤ j) w w' :=
  ⟨⟨hd, hp, fun j e => h.lt j (by rw [← ev]; exact e), fun r hr => by
    obtain ⟨s, hs, e⟩ := left_mem h0 hl r hr
    rw [e]; exact h.low s hs, h.hD, by rw [hk.size]; exact h.le⟩, kept_kw hk h.hD (fun j e => ⟨h.hd.max j e, h.lt j e⟩)⟩
theorem Hs.pos {k : Ks E} {hb D : Nat} {v : Value} {d : Array (Row E)} {w : World} (h : Hs k hb D v d w) (h0 : 0 < d.size) : 0 < d[0]!.xs.length := (h.hd.rows 0 h0).pos
omit [Inhabited E] in
theorem cont_nil {d : Array (Row E)} : d.size = 0 → cont d = [] := fun h => by
  have : d.toList = [] := List.eq_nil_of_length_eq_zero (by simpa using h)
  unfold cont; rw [this]; rfl
theorem head_mem {d : Array (Row E)} (h0 : 0 < d.size) (hp : 0 < d[0]!.xs.length) : d[0]!.xs ∈ cont d ∧ d[0]!.hd ∈ d[0]!.xs := by
  refine ⟨List.mem_map.2 ⟨_, mem_get h0, rfl⟩, ?_⟩
  unfold Row.hd
  exact getD_mem' hp

/-- What comes in: a slice of rows. -/
structure IsSS (k : Ks E) (w : World) (a : Option Addr) (n c : Nat) (rows : List (List E)) : Prop where
  len : rows.length = n
  le : n ≤ c
  rd : ∀ i, i < n → ∃ b off ai ni ci, a = some ⟨b, off, none⟩ ∧ w.cell? ⟨b, off + i, none⟩ = some (.slice ai ni ci) ∧ IsS k w ai ni ci (rows.getD i [])
/-- Rows, each rising: those that aren't empty. -/
def RsL (k : Ks E) : List (List E) → List (List E) → Prop
  | [], L => L = []
  | r :: rows, L => (r = [] ∧ RsL k rows L) ∨ (r ≠ [] ∧ ∃ y L', L = y :: L' ∧ Rs k r y ∧ y.length ≤ r.length ∧ RsL k rows L')
omit [Inhabited E] in
theorem RsL.skip {k : Ks E} : ∀ {rows L : List (List E)}, RsL k rows L → RsL k (rows ++ [[]]) L
  | [], _, h => .inl ⟨rfl, h⟩
  | _ :: _, _, h => h.imp (fun ⟨h1, h2⟩ => ⟨h1, RsL.skip h2⟩) (fun ⟨h1, y, L', h2, h3, h4, h5⟩ => ⟨h1, y, L', h2, h3, h4, RsL.skip h5⟩)
omit [Inhabited E] in
theorem RsL.snoc {k : Ks E} {r y : List E} (h0 : r ≠ []) (h1 : Rs k r y) (hl : y.length ≤ r.length) : ∀ {rows L : List (List E)}, RsL k rows L → RsL k (rows ++ [r]) (L ++ [y])
  | [], L, h => .inr ⟨h0, y, [], by rw [show L = [] from h]; rfl, h1, hl, rfl⟩
  | q :: rows, L, h => h.imp (fun ⟨h2, h3⟩ => ⟨h2, RsL.snoc h0 h1 hl h3⟩) (fun ⟨h2, z, L', h3, h4, h5, h6⟩ => ⟨h2, z, L' ++ [y], by rw [h3]; rfl, h4, h5, RsL.snoc h0 h1 hl h6⟩)
omit [Inhabited E] in
theorem RsL.rise {k : Ks E} : ∀ {rows L : List (List E)}, RsL k rows L → Rise k L
  | [], L, h => by intro r hr; rw [show L = [] from h] at hr; simp at hr
  | q :: rows, L, h => by
    rcases h with ⟨_, h2⟩ | ⟨_, y, L', rfl, h3, _, h4⟩
    · exact h2.rise
    · intro r hr
      rcases List.mem_cons.1 hr with e | e
      · rw [e]; exact h3.inc
      · exact h4.rise r e
omit [Inhabited E] in
theorem RsL.tot {k : Ks E} : ∀ {rows L : List (List E)}, RsL k rows L → tot L ≤ tot rows
  | [], L, h => by rw [show L = [] from h]; exact Nat.le_refl _
  | q :: rows, L, h => by
    rcases h with ⟨_, h2⟩ | ⟨_, y, L', rfl, _, h3, h4⟩
    · have := h2.tot; simp only [Ytkojbpifcflgfaa.B.tot, List.map_cons, List.sum_cons] at *; omega
    · have := h4.tot; simp only [Ytkojbpifcflgfaa.B.tot, List.map_cons, List.sum_cons] at *; omega
omit [Inhabited E] in
theorem RsL.to {k : Ks E} : ∀ {rows L : List (List E)}, RsL k rows L → ∀ r ∈ L, ∃ row ∈ rows, Rs k row r
  | [], L, h, r, hr => by rw [show L = [] from h] at hr; simp at hr
  | q :: rows, L, h, r, hr => by
    rcases h with ⟨_, h2⟩ | ⟨_, y, L', rfl, h3, _, h4⟩
    · obtain ⟨row, h5, h6⟩ := h2.to r hr
      exact ⟨row, List.mem_cons_of_mem _ h5, h6⟩
    · rcases List.mem_cons.1 hr with e | e
      · subst e; exact ⟨q, by simp, h3⟩
      · obtain ⟨row, h5, h6⟩ := h4.to r e
        exact ⟨row, List.mem_cons_of_mem _ h5, h6⟩
end Go.Proofs.Ytkojbpifcflgfaa.B
