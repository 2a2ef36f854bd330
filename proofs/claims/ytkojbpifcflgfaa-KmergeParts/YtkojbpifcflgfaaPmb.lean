/- Rising rows taken as one, in plain lists (items). Conditions: those of each theorem. -/
import Derived.Test.YtkojbpifcflgfaaRib
namespace Go.Proofs.Ytkojbpifcflgfaa.B
open Go.RowKit
open Go.Sort (SWO)
variable {E : Type}

/-- Has a row this? -/
def hasE (k : Ks E) (x : E) (r : List E) : Bool := r.any (fun y => k.cf y x == 0)
/-- The top is taken off. -/
def TakeS (C C' : List (List E)) (x : E) : Prop := ∃ t rest, C.Perm ((x :: t) :: rest) ∧ ((t = [] ∧ C'.Perm rest) ∨ (t ≠ [] ∧ C'.Perm (t :: rest)))
/-- Rows that rise. -/
def Rise (k : Ks E) (C : List (List E)) : Prop := ∀ r ∈ C, r.Pairwise (fun x y => k.lt x y = true)

/-- How far the heads that are the same have been taken. -/
structure Inn (k : Ks E) (C0 : List (List E)) (one : E) (m : Nat) (C : List (List E)) : Prop where
  rise : Rise k C
  ge : ∀ r ∈ C, ∀ x ∈ r, k.lt x one = false
  cnt : C.countP (hasE k one) + m = C0.countP (hasE k one)
  oth : ∀ y, k.lt one y = true → C.countP (hasE k y) = C0.countP (hasE k y)
  all : ∀ r ∈ C0, ∀ x ∈ r, k.cf x one = 0 ∨ ∃ r' ∈ C, x ∈ r'
  sub : ∀ r ∈ C, ∀ x ∈ r, ∃ r' ∈ C0, x ∈ r'
theorem Inn.start {k : Ks E} {C0 : List (List E)} {one : E} (hr : Rise k C0) (h : ∀ r ∈ C0, ∀ x ∈ r, k.lt x one = false) : Inn k C0 one 0 C0 :=
  ⟨hr, h, rfl, fun _ _ => rfl, fun r hr _ hx => .inr ⟨r, hr, hx⟩, fun r hr _ hx => ⟨r, hr, hx⟩⟩
theorem has_cons (k : Ks E) (y x : E) (t : List E) : hasE k y (x :: t) = (k.cf x y == 0 || hasE k y t) := rfl
theorem has_gt {k : Ks E} (ht : Tot k) (hO : SWO k.lt) {y x : E} {t : List E} (h1 : ∀ z ∈ t, k.lt x z = true) (h2 : k.cf x y = 0) : hasE k y t = false := by
  unfold hasE
  rw [List.any_eq_false]
  intro z hz
  simp only [beq_iff_eq]
  intro e
  have h3 := ht.lte _ _ _ (h1 z hz) e
  have h4 := ht.lte _ _ _ h3 (ht.symm _ _ h2)
  rw [hO.irrefl] at h4; cases h4
theorem countP_take {k : Ks E} {C C' : List (List E)} {x y : E} (h : TakeS C C' x) : ∃ t, (x :: t) ∈ C ∧ C.countP (hasE k y) = C'.countP (hasE k y) + (if hasE k y (x :: t) then 1 else 0) - (if hasE k y t then 1 else 0) ∧ (if hasE k y t then 1 else 0) ≤ C'.countP (hasE k y) := by
  obtain ⟨t, rest, h1, h2⟩ := h
  refine ⟨t, h1.mem_iff.2 (by simp), ?_⟩
  rw [h1.countP_eq, List.countP_cons]
  rcases h2 with ⟨rfl, h2⟩ | ⟨_, h2⟩
  · rw [h2.countP_eq]
    have : hasE k y [] = false := rfl
    rw [this]; simp
  · rw [h2.countP_eq, List.countP_cons]
    split <;> split <;> omega
theorem Inn.step {k : Ks E} (ht : Tot k) (hO : SWO k.lt) {C0 C C' : List (List E)} {one x : E} {m : Nat} (h : Inn k C0 one m C) (hx : k.cf x one = 0) (hs : TakeS C C' x) : Inn k C0 one (m + 1) C' := by
  have hs0 := hs
  obtain ⟨t, rest, h1, h2⟩ := hs
  have hmem : (x :: t) ∈ C := h1.mem_iff.2 (by simp)
  have hpw := h.rise _ hmem
  rw [List.pairwise_cons] at hpw
  have hmc : ∀ r ∈ C', r ∈ rest ∨ r = t := fun r hr => by
    rcases h2 with ⟨_, h2⟩ | ⟨_, h2⟩
    · exact .inl (h2.mem_iff.1 hr)
    · rcases List.mem_cons.1 (h2.mem_iff.1 hr) with e | e
      · exact .inr e
      · exact .inl e
  have hrest : ∀ r ∈ rest, r ∈ C ∧ r ∈ C' := fun r hr => ⟨h1.mem_iff.2 (List.mem_cons_of_mem _ hr), by
    rcases h2 with ⟨_, h2⟩ | ⟨_, h2⟩
    · exact h2.mem_iff.2 hr
    · exact h2.mem_iff.2 (List.mem_cons_of_mem _ hr)⟩
  refine ⟨fun r hr => ?_, fun r hr z hz => ?_, ?_, fun y hy => ?_, fun r hr z hz => ?_, fun r hr z hz => ?_⟩
  · rcases hmc r hr with e | rfl
    · exact h.rise r (hrest r e).1
    · exact hpw.2
  · rcases hmc r hr with e | rfl
    · exact h.ge r (hrest r e).1 z hz
    · exact h.ge _ hmem z (List.mem_cons_of_mem _ hz)
  · have h3 := h.cnt
    obtain ⟨t', hm', hc, hle⟩ := countP_take (k := k) (y := one) hs0
    have hpw' := h.rise _ hm'
    rw [List.pairwise_cons] at hpw'
    have e1 : hasE k one (x :: t') = true := by rw [has_cons]; simp [hx]
    have e2 : hasE k one t' = false := has_gt ht hO hpw'.1 hx
    rw [e1, e2] at hc
    simp at hc
    omega
  · rw [← h.oth y hy]
    obtain ⟨t', hm', hc, hle⟩ := countP_take (k := k) (y := y) hs0
    have e1 : hasE k y (x :: t') = hasE k y t' := by
      rw [has_cons]
      have : (k.cf x y == 0) = false := by
        simp only [beq_eq_false_iff_ne, ne_eq]
        intro e
        have := ht.elt _ _ _ (ht.symm _ _ e) (ht.elt _ _ _ hx hy)
        rw [hO.irrefl] at this; cases this
      rw [this]; rfl
    rw [e1] at hc
    omega
  · rcases h.all r hr z hz with h3 | ⟨r', h3, h4⟩
    · exact .inl h3
    · rcases List.mem_cons.1 (h1.mem_iff.1 h3) with e | e
      · subst e
        rcases List.mem_cons.1 h4 with e | e
        · subst e; exact .inl hx
        · refine .inr ⟨t, ?_, e⟩
          rcases h2 with ⟨h5, _⟩ | ⟨_, h2⟩
          · subst h5; simp at e
          · exact h2.mem_iff.2 (by simp)
      · exact .inr ⟨r', (hrest r' e).2, h4⟩
  · rcases hmc r hr with e | rfl
    · exact h.sub r (hrest r e).1 z hz
    · exact h.sub _ hmem z (List.mem_cons_of_mem _ hz)

/-- How far the work is: pre is told, C is left. -/
structure Out (k : Ks E) (L : List (List E)) (pre : List (E × Nat)) (C : List (List E)) : Prop where
  rise : Rise k C
  inc : (pre.map (·.1)).Pairwise (fun x y => k.lt x y = true)
  low : ∀ p ∈ pre, ∀ r ∈ C, ∀ x ∈ r, k.lt p.1 x = true
  sub : ∀ p ∈ pre, ∃ r ∈ L, p.1 ∈ r
  sub' : ∀ r ∈ C, ∀ x ∈ r, ∃ r' ∈ L, x ∈ r'
  all : ∀ r ∈ L, ∀ x ∈ r, (∃ p ∈ pre, k.cf x p.1 = 0) ∨ ∃ r' ∈ C, x ∈ r'
  cnt : ∀ p ∈ pre, p.2 = L.countP (hasE k p.1)
  oth : ∀ y, (∀ p ∈ pre, k.lt p.1 y = true) → C.countP (hasE k y) = L.countP (hasE k y)
theorem Out.start {k : Ks E} {L C : List (List E)} (hr : Rise k L) (hp : C.Perm L) : Out k L [] C :=
  ⟨fun r h => hr r (hp.mem_iff.1 h), List.Pairwise.nil, fun p h => by simp at h, fun p h => by simp at h, fun r h x hx => ⟨r, hp.mem_iff.1 h, hx⟩, fun r h x hx => .inr ⟨r, hp.mem_iff.2 h, hx⟩, fun p h => by simp at h, fun y _ => hp.countP_eq _⟩
theorem Out.step {k : Ks E} (ht : Tot k) {L C0 C : List (List E)} {pre : List (E × Nat)} {one : E} {m : Nat} (h : Out k L pre C0) (h1 : ∃ r ∈ C0, one ∈ r) (hi : Inn k C0 one m C) (hgt : ∀ r ∈ C, ∀ x ∈ r, k.lt one x = true) (hO : SWO k.lt) : Out k L (pre ++ [(one, m)]) C := by
  obtain ⟨r1, hr1, hone⟩ := h1
  have hlow : ∀ p ∈ pre, k.lt p.1 one = true := fun p hp => h.low p hp r1 hr1 one hone
  have hno : C.countP (hasE k one) = 0 := by
    rw [List.countP_eq_zero]
    intro r hr e
    unfold hasE at e
    obtain ⟨y, hy, e2⟩ := List.any_eq_true.1 e
    have := ht.lte _ _ _ (hgt r hr y hy) (by simpa using e2)
    rw [hO.irrefl] at this; cases this
  refine ⟨hi.rise, ?_, fun p hp r hr x hx => ?_, fun p hp => ?_, fun r hr x hx => ?_, fun r hr x hx => ?_, fun p hp => ?_, fun y hy => ?_⟩
  · rw [List.map_append, List.pairwise_append]
    refine ⟨h.inc, List.pairwise_singleton _ _, fun a ha b hb => ?_⟩
    obtain ⟨p, hp, rfl⟩ := List.mem_map.1 ha
    simp at hb; subst hb
    exact hlow p hp
  · rcases List.mem_append.1 hp with hp | hp
    · exact hO.trans _ _ _ (hlow p hp) (hgt r hr x hx)
    · rw [List.mem_singleton.1 hp]; exact hgt r hr x hx
  · rcases List.mem_append.1 hp with hp | hp
    · exact h.sub p hp
    · rw [List.mem_singleton.1 hp]
      exact h.sub' r1 hr1 one hone
  · obtain ⟨r', h2, h3⟩ := hi.sub r hr x hx
    exact h.sub' r' h2 x h3
  · rcases h.all r hr x hx with ⟨p, hp, hc⟩ | ⟨r', h2, h3⟩
    · exact .inl ⟨p, List.mem_append_left _ hp, hc⟩
    · rcases hi.all r' h2 x h3 with h4 | h4
      · exact .inl ⟨(one, m), by simp, h4⟩
      · exact .inr h4
  · rcases List.mem_append.1 hp with hp | hp
    · exact h.cnt p hp
    · rw [List.mem_singleton.1 hp]
      show m = _
      rw [← h.oth one hlow, ← hi.cnt, hno]; omega
  · have hy1 : k.lt one y = true := hy (one, m) (by simp)
    rw [hi.oth y hy1]
    exact h.oth y (fun p hp => hy p (List.mem_append_left _ hp))

/-- What is told of rising rows. -/
structure Ms (k : Ks E) (L : List (List E)) (xs : List (E × Nat)) : Prop where
  inc : (xs.map (·.1)).Pairwise (fun x y => k.lt x y = true)
  sub : ∀ p ∈ xs, ∃ r ∈ L, p.1 ∈ r
  all : ∀ r ∈ L, ∀ x ∈ r, ∃ p ∈ xs, k.cf x p.1 = 0
  cnt : ∀ p ∈ xs, p.2 = L.countP (hasE k p.1)
theorem Out.done {k : Ks E} {L : List (List E)} {xs : List (E × Nat)} (h : Out k L xs []) : Ms k L xs :=
  ⟨h.inc, h.sub, fun r hr x hx => (h.all r hr x hx).elim id (fun ⟨r', h1, _⟩ => by simp at h1), h.cnt⟩

/-- The rows of a heap. -/
def cont (d : Array (Row E)) : List (List E) := d.toList.map (·.xs)
theorem cont_head {d : Array (Row E)} (h0 : 0 < d.size) : cont d = d[0]!.xs :: (d.toList.tail.map (·.xs)) := by
  unfold cont
  rw [list_head h0]; rfl
variable [Inhabited E]
theorem take_step {d d' : Array (Row E)} (h0 : 0 < d.size) (hp : 0 < d[0]!.xs.length) (h : Left d d') : TakeS (cont d) (cont d') d[0]!.hd := by
  obtain ⟨x, t, hx⟩ : ∃ x t, d[0]!.xs = x :: t := by
    cases e : d[0]!.xs with
    | nil => rw [e] at hp; simp at hp
    | cons x t => exact ⟨x, t, rfl⟩
  have hhd : d[0]!.hd = x := by unfold Row.hd; rw [hx]; rfl
  refine ⟨t, d.toList.tail.map (·.xs), by rw [cont_head h0, hx, hhd], ?_⟩
  rcases h with ⟨h1, r, h2, _, h3⟩ | ⟨h1, h3⟩
  · refine .inr ⟨?_, ?_⟩
    · rw [hx] at h1
      intro e; subst e; simp at h1
    · have := h3.map Row.xs
      rw [List.map_cons, h2, hx] at this; exact this
  · refine .inl ⟨?_, h3.map Row.xs⟩
    rw [hx] at h1; simpa using h1
/-- The top's first is the least of all. -/
theorem top_least {k : Ks E} (hO : SWO k.lt) {d : Array (Row E)} (hr : Rise k (cont d)) (hp : Hp k.ltr d.size d) : ∀ r ∈ cont d, ∀ x ∈ r, k.lt x d[0]!.hd = false := by
  intro r hr' x hx
  obtain ⟨q, hq, e⟩ := List.mem_map.1 hr'
  obtain ⟨i, hi, e2⟩ := List.getElem_of_mem hq
  have hi' : i < d.size := by simpa using hi
  have e3 : d[i]! = q := by rw [getElem!_pos d i hi', ← e2]; simp
  have h1 : k.lt q.hd d[0]!.hd = false := by
    have := hp_root (lt := k.ltr) ⟨fun _ => hO.irrefl _, fun _ _ _ => hO.trans _ _ _, fun _ _ _ => hO.ntrans _ _ _⟩ hp i hi'
    rw [e3] at this; exact this
  have hpw := hr r hr'
  rw [← e] at hx hpw
  cases hxs : q.xs with
  | nil => rw [hxs] at hx; simp at hx
  | cons y t =>
    rw [hxs] at hx hpw
    have hy : q.hd = y := by unfold Row.hd; rw [hxs]; rfl
    rw [hy] at h1
    rcases List.mem_cons.1 hx with e4 | e4
    · rw [e4]; exact h1
    · rw [List.pairwise_cons] at hpw
      have h2 := hpw.1 x e4
      exact hO.ntrans _ _ _ (hO.asymmA h2) h1
end Go.Proofs.Ytkojbpifcflgfaa.B
