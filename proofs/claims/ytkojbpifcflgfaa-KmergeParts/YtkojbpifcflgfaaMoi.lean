/- Many rows as one (numbers): what the iterator tells, of the rows themselves. Conditions: those of each theorem. -/
import Derived.Test.YtkojbpifcflgfaaMgi
namespace Go.Proofs.Ytkojbpifcflgfaa.I
open Go.RowKit
open Go.Sort (SWO)
variable {E : Type}

theorem Rs.has {k : Ks E} (ht : Tot k) {xs ys : List E} (h : Rs k xs ys) (x : E) : hasE k x ys = hasE k x xs := by
  unfold hasE
  apply Bool.eq_iff_iff.2
  rw [List.any_eq_true, List.any_eq_true]
  constructor
  · rintro ⟨y, hy, e⟩
    exact ⟨y, h.sub y hy, e⟩
  · rintro ⟨y, hy, e⟩
    obtain ⟨z, hz, hc⟩ := h.all y hy
    exact ⟨z, hz, by simp only [beq_iff_eq] at e ⊢; exact ht.eqt _ _ _ (ht.symm _ _ hc) e⟩
theorem RsL.count {k : Ks E} (ht : Tot k) (x : E) : ∀ {rows L : List (List E)}, RsL k rows L → L.countP (hasE k x) = rows.countP (hasE k x)
  | [], L, h => by rw [show L = [] from h]
  | r :: rows, L, h => by
    rcases h with ⟨rfl, h2⟩ | ⟨_, y, L', rfl, h3, _, h4⟩
    · rw [List.countP_cons, h2.count ht x]; simp [hasE]
    · rw [List.countP_cons, List.countP_cons, h4.count ht x, h3.has ht x]
theorem RsL.back {k : Ks E} : ∀ {rows L : List (List E)}, RsL k rows L → ∀ row ∈ rows, row ≠ [] → ∃ r ∈ L, Rs k row r
  | q :: rows, L, h, row, hr, hne => by
    rcases h with ⟨h1, h2⟩ | ⟨_, y, L', rfl, h3, _, h4⟩
    · rcases List.mem_cons.1 hr with e | e
      · exact absurd (e.trans h1) hne
      · exact h2.back row e hne
    · rcases List.mem_cons.1 hr with e | e
      · subst e; exact ⟨y, by simp, h3⟩
      · obtain ⟨r, h5, h6⟩ := h4.back row e hne
        exact ⟨r, List.mem_cons_of_mem _ h5, h6⟩
/-- What is told of any rows. -/
structure Mt (k : Ks E) (rows : List (List E)) (xs : List (E × Nat)) : Prop where
  inc : (xs.map (·.1)).Pairwise (fun x y => k.lt x y = true)
  sub : ∀ p ∈ xs, ∃ r ∈ rows, p.1 ∈ r
  all : ∀ r ∈ rows, ∀ x ∈ r, ∃ p ∈ xs, k.cf x p.1 = 0
  cnt : ∀ p ∈ xs, p.2 = rows.countP (hasE k p.1)
theorem mt_of {k : Ks E} (ht : Tot k) {rows L : List (List E)} {xs : List (E × Nat)} (h : RsL k rows L) (hm : Ms k L xs) : Mt k rows xs := by
  refine ⟨hm.inc, fun p hp => ?_, fun r hr x hx => ?_, fun p hp => by rw [hm.cnt p hp, h.count ht]⟩
  · obtain ⟨r, h1, h2⟩ := hm.sub p hp
    obtain ⟨row, h3, h4⟩ := h.to r h1
    exact ⟨row, h3, h4.sub _ h2⟩
  · obtain ⟨r', h1, h2⟩ := h.back r hr (fun e => by rw [e] at hx; simp at hx)
    obtain ⟨y, h3, h4⟩ := h2.all x hx
    obtain ⟨p, h5, h6⟩ := hm.all r' h1 y h3
    exact ⟨p, h5, ht.eqt _ _ _ h4 h6⟩

theorem merged_any (k : Ks E) (a : Option Addr) (n c : Nat) (w : World) :
    Calls Try.prog 28 #[fnv k, .slice a n c] w fun e w' => e = .returned (.func (.func 39) #[] #[.pointer (some ⟨w.heap.size, 0, none⟩), .pointer (some ⟨w.heap.size + 1, 0, none⟩)]) ∧ w' = (w.alloc (.cells #[fnv k] 53)).alloc (.cells #[.slice a n c] 29) := by
  have hmf : ∀ (fn : Fn) (first cap : Array Value) (w : World), (Instr.makeFunc fn first cap).run Try.prog w = .ok (.func fn first cap) w := fun _ _ _ _ => rfl
  have hfv : fnv k = .func (.func k.gc) #[] #[] := rfl
  rw [hfv]
  go_enter Try.func28, Try.ntmps28
  go_wp2
  go_ret
  exact ⟨rfl, rfl⟩

theorem IsS.below {k : Ks E} {w w' : World} {a : Option Addr} {n c : Nat} {xs : List E} (h : IsS k w a n c xs) {B : Nat} (hb : Below B w w') (hB : w.heap.size ≤ B) : IsS k w' a n c xs :=
  ⟨h.len, h.le, h.max, h.nil, fun ad e j u hu => by
    have := h.rd ad e j u hu
    exact (World.cell?_of_block (hb.block _ (Nat.lt_of_lt_of_le (World.block_lt_of_cell? w _ this) hB))).trans this⟩
theorem IsSS.below {k : Ks E} {w w' : World} {a : Option Addr} {n c : Nat} {rows : List (List E)} (h : IsSS k w a n c rows) {B : Nat} (hb : Below B w w') (hB : w.heap.size ≤ B) : IsSS k w' a n c rows :=
  ⟨h.len, h.le, fun i hi => by
    obtain ⟨b, off, ai, ni, ci, h1, h2, h3⟩ := h.rd i hi
    exact ⟨b, off, ai, ni, ci, h1, (World.cell?_of_block (hb.block _ (Nat.lt_of_lt_of_le (World.block_lt_of_cell? w _ h2) hB))).trans h2, h3.below hb hB⟩⟩
end Go.Proofs.Ytkojbpifcflgfaa.I
