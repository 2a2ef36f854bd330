/- Rising rows, each once, in plain lists. Conditions: a strict total order. -/
import GoSem.Claim
namespace Go.Proofs.Ytkojbpifcflgfaa
variable {κ : Type} [DecidableEq κ]

structure STO (lt : κ → κ → Bool) : Prop where
  irr : ∀ x, lt x x = false
  tr : ∀ x y z, lt x y = true → lt y z = true → lt x z = true
  tt : ∀ x y, x ≠ y → lt x y = false → lt y x = true
/-- One more, in its place, once. -/
def ins (lt : κ → κ → Bool) (x : κ) : List κ → List κ
  | [] => [x]
  | y :: r => if lt y x = true then y :: ins lt x r else if y = x then y :: r else x :: y :: r
def inss (lt : κ → κ → Bool) (l : List κ) : List κ := l.foldl (fun a x => ins lt x a) []
theorem mem_ins {lt : κ → κ → Bool} {x z : κ} : ∀ {l : List κ}, z ∈ ins lt x l ↔ z = x ∨ z ∈ l
  | [] => by simp [ins]
  | y :: r => by
    unfold ins
    split
    · rw [List.mem_cons, mem_ins, List.mem_cons]
      constructor
      · rintro (h | h | h)
        · exact .inr (.inl h)
        · exact .inl h
        · exact .inr (.inr h)
      · rintro (h | h | h)
        · exact .inr (.inl h)
        · exact .inl h
        · exact .inr (.inr h)
    · split
      · rename_i h; subst h; simp
      · simp
theorem inc_ins {lt : κ → κ → Bool} (hO : STO lt) {x : κ} : ∀ {l : List κ}, l.Pairwise (fun a b => lt a b = true) → (ins lt x l).Pairwise (fun a b => lt a b = true)
  | [], _ => List.pairwise_singleton _ _
  | y :: r, h => by
    rw [List.pairwise_cons] at h
    unfold ins
    split
    · rename_i h1
      rw [List.pairwise_cons]
      refine ⟨fun z hz => ?_, inc_ins hO h.2⟩
      rcases mem_ins.1 hz with e | e
      · rw [e]; exact h1
      · exact h.1 z e
    · rename_i h1
      split
      · rw [List.pairwise_cons]; exact h
      · rename_i h2
        have h3 : lt x y = true := hO.tt y x h2 (by simpa using h1)
        rw [List.pairwise_cons]
        refine ⟨fun z hz => ?_, by rw [List.pairwise_cons]; exact h⟩
        rcases List.mem_cons.1 hz with e | e
        · rw [e]; exact h3
        · exact hO.tr _ _ _ h3 (h.1 z e)
theorem inss_go {lt : κ → κ → Bool} (hO : STO lt) : ∀ (l a : List κ), a.Pairwise (fun x y => lt x y = true) → (l.foldl (fun a x => ins lt x a) a).Pairwise (fun x y => lt x y = true) ∧ ∀ z, z ∈ l.foldl (fun a x => ins lt x a) a ↔ z ∈ l ∨ z ∈ a
  | [], a, h => ⟨h, fun z => by simp⟩
  | x :: r, a, h => by
    obtain ⟨h1, h2⟩ := inss_go hO r (ins lt x a) (inc_ins hO h)
    refine ⟨h1, fun z => ?_⟩
    rw [List.foldl_cons, h2, mem_ins, List.mem_cons]
    constructor
    · rintro (h | h | h)
      · exact .inl (.inr h)
      · exact .inl (.inl h)
      · exact .inr h
    · rintro ((h | h) | h)
      · exact .inr (.inl h)
      · exact .inl h
      · exact .inr (.inr h)
theorem inss_inc {lt : κ → κ → Bool} (hO : STO lt) (l : List κ) : (inss lt l).Pairwise (fun x y => lt x y = true) := (inss_go hO l [] List.Pairwise.nil).1
theorem mem_inss {lt : κ → κ → Bool} (hO : STO lt) {l : List κ} {z : κ} : z ∈ inss lt l ↔ z ∈ l := by rw [inss, (inss_go hO l [] List.Pairwise.nil).2]; simp
omit [DecidableEq κ] in
/-- Rising rows that have the same are the same. -/
theorem inc_ext {lt : κ → κ → Bool} (hI : ∀ x, lt x x = false) (hT : ∀ x y z, lt x y = true → lt y z = true → lt x z = true) : ∀ {a b : List κ}, a.Pairwise (fun x y => lt x y = true) → b.Pairwise (fun x y => lt x y = true) → (∀ z, z ∈ a ↔ z ∈ b) → a = b
  | [], [], _, _, _ => rfl
  | [], y :: b, _, _, h => absurd ((h y).2 (by simp)) (by simp)
  | x :: a, [], _, _, h => absurd ((h x).1 (by simp)) (by simp)
  | x :: a, y :: b, ha, hb, h => by
    rw [List.pairwise_cons] at ha hb
    have e : x = y := by
      rcases List.mem_cons.1 ((h x).1 (by simp)) with e | e
      · exact e
      · rcases List.mem_cons.1 ((h y).2 (by simp)) with e2 | e2
        · exact e2.symm
        · have := hT _ _ _ (hb.1 x e) (ha.1 y e2)
          rw [hI] at this; cases this
    subst e
    congr 1
    refine inc_ext hI hT ha.2 hb.2 (fun z => ?_)
    constructor
    · intro hz
      rcases List.mem_cons.1 ((h z).1 (List.mem_cons_of_mem _ hz)) with e | e
      · subst e; have := ha.1 z hz; rw [hI] at this; cases this
      · exact e
    · intro hz
      rcases List.mem_cons.1 ((h z).2 (List.mem_cons_of_mem _ hz)) with e | e
      · subst e; have := hb.1 z hz; rw [hI] at this; cases this
      · exact e
theorem inss_eq {lt : κ → κ → Bool} (hO : STO lt) {l a : List κ} (ha : a.Pairwise (fun x y => lt x y = true)) (h : ∀ z, z ∈ a ↔ z ∈ l) : a = inss lt l :=
  inc_ext hO.irr hO.tr ha (inss_inc hO l) (fun z => (h z).trans (mem_inss hO).symm)
end Go.Proofs.Ytkojbpifcflgfaa
