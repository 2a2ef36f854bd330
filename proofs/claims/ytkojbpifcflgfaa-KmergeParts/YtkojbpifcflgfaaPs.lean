/- Numbers that rows have in common, in plain lists. Conditions: none. -/
import Derived.Test.YtkojbpifcflgfaaMl
namespace Go.Proofs.Ytkojbpifcflgfaa

def Inc (l : List Int) : Prop := l.Pairwise (fun x y => ltI x y = true)
theorem has_mem (x : Int) (r : List Int) : hasI x r = decide (x ∈ r) := by
  unfold hasI
  apply Bool.eq_iff_iff.2
  rw [List.any_eq_true, decide_eq_true_iff]
  constructor
  · rintro ⟨y, hy, e⟩
    have e2 : y = x := cfI_zero.1 (by simpa using e)
    rw [← e2]; exact hy
  · intro h
    exact ⟨x, h, by simp [cfI_zero.2 rfl]⟩
theorem hads_inc (n : Nat) (rows : List (List Int)) : Inc (hads n rows) := (inss_inc stoI rows.flatten).filter _
theorem mem_hads {n : Nat} {rows : List (List Int)} {z : Int} : z ∈ hads n rows ↔ z ∈ rows.flatten ∧ rows.countP (hasI z) = n := by
  unfold hads
  rw [List.mem_filter, mem_inss stoI, beq_iff_eq]
theorem ext_inc {a b : List Int} (ha : Inc a) (hb : Inc b) (h : ∀ z, z ∈ a ↔ z ∈ b) : a = b := inc_ext stoI.irr stoI.tr ha hb h
theorem mem_two {a b : List Int} {z : Int} : z ∈ hads 2 [a, b] ↔ z ∈ a ∧ z ∈ b := by
  rw [mem_hads]
  simp only [List.flatten_cons, List.flatten_nil, List.append_nil, List.mem_append, List.countP_cons, List.countP_nil, has_mem]
  by_cases h1 : z ∈ a <;> by_cases h2 : z ∈ b <;> simp [h1, h2]
theorem mem_three {a b c : List Int} {z : Int} : z ∈ hads 3 [a, b, c] ↔ z ∈ a ∧ z ∈ b ∧ z ∈ c := by
  rw [mem_hads]
  simp only [List.flatten_cons, List.flatten_nil, List.append_nil, List.mem_append, List.countP_cons, List.countP_nil, has_mem]
  by_cases h1 : z ∈ a <;> by_cases h2 : z ∈ b <;> by_cases h3 : z ∈ c <;> simp [h1, h2, h3]
/-- What Less answers. -/
def lss (a b : List Int) : List Int := hads 1 [a, hads 2 [a, b]]
theorem mem_lss {a b : List Int} {z : Int} : z ∈ lss a b ↔ z ∈ a ∧ z ∉ b := by
  unfold lss
  rw [mem_hads]
  simp only [List.flatten_cons, List.flatten_nil, List.append_nil, List.mem_append, List.countP_cons, List.countP_nil, has_mem, mem_two]
  by_cases h1 : z ∈ a <;> by_cases h2 : z ∈ b <;> simp [h1, h2]
theorem lss_inc (a b : List Int) : Inc (lss a b) := hads_inc _ _
theorem nil_of {l : List Int} (h : ∀ z, z ∉ l) : l = [] := by
  cases l with
  | nil => rfl
  | cons x r => exact absurd (by simp) (h x)
theorem set1 (a b : List Int) : inss ltI (hads 2 [a, b] ++ lss a b) = inss ltI a := by
  refine ext_inc (inss_inc stoI _) (inss_inc stoI _) (fun z => ?_)
  rw [mem_inss stoI, mem_inss stoI, List.mem_append, mem_two, mem_lss]
  by_cases h1 : z ∈ a <;> by_cases h2 : z ∈ b <;> simp [h1, h2]
theorem set2 (a b : List Int) : hads 2 [hads 2 [a, b], lss a b] = [] := nil_of fun z h => by
  rw [mem_two, mem_two, mem_lss] at h
  exact h.2.2 h.1.2
theorem len_split (p : Int → Bool) : ∀ l : List Int, (l.filter p).length + (l.filter (fun x => !p x)).length = l.length
  | [] => rfl
  | x :: r => by
    have := len_split p r
    rw [List.filter_cons, List.filter_cons]
    cases p x <;> simp <;> omega
theorem set3 (a b : List Int) : (hads 2 [a, b]).length + (lss a b).length = (inss ltI a).length := by
  have e1 : hads 2 [a, b] = (inss ltI a).filter (fun z => decide (z ∈ b)) := ext_inc (hads_inc _ _) ((inss_inc stoI _).filter _) (fun z => by rw [mem_two, List.mem_filter, mem_inss stoI]; simp)
  have e2 : lss a b = (inss ltI a).filter (fun z => !decide (z ∈ b)) := ext_inc (lss_inc _ _) ((inss_inc stoI _).filter _) (fun z => by rw [mem_lss, List.mem_filter, mem_inss stoI]; simp)
  rw [e1, e2]; exact len_split _ _
theorem set4 (a b c : List Int) : lss (hads 3 [a, b, c]) c = [] := nil_of fun z h => by
  rw [mem_lss, mem_three] at h
  exact h.2 h.1.2.2
theorem set5 (a b c : List Int) : hads 2 [hads 2 [a, b], c] = hads 3 [a, b, c] := ext_inc (hads_inc _ _) (hads_inc _ _) fun z => by
  rw [mem_two, mem_two, mem_three, and_assoc]
theorem set6 (a b : List Int) : hads 2 [b, a] = hads 2 [a, b] := ext_inc (hads_inc _ _) (hads_inc _ _) fun z => by
  rw [mem_two, mem_two, and_comm]
end Go.Proofs.Ytkojbpifcflgfaa
