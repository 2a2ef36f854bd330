/- Plain: labels, which of them may be, their order, their bytes, and these cut again. No conditions but those of each theorem. -/
import Derived.Test.YthklkhdcmoonkaaA
namespace Go.Proofs.Ythklkhdcmoonkaa

/-- A label: its name, its value. -/
abbrev Lb := ByteArray × ByteArray
def nmc (c : Int) : Bool := (decide (97 ≤ c) && decide (c ≤ 122)) || (decide (48 ≤ c) && decide (c ≤ 57)) || decide (c = 95)
/-- A name may be. -/
def nm (s : ByteArray) : Bool := decide (1 ≤ s.size) && decide (s.size ≤ 12) && (nums s).all nmc
/-- A label may be, whatever stands beside it. -/
def okl (x : Lb) : Bool := nm x.1 && decide (1 ≤ x.2.size) && decide (x.2.size ≤ 16)
/-- Labels may be. -/
def May (l : List Lb) : Prop := 1 ≤ l.length ∧ l.length ≤ 6 ∧ (∀ x ∈ l, okl x = true) ∧ l.Pairwise (fun x y => x.1 ≠ y.1)
instance (l : List Lb) : Decidable (May l) := by unfold May; infer_instance
def ltl (x y : Lb) : Bool := li (nums x.1) (nums y.1)
/-- Labels in their order. -/
def Cn (l c : List Lb) : Prop := c.Perm l ∧ c.Pairwise (fun x y => ltl x y = true)

theorem ltl_irr (x : Lb) : ltl x x = false := li_irr _
theorem ltl_trans {x y z : Lb} (h1 : ltl x y = true) (h2 : ltl y z = true) : ltl x z = true := li_trans _ _ _ h1 h2
theorem ltl_asymm {x y : Lb} (h : ltl x y = true) : ltl y x = false := li_asymm h
theorem ltl_total {x y : Lb} (h : x.1 ≠ y.1) (h1 : ltl x y = false) : ltl y x = true := li_total _ _ (fun e => h (nums_inj e)) h1
theorem strict_uniq : ∀ {c d : List Lb}, c.Perm d → c.Pairwise (fun x y => ltl x y = true) → d.Pairwise (fun x y => ltl x y = true) → c = d
  | [], d, hp, _, _ => (List.Perm.nil_eq hp)
  | x :: c, [], hp, _, _ => absurd hp (by simp)
  | x :: c, y :: d, hp, hc, hd => by
    rw [List.pairwise_cons] at hc hd
    have hxy : x = y := by
      have hx : x ∈ y :: d := hp.subset (List.mem_cons_self ..)
      have hy : y ∈ x :: c := hp.symm.subset (List.mem_cons_self ..)
      rcases List.mem_cons.1 hx with h | h
      · exact h
      · rcases List.mem_cons.1 hy with h' | h'
        · exact h'.symm
        · have := ltl_asymm (hc.1 y h'); rw [hd.1 x h] at this; cases this
    subst hxy
    rw [strict_uniq (List.perm_cons x |>.1 hp) hc.2 hd.2]
theorem cn_uniq {l c d : List Lb} (hc : Cn l c) (hd : Cn l d) : c = d := strict_uniq (hc.1.trans hd.1.symm) hc.2 hd.2
/-- Labels in their order; which they are is said by canon_eq. -/
noncomputable def canon (l : List Lb) : List Lb := Classical.epsilon (Cn l)
theorem canon_eq {l c : List Lb} (h : Cn l c) : canon l = c := cn_uniq (Classical.epsilon_spec (p := Cn l) ⟨c, h⟩) h
theorem names_ne_strict {c : List Lb} (h1 : c.Pairwise (fun x y => ltl y x = false)) (h2 : c.Pairwise (fun x y => x.1 ≠ y.1)) : c.Pairwise (fun x y => ltl x y = true) := by
  refine (h1.and h2).imp ?_
  rintro x y ⟨a, b⟩
  exact ltl_total (Ne.symm b) a
theorem names_perm {l c : List Lb} (h : c.Perm l) : c.Pairwise (fun x y => x.1 ≠ y.1) ↔ l.Pairwise (fun x y => x.1 ≠ y.1) :=
  List.Perm.pairwise_iff (fun h => Ne.symm h) h
theorem canon_ex {l : List Lb} (h : l.Pairwise (fun x y => x.1 ≠ y.1)) : Cn l (canon l) := by
  have hp : (l.mergeSort (fun x y => !ltl y x)).Perm l := List.mergeSort_perm l _
  have hs : (l.mergeSort (fun x y => !ltl y x)).Pairwise (fun x y => (!ltl y x) = true) := by
    refine List.pairwise_mergeSort ?_ ?_ l
    · intro a b c h1 h2
      simp only [Bool.not_eq_true'] at *
      cases h : ltl c a with
      | false => rfl
      | true =>
        by_cases e : a.1 = b.1
        · have : ltl c b = true := by unfold ltl at *; rw [← e]; exact h
          rw [this] at h2; cases h2
        · have hab := ltl_total (x := b) (y := a) (Ne.symm e) h1
          rw [ltl_trans h hab] at h2; cases h2
    · intro a b
      cases h : ltl b a with
      | false => simp
      | true => simp [ltl_asymm h]
  have hc : Cn l (l.mergeSort (fun x y => !ltl y x)) := ⟨hp, names_ne_strict (hs.imp (fun h => by simpa using h)) ((names_perm hp).2 h)⟩
  rw [canon_eq hc]; exact hc
theorem canon_len {l : List Lb} (h : l.Pairwise (fun x y => x.1 ≠ y.1)) : (canon l).length = l.length := (canon_ex h).1.length_eq
theorem canon_self {l : List Lb} (h : l.Pairwise (fun x y => ltl x y = true)) : canon l = l := canon_eq ⟨List.Perm.refl _, h⟩
theorem strict_ne {c : List Lb} (h : c.Pairwise (fun x y => ltl x y = true)) : c.Pairwise (fun x y => x.1 ≠ y.1) :=
  h.imp (fun {x y} h e => by unfold ltl at h; rw [e, li_irr] at h; cases h)
theorem May.perm {l c : List Lb} (h : May l) (hp : c.Perm l) : May c :=
  ⟨by rw [hp.length_eq]; exact h.1, by rw [hp.length_eq]; exact h.2.1, fun x hx => h.2.2.1 x (hp.subset hx), (names_perm hp).2 h.2.2.2⟩
theorem May.canon {l : List Lb} (h : May l) : May (canon l) := h.perm (canon_ex h.2.2.2).1
theorem canon_perm {l c : List Lb} (hp : c.Perm l) (h : May l) : canon c = canon l :=
  canon_eq ⟨(canon_ex h.2.2.2).1.trans hp.symm, (canon_ex h.2.2.2).2⟩
theorem canon_canon {l : List Lb} (h : May l) : canon (canon l) = canon l := canon_self (canon_ex h.2.2.2).2
theorem canon_fix {l : List Lb} (h : May l) : canon l = l ↔ l.Pairwise (fun x y => ltl x y = true) := by
  constructor
  · intro e; have := (canon_ex h.2.2.2).2; rw [e] at this; exact this
  · exact canon_self
/-- What the program tells of labels. -/
noncomputable def cnl (l : List Lb) : List Lb := if May l then canon l else []
def cne (l : List Lb) : Int := if May l then 0 else 70
theorem cnl_len (l : List Lb) : (cnl l).length ≤ 6 := by
  unfold cnl; split
  · rename_i h; rw [canon_len h.2.2.2]; exact h.2.1
  · simp
theorem cnl_small (l : List Lb) : ∀ x ∈ cnl l, x.1.size ≤ 12 ∧ x.2.size ≤ 16 := by
  intro x hx
  unfold cnl at hx; split at hx
  · rename_i h
    have := h.canon.2.2.1 x hx
    simp [okl, nm] at this
    omega
  · simp at hx

/-- The look at labels that are sorted. -/
theorem may_sorted {l d : List Lb} (hp : d.Perm l) (hs : d.Pairwise (fun x y => ltl y x = false)) (h1 : 1 ≤ l.length) (h6 : l.length ≤ 6)
    (hok : ∀ x ∈ d, okl x = true) (hadj : ∀ (j : Nat) (h : j + 1 < d.length), (d[j + 1]).1 ≠ (d[j]).1) : May l ∧ canon l = d := by
  have hst : ∀ (j : Nat) (h : j + 1 < d.length), ltl d[j] d[j + 1] = true := fun j h => by
    have := List.pairwise_iff_getElem.1 hs j (j + 1) (by omega) h (by omega)
    exact ltl_total (hadj j h) this
  have hstrict : d.Pairwise (fun x y => ltl x y = true) := by
    rw [List.pairwise_iff_getElem]
    intro i j hi hj hij
    obtain ⟨m, rfl⟩ : ∃ m, j = i + 1 + m := ⟨j - (i + 1), by omega⟩
    clear hij
    induction m with
    | zero => exact hst i hj
    | succ m ih => exact ltl_trans (ih (by omega)) (hst (i + 1 + m) (by omega))
  have hc : Cn l d := ⟨hp, hstrict⟩
  refine ⟨⟨h1, h6, fun x hx => hok x (hp.symm.subset hx), (names_perm hp).1 (strict_ne hstrict)⟩, canon_eq hc⟩
theorem may_not {l d : List Lb} (hp : d.Perm l) {j : Nat} (hj : j < d.length) (h : okl d[j] = false ∨ ∃ h0 : 0 < j, (d[j]).1 = (d[j - 1]'(by omega)).1) : ¬ May l := by
  intro hm
  have hd := hm.perm hp
  rcases h with h | ⟨h0, h⟩
  · rw [hd.2.2.1 _ (List.getElem_mem hj)] at h; cases h
  · exact List.pairwise_iff_getElem.1 hd.2.2.2 (j - 1) j (by omega) hj (by omega) h.symm

/-- The bytes of labels. -/
def eb (x : Lb) : List Int := E (nums x.1) ++ E (nums x.2)
def el : List Lb → List Int
  | [] => []
  | x :: r => eb x ++ el r
theorem el_append : ∀ a b : List Lb, el (a ++ b) = el a ++ el b
  | [], _ => rfl
  | x :: r, b => by simp [el, el_append r b]
theorem el_snoc (a : List Lb) (x : Lb) : el (a ++ [x]) = el a ++ eb x := by rw [el_append]; simp [el]
theorem eb_bytes (x : Lb) : Bytes (eb x) := bytes_append (E_bytes (nums_bytes _)) (E_bytes (nums_bytes _))
theorem el_bytes : ∀ l : List Lb, Bytes (el l)
  | [] => fun x hx => by simp [el] at hx
  | x :: r => bytes_append (eb_bytes x) (el_bytes r)
theorem eb_len (x : Lb) : (eb x).length ≤ 2 * x.1.size + 2 * x.2.size + 2 := by
  have h1 := E_len (nums x.1)
  have h2 := E_len (nums x.2)
  rw [nums_len] at h1 h2
  simp [eb]; omega
theorem el_len : ∀ (l : List Lb), (∀ x ∈ l, x.1.size ≤ 12 ∧ x.2.size ≤ 16) → (el l).length ≤ 60 * l.length
  | [], _ => by simp [el]
  | x :: r, h => by
    have ih := el_len r (fun y hy => h y (List.mem_cons_of_mem _ hy))
    have h1 := h x (List.mem_cons_self ..)
    have h2 := eb_len x
    simp [el]; omega

/-- Labels cut off bytes, behind those that are cut already: the error, the labels. -/
def prsA : Nat → List Lb → List Int → Int × List Lb
  | 0, acc, b => if b = [] then (0, acc) else (10, [])
  | f + 1, acc, b => if b = [] then (0, acc) else if (cut b).1 ≠ 0 then ((cut b).1, []) else
      if (cut (b.drop (cut b).2.2)).1 ≠ 0 then ((cut (b.drop (cut b).2.2)).1, []) else
      prsA f (acc ++ [(strOfNums (cut b).2.1, strOfNums (cut (b.drop (cut b).2.2)).2.1)]) ((b.drop (cut b).2.2).drop (cut (b.drop (cut b).2.2)).2.2)
def prs (b : List Int) : Int × List Lb := prsA b.length [] b
theorem prsA_nil (f : Nat) (acc : List Lb) : prsA f acc [] = (0, acc) := by cases f <;> simp [prsA]
theorem prsA_el : ∀ (l : List Lb) (acc : List Lb) (f : Nat), (el l).length ≤ f → prsA f acc (el l) = (0, acc ++ l)
  | [], acc, f, _ => by simp [el, prsA_nil]
  | x :: r, acc, f, h => by
    have hE1 := E_pos (nums x.1)
    have hE2 := E_pos (nums x.2)
    simp only [el, eb, List.length_append] at h
    obtain ⟨f, rfl⟩ : ∃ g, f = g + 1 := ⟨f - 1, by omega⟩
    have e : el (x :: r) = E (nums x.1) ++ (E (nums x.2) ++ el r) := by simp [el, eb]
    have hne : ¬ el (x :: r) = [] := by
      intro h0; have := congrArg List.length h0; rw [e] at this; simp only [List.length_append, List.length_nil] at this; omega
    have c1 : cut (el (x :: r)) = (0, nums x.1, (E (nums x.1)).length) := by rw [e]; exact cut_E _ _ (nums_bytes _)
    have d1 : (el (x :: r)).drop (E (nums x.1)).length = E (nums x.2) ++ el r := by rw [e]; simp
    have c2 : cut (E (nums x.2) ++ el r) = (0, nums x.2, (E (nums x.2)).length) := cut_E _ _ (nums_bytes _)
    have d2 : (E (nums x.2) ++ el r).drop (E (nums x.2)).length = el r := by simp
    rw [prsA, if_neg hne, c1]
    simp only [d1, c2, d2, ne_eq, not_true_eq_false, if_false, str_nums]
    rw [prsA_el r _ f (by omega)]
    simp
theorem prs_el (l : List Lb) : prs (el l) = (0, l) := by unfold prs; rw [prsA_el l [] _ (Nat.le_refl _)]; simp
theorem el_inj {a b : List Lb} (h : el a = el b) : a = b := by
  have := prs_el a; rw [h, prs_el b] at this; exact (congrArg Prod.snd this).symm
theorem prsA_ok : ∀ (f : Nat) (acc : List Lb) (b : List Int), Bytes b → (prsA f acc b).1 = 0 → ∃ l, b = el l ∧ prsA f acc b = (0, acc ++ l)
  | 0, acc, b, _, h => by
    by_cases hb : b = []
    · subst hb; exact ⟨[], rfl, by simp [prsA]⟩
    · simp [prsA, hb] at h
  | f + 1, acc, b, hby, h => by
    by_cases hb : b = []
    · subst hb; exact ⟨[], rfl, by simp [prsA]⟩
    · rw [prsA, if_neg hb] at h ⊢
      by_cases h1 : (cut b).1 = 0
      · obtain ⟨s, r, rfl, hs, hc⟩ := cut_ok hby h1
        have hr : Bytes r := fun x hx => hby x (List.mem_append_right _ hx)
        have d1 : (E s ++ r).drop (E s).length = r := by simp
        rw [hc] at h ⊢
        simp only [d1, ne_eq, not_true_eq_false, if_false] at h ⊢
        by_cases h2 : (cut r).1 = 0
        · obtain ⟨t, r2, rfl, ht, hc2⟩ := cut_ok hr h2
          have hr2 : Bytes r2 := fun x hx => hr x (List.mem_append_right _ hx)
          have d2 : (E t ++ r2).drop (E t).length = r2 := by simp
          rw [hc2] at h ⊢
          simp only [d2, not_true_eq_false, if_false] at h ⊢
          obtain ⟨l, rfl, hl⟩ := prsA_ok f _ r2 hr2 h
          refine ⟨(strOfNums s, strOfNums t) :: l, ?_, ?_⟩
          · simp [el, eb, nums_str hs, nums_str ht]
          · rw [hl]; simp
        · rw [if_pos h2] at h; exact absurd h h2
      · rw [if_pos h1] at h; exact absurd h h1
theorem prs_ok {b : List Int} (hb : Bytes b) (h : (prs b).1 = 0) : b = el (prs b).2 := by
  obtain ⟨l, h1, h2⟩ := prsA_ok b.length [] b hb h
  unfold prs; rw [h2]; simpa using h1
theorem prsA_err : ∀ (f : Nat) (acc : List Lb) (b : List Int), (prsA f acc b).1 = 0 ∨ prsA f acc b = (10, []) ∨ prsA f acc b = (11, [])
  | 0, acc, b => by
    by_cases hb : b = [] <;> simp [prsA, hb]
  | f + 1, acc, b => by
    by_cases hb : b = []
    · simp [prsA, hb]
    · rw [prsA, if_neg hb]
      split
      · rename_i h
        rcases cut_err b with h' | h' | h'
        · exact absurd h' h
        · rw [h']; simp
        · rw [h']; simp
      · split
        · rename_i h
          rcases cut_err (b.drop (cut b).2.2) with h' | h' | h'
          · exact absurd h' h
          · rw [h']; simp
          · rw [h']; simp
        · exact prsA_err f _ _
theorem prs_err (b : List Int) : (prs b).1 = 0 ∨ prs b = (10, []) ∨ prs b = (11, []) := prsA_err _ _ _
end Go.Proofs.Ythklkhdcmoonkaa
