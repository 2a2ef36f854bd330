/- Plain facts on values with one exponent: no Go text in sight. No conditions but those that each theorem names. -/
import Derived.WalkKit
namespace Go.Proofs.YtpjimckbpabakaaDoor
open Go.RowKit

/-- A value: mantissa, exponent, kind. -/
structure Vl where
  M : Int
  E : Int
  S : Int

/-- May a value be? -/
def mayBe (M E S : Int) : Bool :=
  if S = 0 then (if M = 0 then decide (E = 0) else decide (-1000000000000000 < M ∧ M < 1000000000000000 ∧ ¬ M.tmod 10 = 0 ∧ -300 ≤ E ∧ E ≤ 290))
  else decide (1 ≤ S ∧ S ≤ 4 ∧ M = 0 ∧ E = 0)
def may (v : Vl) : Bool := mayBe v.M v.E v.S

theorem may_num {v : Vl} (h : may v = true) (hM : v.M ≠ 0) : v.S = 0 ∧ v.M.natAbs < 1000000000000000 ∧ ¬ v.M.tmod 10 = 0 ∧ -300 ≤ v.E ∧ v.E ≤ 290 := by
  unfold may mayBe at h
  split at h
  · rename_i hS
    have := of_decide_eq_true h
    exact ⟨hS, by omega, this.2.2.1, this.2.2.2.1, this.2.2.2.2⟩
  · have := of_decide_eq_true h
    exact absurd this.2.2.1 hM
theorem may_zero {v : Vl} (h : may v = true) (hM : v.M = 0) : v.E = 0 ∧ 0 ≤ v.S ∧ v.S ≤ 4 := by
  unfold may mayBe at h
  split at h
  · rename_i hS
    have := of_decide_eq_true h
    exact ⟨this, by omega, by omega⟩
  · have := of_decide_eq_true h
    exact ⟨this.2.2.2, by omega, by omega⟩
theorem may_kind {v : Vl} (h : may v = true) (hS : v.S ≠ 0) : v.M = 0 ∧ v.E = 0 ∧ 1 ≤ v.S ∧ v.S ≤ 4 := by
  unfold may mayBe at h
  rw [if_neg hS] at h
  have := of_decide_eq_true h
  exact ⟨this.2.2.1, this.2.2.2, this.1, this.2.1⟩

/-- How many digits a number has. -/
def dg : Nat → Nat → Nat
  | 0, _ => 0
  | f + 1, n => if n = 0 then 0 else dg f (n / 10) + 1
theorem dg_spec : ∀ (f n : Nat), n < 10 ^ f → n < 10 ^ dg f n ∧ (∀ j, j < dg f n → 10 ^ j ≤ n) ∧ dg f n ≤ f
  | 0, n, h => by simp [dg] at *; omega
  | f + 1, n, h => by
    by_cases h0 : n = 0
    · subst h0; simp [dg]
    · obtain ⟨h1, h2, h3⟩ := dg_spec f (n / 10) (by rw [Nat.pow_succ] at h; omega)
      have e : dg (f + 1) n = dg f (n / 10) + 1 := by simp [dg, h0]
      rw [e]
      refine ⟨by rw [Nat.pow_succ]; omega, ?_, by omega⟩
      intro j hj
      cases j with
      | zero => simp; omega
      | succ j =>
        have := h2 j (by omega)
        rw [Nat.pow_succ]; omega
def dgi (M : Int) : Nat := dg 19 M.natAbs
theorem dg_uniq {n d d' : Nat} (h1 : n < 10 ^ d) (h2 : ∀ j, j < d → 10 ^ j ≤ n) (h3 : n < 10 ^ d') (h4 : ∀ j, j < d' → 10 ^ j ≤ n) : d = d' := by
  rcases Nat.lt_trichotomy d d' with h | h | h
  · have := h4 d h; omega
  · exact h
  · have := h2 d' h; omega
theorem dg_pos {M : Int} (h : M ≠ 0) : 1 ≤ dgi M := by
  unfold dgi
  show 1 ≤ dg (18 + 1) M.natAbs
  have h0 : M.natAbs ≠ 0 := by omega
  rw [dg, if_neg h0]; omega
theorem dgi_spec {M : Int} (h : M.natAbs < 10 ^ 19) : M.natAbs < 10 ^ dgi M ∧ (∀ j, j < dgi M → 10 ^ j ≤ M.natAbs) := ⟨(dg_spec 19 _ h).1, (dg_spec 19 _ h).2.1⟩
theorem dg_15 {M : Int} (h : M.natAbs < 1000000000000000) : dgi M ≤ 15 := by
  rcases Nat.lt_or_ge 15 (dgi M) with h1 | h1
  · have h2 := (dgi_spec (M := M) (by omega)).2 15 h1
    have : (10 : Nat) ^ 15 = 1000000000000000 := by decide
    omega
  · exact h1
theorem dg_fits {n d k : Nat} (h1 : n < 10 ^ d) (h2 : ∀ j, j < d → 10 ^ j ≤ n) (hd : 1 ≤ d) : n * 10 ^ k < 10 ^ 18 ↔ d + k ≤ 18 := by
  constructor
  · intro h
    rcases Nat.lt_or_ge 18 (d + k) with h' | h'
    · exfalso
      have a := h2 (d - 1) (by omega)
      have b : 10 ^ (d - 1) * 10 ^ k ≤ n * 10 ^ k := Nat.mul_le_mul_right _ a
      rw [← Nat.pow_add] at b
      have c : 10 ^ 18 ≤ 10 ^ (d - 1 + k) := Nat.pow_le_pow_right (by decide) (by omega)
      exact absurd h (Nat.not_lt.2 (Nat.le_trans c b))
    · exact h'
  · intro h
    have b : n * 10 ^ k < 10 ^ d * 10 ^ k := Nat.mul_lt_mul_of_pos_right h1 (Nat.pow_pos (by decide))
    rw [← Nat.pow_add] at b
    exact Nat.lt_of_lt_of_le b (Nat.pow_le_pow_right (by decide) h)

/-- The places of the digits of all numbers so far: from the first on, below the second. -/
def stp (s : Int × Int) (v : Vl) : Int × Int :=
  if v.M = 0 then s else if s.1 < s.2 then (min v.E s.1, max (v.E + dgi v.M) s.2) else (v.E, v.E + dgi v.M)
def st (l : List Vl) : Int × Int := l.foldl stp (0, 0)
theorem st_snoc (l : List Vl) (v : Vl) : st (l ++ [v]) = stp (st l) v := by simp [st]
def good (l : List Vl) : Prop := (∀ v ∈ l, may v = true) ∧ (st l).2 - (st l).1 ≤ 18

theorem snoc_ind {P : List Vl → Prop} (h0 : P []) (h1 : ∀ l v, P l → P (l ++ [v])) (l : List Vl) : P l := by
  rw [← List.reverse_reverse l]
  generalize l.reverse = r
  induction r with
  | nil => exact h0
  | cons a r ih => rw [List.reverse_cons]; exact h1 _ _ ih

theorem st_none (l : List Vl) : (∀ v ∈ l, v.M = 0) → st l = (0, 0) := by
  refine snoc_ind (P := fun l => (∀ v ∈ l, v.M = 0) → st l = (0, 0)) (fun _ => rfl) ?_ l
  intro l v ih h
  rw [st_snoc, ih fun v hv => h v (by simp [hv])]
  simp [stp, h v (by simp)]
theorem st_le (l : List Vl) : (st l).1 ≤ (st l).2 := by
  refine snoc_ind (P := fun l => (st l).1 ≤ (st l).2) (by simp [st]) ?_ l
  intro l v ih
  rw [st_snoc]
  unfold stp
  split
  · exact ih
  · split <;> simp <;> omega
theorem st_some (l : List Vl) : (∃ v ∈ l, v.M ≠ 0) → (st l).1 < (st l).2 ∧ (∃ v ∈ l, v.M ≠ 0 ∧ (st l).1 = v.E) ∧ (∃ v ∈ l, v.M ≠ 0 ∧ (st l).2 = v.E + dgi v.M) ∧ ∀ v ∈ l, v.M ≠ 0 → (st l).1 ≤ v.E ∧ v.E + dgi v.M ≤ (st l).2 := by
  refine snoc_ind (P := fun l => (∃ v ∈ l, v.M ≠ 0) → (st l).1 < (st l).2 ∧ (∃ v ∈ l, v.M ≠ 0 ∧ (st l).1 = v.E) ∧ (∃ v ∈ l, v.M ≠ 0 ∧ (st l).2 = v.E + dgi v.M) ∧ ∀ v ∈ l, v.M ≠ 0 → (st l).1 ≤ v.E ∧ v.E + dgi v.M ≤ (st l).2) ?_ ?_ l
  · rintro ⟨v, hv, _⟩; simp at hv
  intro l v ih h
  rw [st_snoc]
  by_cases hv : v.M = 0
  · have e : stp (st l) v = st l := by simp [stp, hv]
    rw [e]
    obtain ⟨x, hx, hx0⟩ := h
    have hxl : x ∈ l := by
      rcases List.mem_append.1 hx with h | h
      · exact h
      · simp at h; subst h; exact absurd hv hx0
    obtain ⟨i1, ⟨a, ha, ha2⟩, ⟨b, hb, hb2⟩, i4⟩ := ih ⟨x, hxl, hx0⟩
    refine ⟨i1, ⟨a, by simp [ha], ha2⟩, ⟨b, by simp [hb], hb2⟩, ?_⟩
    intro y hy hy0
    rcases List.mem_append.1 hy with h | h
    · exact i4 y h hy0
    · simp at h; subst h; exact absurd hv hy0
  · have hp := dg_pos hv
    by_cases hn : ∃ x ∈ l, x.M ≠ 0
    · obtain ⟨i1, ⟨a, ha, ha2⟩, ⟨b, hb, hb2⟩, i4⟩ := ih hn
      have e : stp (st l) v = (min v.E (st l).1, max (v.E + dgi v.M) (st l).2) := by simp [stp, hv, i1]
      rw [e]
      refine ⟨by simp only; omega, ?_, ?_, ?_⟩
      · rcases Int.le_total v.E (st l).1 with h | h
        · exact ⟨v, by simp, hv, by simp only; omega⟩
        · exact ⟨a, by simp [ha], ha2.1, by simp only; omega⟩
      · rcases Int.le_total (st l).2 (v.E + dgi v.M) with h | h
        · exact ⟨v, by simp, hv, by simp only; omega⟩
        · exact ⟨b, by simp [hb], hb2.1, by simp only; omega⟩
      · intro y hy hy0
        rcases List.mem_append.1 hy with h | h
        · have := i4 y h hy0; simp only; omega
        · simp at h; subst h; simp only; omega
    · have hz := st_none l fun x hx => Decidable.byContradiction fun h => hn ⟨x, hx, h⟩
      have e : stp (st l) v = (v.E, v.E + dgi v.M) := by simp [stp, hv, hz]
      rw [e]
      refine ⟨by simp only; omega, ⟨v, by simp, hv, rfl⟩, ⟨v, by simp, hv, rfl⟩, ?_⟩
      intro y hy hy0
      rcases List.mem_append.1 hy with h | h
      · exact absurd ⟨y, h, hy0⟩ hn
      · simp at h; subst h; simp
theorem st_grow (l : List Vl) (v : Vl) : (st l).2 - (st l).1 ≤ (st (l ++ [v])).2 - (st (l ++ [v])).1 := by
  rw [st_snoc]
  have := st_le l
  unfold stp
  split
  · exact Int.le_refl _
  · split <;> simp only <;> omega
theorem good_nil : good [] := ⟨fun v hv => by simp at hv, by simp [st]⟩
theorem good_snoc {l : List Vl} {v : Vl} (h : good (l ++ [v])) : good l := ⟨fun x hx => h.1 x (by simp [hx]), Int.le_trans (st_grow l v) h.2⟩
theorem take_snoc (l : List Vl) (k : Nat) (h : k < l.length) : l.take (k + 1) = l.take k ++ [l.getD k ⟨0, 0, 0⟩] := by
  rw [List.take_succ_eq_append_getElem h]
  simp [List.getD, h]
theorem good_take {l : List Vl} : ∀ (d k : Nat), k + d ≤ l.length → good (l.take (k + d)) → good (l.take k)
  | 0, k, _, h => h
  | d + 1, k, hk, h => by
    refine good_take d k (by omega) ?_
    rw [show k + (d + 1) = k + d + 1 by omega, take_snoc l _ (by omega)] at h
    exact good_snoc h
/-- How many the longest beginning is, and that it is the one. -/
def Longest (l : List Vl) (n : Nat) : Prop := n ≤ l.length ∧ good (l.take n) ∧ ∀ k, n < k → k ≤ l.length → ¬ good (l.take k)
theorem longest_of {l : List Vl} {n : Nat} (h1 : n ≤ l.length) (h2 : good (l.take n)) (h3 : n = l.length ∨ ¬ good (l.take (n + 1))) : Longest l n := by
  refine ⟨h1, h2, fun k hk hl hg => ?_⟩
  rcases h3 with h3 | h3
  · omega
  · exact h3 (good_take (k - (n + 1)) (n + 1) (by omega) (by rw [show n + 1 + (k - (n + 1)) = k by omega]; exact hg))
theorem Longest.uniq {l : List Vl} {n m : Nat} (h1 : Longest l n) (h2 : Longest l m) : n = m := by
  rcases Nat.lt_trichotomy n m with h | h | h
  · exact absurd h2.2.1 (h1.2.2 m h h2.1)
  · exact h
  · exact absurd h1.2.1 (h2.2.2 n h h1.1)

/-- The mantissa of a value among those that have that exponent. -/
def mant (v : Vl) (e : Int) : Int := if v.S ≠ 0 then -9223372036854775808 + v.S else if v.M = 0 then 0 else v.M * 10 ^ (v.E - e).toNat
def fits (v : Vl) (e : Int) : Prop := may v = true ∧ (v.M ≠ 0 → e ≤ v.E ∧ v.M.natAbs * 10 ^ (v.E - e).toNat < 10 ^ 18)
theorem fits_iff {v : Vl} {e : Int} (h : may v = true) (hM : v.M ≠ 0) (he : e ≤ v.E) : v.M.natAbs * 10 ^ (v.E - e).toNat < 10 ^ 18 ↔ v.E + dgi v.M ≤ e + 18 := by
  obtain ⟨_, hb, _⟩ := may_num h hM
  obtain ⟨d1, d2⟩ := dgi_spec (M := v.M) (by omega)
  rw [dg_fits d1 d2 (dg_pos hM)]
  omega
theorem good_iff (l : List Vl) : good l ↔ ∀ v ∈ l, fits v (st l).1 := by
  constructor
  · intro h v hv
    refine ⟨h.1 v hv, fun hM => ?_⟩
    obtain ⟨_, _, _, h4⟩ := st_some l ⟨v, hv, hM⟩
    obtain ⟨a, b⟩ := h4 v hv hM
    refine ⟨a, (fits_iff (h.1 v hv) hM a).2 ?_⟩
    have := h.2
    omega
  · intro h
    refine ⟨fun v hv => (h v hv).1, ?_⟩
    by_cases hn : ∃ x ∈ l, x.M ≠ 0
    · obtain ⟨_, _, ⟨v, hv, hM, he⟩, _⟩ := st_some l hn
      obtain ⟨a, b⟩ := (h v hv).2 hM
      have := (fits_iff (h v hv).1 hM a).1 b
      omega
    · rw [st_none l fun x hx => Decidable.byContradiction fun h => hn ⟨x, hx, h⟩]
      simp
theorem low_bd {l : List Vl} (h : ∀ v ∈ l, may v = true) : -300 ≤ (st l).1 ∧ (st l).1 ≤ 290 := by
  by_cases hn : ∃ x ∈ l, x.M ≠ 0
  · obtain ⟨_, ⟨v, hv, hM, he⟩, _⟩ := st_some l hn
    have := may_num (h v hv) hM
    omega
  · rw [st_none l fun x hx => Decidable.byContradiction fun h => hn ⟨x, hx, h⟩]
    simp
theorem top_bd {l : List Vl} (h : ∀ v ∈ l, may v = true) : -300 ≤ (st l).2 ∧ (st l).2 ≤ 305 := by
  by_cases hn : ∃ x ∈ l, x.M ≠ 0
  · obtain ⟨_, _, ⟨v, hv, hM, he⟩, _⟩ := st_some l hn
    have := may_num (h v hv) hM
    have := dg_15 this.2.1
    omega
  · rw [st_none l fun x hx => Decidable.byContradiction fun h => hn ⟨x, hx, h⟩]
    simp

/-- A mantissa and an exponent, without the noughts at the mantissa's end. -/
def strip : Nat → Int → Int → Int × Int
  | 0, m, e => (m, e)
  | f + 1, m, e => if m.tmod 10 = 0 then strip f (m.tdiv 10) (e + 1) else (m, e)
theorem strip_spec : ∀ (f : Nat) (m e : Int), m ≠ 0 → m.natAbs < 10 ^ f → ∃ k : Nat, m = (strip f m e).1 * 10 ^ k ∧ ¬ (strip f m e).1.tmod 10 = 0 ∧ (strip f m e).2 = e + k ∧ k ≤ f
  | 0, m, e, h0, h => by simp at h; omega
  | f + 1, m, e, h0, h => by
    by_cases hm : m.tmod 10 = 0
    · obtain ⟨q, hq⟩ := Int.dvd_of_tmod_eq_zero hm
      have hd : m.tdiv 10 = q := by rw [hq]; exact Int.mul_tdiv_cancel_left _ (by decide)
      obtain ⟨k, h1, h2, h3, h4⟩ := strip_spec f q (e + 1) (by omega) (by rw [Nat.pow_succ] at h; omega)
      have e1 : strip (f + 1) m e = strip f q (e + 1) := by simp [strip, hm, hd]
      rw [e1]
      refine ⟨k + 1, ?_, h2, by omega, by omega⟩
      rw [Int.pow_succ, ← Int.mul_assoc, ← h1, hq, Int.mul_comm]
    · have e1 : strip (f + 1) m e = (m, e) := by simp [strip, hm]
      rw [e1]
      exact ⟨0, by simp, hm, by simp, by omega⟩
theorem strip_back : ∀ (k f : Nat) (a e : Int), ¬ a.tmod 10 = 0 → k ≤ f → strip f (a * 10 ^ k) e = (a, e + k)
  | 0, 0, a, e, _, _ => by simp [strip]
  | 0, f + 1, a, e, h, _ => by simp [strip, h]
  | k + 1, 0, a, e, _, hk => by omega
  | k + 1, f + 1, a, e, h, hk => by
    have ih := strip_back k f a (e + 1) h (by omega)
    have e1 : a * 10 ^ (k + 1) = a * 10 ^ k * 10 := by rw [Int.pow_succ, Int.mul_assoc]
    rw [e1]
    have t : (a * 10 ^ k * 10).tmod 10 = 0 := Int.mul_tmod_left _ _
    have d : (a * 10 ^ k * 10).tdiv 10 = a * 10 ^ k := Int.mul_tdiv_cancel _ (by decide)
    simp only [strip, t, d, if_pos, ih]
    rw [Prod.mk.injEq]
    exact ⟨rfl, by omega⟩
/-- What Clean tells. -/
def cl (m e : Int) : Option Vl :=
  if e < -1000 ∨ 1000 < e then none
  else if m = 0 then some ⟨0, 0, 0⟩
  else if mayBe (strip 19 m e).1 (strip 19 m e).2 0 = true then some ⟨(strip 19 m e).1, (strip 19 m e).2, 0⟩ else none
/-- What a mantissa with an exponent tells. -/
def unv (m e : Int) : Option Vl :=
  if -9223372036854775807 ≤ m ∧ m ≤ -9223372036854775804 then some ⟨0, 0, m + 9223372036854775808⟩
  else if m ≤ -1000000000000000000 ∨ 1000000000000000000 ≤ m then none
  else cl m e
theorem mant_bd {v : Vl} {e : Int} (h : fits v e) : -9223372036854775808 ≤ mant v e ∧ mant v e ≤ 9223372036854775807 := by
  unfold mant
  split
  · rename_i hS
    have := may_kind h.1 hS
    omega
  · split
    · omega
    · rename_i hM
      have := (h.2 hM).2
      have hn : (v.M * 10 ^ (v.E - e).toNat).natAbs = v.M.natAbs * 10 ^ (v.E - e).toNat := by rw [Int.natAbs_mul, Int.natAbs_pow]; rfl
      have h18 : (10 : Nat) ^ 18 = 1000000000000000000 := by decide
      rw [← hn] at this
      omega
theorem unv_mant {v : Vl} {e : Int} (h : fits v e) (h0 : -1000 ≤ e) (h1 : e ≤ 1000) : unv (mant v e) e = some v := by
  obtain ⟨M, E, S⟩ := v
  by_cases hS : S = 0
  · by_cases hM : M = 0
    · have hz := may_zero h.1 hM
      simp only at hz
      subst hS; subst hM
      obtain ⟨rfl, _⟩ := hz
      simp [mant, unv, cl]; omega
    · have hf := h.2 hM
      simp only at hf
      obtain ⟨hS0, hb, ht, _, _⟩ := may_num h.1 hM
      simp only at hb ht
      have em : mant ⟨M, E, S⟩ e = M * 10 ^ (E - e).toNat := by simp [mant, hS, hM]
      rw [em]
      have hn : (M * 10 ^ (E - e).toNat).natAbs = M.natAbs * 10 ^ (E - e).toNat := by rw [Int.natAbs_mul, Int.natAbs_pow]; rfl
      have h18 : (10 : Nat) ^ 18 = 1000000000000000000 := by decide
      have hlt := hf.2
      have hk : (E - e).toNat ≤ 19 := by
        rcases Nat.lt_or_ge 19 (E - e).toNat with h' | h'
        · exfalso
          have a : 10 ^ 18 ≤ 10 ^ (E - e).toNat := Nat.pow_le_pow_right (by decide) (by omega)
          have b : 1 * 10 ^ (E - e).toNat ≤ M.natAbs * 10 ^ (E - e).toNat := Nat.mul_le_mul_right _ (by omega)
          omega
        · exact h'
      have hs := strip_back (E - e).toNat 19 M e ht hk
      rw [← hn] at hlt
      have hz : M * 10 ^ (E - e).toNat ≠ 0 := Int.mul_ne_zero hM (Int.pow_ne_zero (by decide))
      have hE : e + ((E - e).toNat : Int) = E := by omega
      unfold unv
      rw [if_neg (by omega), if_neg (by omega)]
      unfold cl
      rw [if_neg (by omega), if_neg hz, hs, hE]
      have hmay : mayBe M E 0 = true := by have := h.1; simp only [may] at this; rw [hS] at this; exact this
      simp only [hmay, if_true, hS]
  · have hk := may_kind h.1 hS
    simp only at hk
    obtain ⟨rfl, rfl, _, _⟩ := hk
    have em : mant ⟨0, 0, S⟩ e = -9223372036854775808 + S := by simp [mant, hS]
    rw [em]
    unfold unv
    rw [if_pos (by omega)]
    simp; omega
end Go.Proofs.YtpjimckbpabakaaDoor
