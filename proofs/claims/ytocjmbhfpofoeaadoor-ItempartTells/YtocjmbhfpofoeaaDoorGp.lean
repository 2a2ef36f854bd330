/- Plain: what is from an item on. No conditions but those of each theorem. -/
import Derived.Test.YtocjmbhfpofoeaaDoorGj
namespace Go.Proofs.YtocjmbhfpofoeaaDoor
open Go.RowKit

theorem good_rz {L : List (List Int)} (h : good [] L = true) : Rz L := fun i hi => by
  have := ((good_iff [] L).1 h (i + 1) hi).2
  simpa using this
theorem rz_mono {L : List (List Int)} (h : Rz L) : ∀ (d i : Nat), i + d + 1 < L.length → li (L.getD i []) (L.getD (i + d + 1) []) = true
  | 0, i, hi => h i hi
  | d + 1, i, hi => li_trans _ _ _ (rz_mono h d i (by omega)) (h (i + d + 1) (by omega))
theorem rz_lt {L : List (List Int)} (h : Rz L) {i j : Nat} (hij : i < j) (hj : j < L.length) : li (L.getD i []) (L.getD j []) = true := by
  have := rz_mono h (j - i - 1) i (by omega)
  rwa [show i + (j - i - 1) + 1 = j by omega] at this
/-- The first item of each block. -/
theorem first_at {L : List (List Int)} {i : Nat} (hi : i < (ch L).length) : ((hs 0 (ch L)).getD i (0, [])).2 = L.getD (8 * i) [] := by
  rw [hs_snd, ch_get hi]
  have hi' := hi
  rw [ch_len] at hi'
  rw [drop_consR L (8 * i) (by omega)]
  rfl
theorem plc_uniq {L : List (List Int)} (h : Rz L) {x : List Int} {r r' : Nat} (h1 : Plc (hs 0 (ch L)) x r) (h2 : Plc (hs 0 (ch L)) x r') : r = r' := by
  have key : ∀ {r r' : Nat}, Plc (hs 0 (ch L)) x r → Plc (hs 0 (ch L)) x r' → ¬ r < r' := by
    intro r r' h1 h2 hlt
    have l2 := h2.1
    rw [hs_len] at l2
    have hc := ch_len L
    rcases h1.2.2 with e | e
    · rw [hs_len] at e; omega
    · rcases h2.2.1 with e' | e'
      · omega
      · rw [first_at (by omega)] at e e'
        by_cases hr : r = r' - 1
        · rw [hr, e'] at e; cases e
        · have := rz_lt h (i := 8 * r) (j := 8 * (r' - 1)) (by omega) (by omega)
          rw [li_trans _ _ _ e this] at e'; cases e'
  have a := key h1 h2
  have b := key h2 h1
  omega
/-- Is an item not ahead of another one? -/
def nl (x : List Int) (y : List Int) : Bool := !(li y x)
theorem sk_filter : ∀ {B : List (List Int)} {x : List Int}, (∀ i j, i < j → j < B.length → li (B.getD i []) (B.getD j []) = true) → B.drop (sk B x) = B.filter (nl x)
  | [], x, _ => by simp [sk]
  | y :: B, x, h => by
    have ih := sk_filter (B := B) (x := x) (fun i j hij hj => by simpa using h (i + 1) (j + 1) (by omega) (by simpa using hj))
    cases hy : li y x with
    | true =>
      have e : sk (y :: B) x = sk B x + 1 := by simp [sk, hy]
      rw [e, List.drop_succ_cons, ih, List.filter_cons]
      simp [nl, hy]
    | false =>
      have e : sk (y :: B) x = 0 := by simp [sk, hy]
      rw [e, List.drop_zero, List.filter_cons]
      simp only [nl, hy, Bool.not_false, if_true]
      congr 1
      symm
      rw [List.filter_eq_self]
      intro z hz
      obtain ⟨i, hi, rfl⟩ := List.getElem_of_mem hz
      have h1 := h 0 (i + 1) (by omega) (by simpa using hi)
      simp [List.getD, hi] at h1
      simp only [nl, Bool.not_eq_true']
      cases h2 : li B[i] x with
      | false => rfl
      | true => rw [li_trans _ _ _ h1 h2] at hy; cases hy
theorem block_mono {L : List (List Int)} (h : Rz L) {k : Nat} (hk : k < (ch L).length) : ∀ i j, i < j → j < ((ch L).getD k []).length → li (((ch L).getD k []).getD i []) (((ch L).getD k []).getD j []) = true := by
  intro i j hij hj
  rw [ch_get hk] at hj ⊢
  simp only [List.length_take, List.length_drop] at hj
  have e : ∀ q, q < 8 → ((L.drop (8 * k)).take 8).getD q [] = L.getD (8 * k + q) [] := fun q hq => by simp [List.getD, hq]
  rw [e i (by omega), e j (by omega)]
  exact rz_lt h (by omega) (by omega)
/-- What is told of blocks from an item on. -/
def gl (x : List Int) (Bs : List (List (List Int))) : List (List Int) := (Bs.map fun B => B.drop (sk B x)).flatten
theorem gl_snoc (x : List Int) (Bs : List (List (List Int))) (B : List (List Int)) : gl x (Bs ++ [B]) = gl x Bs ++ B.drop (sk B x) := by simp [gl]
theorem gl_append (x : List Int) (Bs Cs : List (List (List Int))) : gl x (Bs ++ Cs) = gl x Bs ++ gl x Cs := by simp [gl]
theorem gl_all {L : List (List Int)} (h : Rz L) (x : List Int) : gl x (ch L) = L.filter (nl x) := by
  conv => rhs; rw [← ch_flat L, List.filter_flatten]
  unfold gl
  congr 1
  refine List.map_congr_left fun B hB => ?_
  obtain ⟨k, hk, rfl⟩ := List.getElem_of_mem hB
  have := block_mono h hk
  simp only [List.getD, List.getElem?_eq_getElem hk, Option.getD_some] at this
  exact sk_filter this
theorem gl_from {L : List (List Int)} (h : Rz L) {x : List Int} {r : Nat} (hr : Plc (hs 0 (ch L)) x r) : gl x ((ch L).drop (r - 1)) = L.filter (nl x) := by
  rw [← gl_all h x]
  conv => rhs; rw [← List.take_append_drop (r - 1) (ch L), gl_append]
  have : gl x ((ch L).take (r - 1)) = [] := by
    unfold gl
    rw [List.flatten_eq_nil_iff]
    intro l hl
    obtain ⟨B, hB, rfl⟩ := List.mem_map.1 hl
    obtain ⟨k, hk, e⟩ := List.getElem_of_mem hB
    simp only [List.length_take] at hk
    rw [List.getElem_take] at e
    have hk2 : k < (ch L).length := by omega
    have hrl := hr.1
    rw [hs_len] at hrl
    rcases hr.2.1 with e0 | e0
    · omega
    · rw [first_at (by omega)] at e0
      have hbm := block_mono h hk2
      have hB' : (ch L).getD k [] = B := by simp only [List.getD, List.getElem?_eq_getElem hk2, Option.getD_some, e]
      have hg := ch_get hk2
      rw [hB'] at hg hbm
      rw [sk_filter hbm, List.filter_eq_nil_iff]
      intro z hz
      obtain ⟨i, hi, rfl⟩ := List.getElem_of_mem hz
      have hcl := ch_len L
      have hzi : B[i] = L.getD (8 * k + i) [] := by
        have h8 : i < 8 := by have := hi; rw [hg] at this; simp at this; omega
        have : B.getD i [] = L.getD (8 * k + i) [] := by rw [hg]; simp [List.getD, h8]
        rw [← this]; simp [List.getD, hi]
      have h8 : i < 8 := by have := hi; rw [hg] at this; simp at this; omega
      have h1 := rz_lt h (i := 8 * k + i) (j := 8 * (r - 1)) (by omega) (by omega)
      rw [← hzi] at h1
      simp only [nl]
      cases h2 : li B[i] x with
      | true => simp
      | false =>
        exfalso
        -- first of block r - 1 isn't behind x: so what is ahead of it is ahead of x
        by_cases h3 : x = L.getD (8 * (r - 1)) []
        · rw [← h3, h2] at h1; cases h1
        · have h4 := li_total _ _ h3 e0
          rw [li_trans _ _ _ h1 h4] at h2; cases h2
  rw [this, List.nil_append]
/-- What is taken of items, one by one, as long as it is so. -/
def tw (dec : Nat → List Int → Bool) : Nat → List (List Int) → List (List Int)
  | _, [] => []
  | j, y :: ys => if dec j y = true then y :: tw dec (j + 1) ys else []
theorem tw_stop {dec : Nat → List Int → Bool} : ∀ {A : List (List Int)} {j : Nat} {y : List Int} (C : List (List Int)), tw dec j A = A → dec (j + A.length) y = false → tw dec j (A ++ y :: C) = A
  | [], j, y, C, _, h => by
    simp only [List.nil_append, tw]
    rw [if_neg (by rw [show j = j + ([] : List (List Int)).length from rfl, h]; decide)]
  | a :: A, j, y, C, hA, h => by
    simp only [tw] at hA
    by_cases hd : dec j a = true
    · rw [if_pos hd] at hA
      have := (List.cons.inj hA).2
      rw [List.cons_append, tw, if_pos hd, tw_stop C this (by rw [show j + 1 + A.length = j + (a :: A).length by simp; omega]; exact h)]
    · rw [if_neg hd] at hA; cases hA
theorem tw_snoc {dec : Nat → List Int → Bool} : ∀ {A : List (List Int)} {j : Nat} {y : List Int}, tw dec j A = A → dec (j + A.length) y = true → tw dec j (A ++ [y]) = A ++ [y]
  | [], j, y, _, h => by
    simp only [List.nil_append, tw]
    rw [if_pos (by rw [show j = j + ([] : List (List Int)).length from rfl]; exact h)]
  | a :: A, j, y, hA, h => by
    simp only [tw] at hA
    by_cases hd : dec j a = true
    · rw [if_pos hd] at hA
      have := (List.cons.inj hA).2
      rw [List.cons_append, tw, if_pos hd, tw_snoc this (by rw [show j + 1 + A.length = j + (a :: A).length by simp; omega]; exact h)]
    · rw [if_neg hd] at hA; cases hA
end Go.Proofs.YtocjmbhfpofoeaaDoor
