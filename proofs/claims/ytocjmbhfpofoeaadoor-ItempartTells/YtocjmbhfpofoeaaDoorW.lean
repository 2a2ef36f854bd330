/- Plain: blocks packed and unpacked. No conditions but those of each theorem. -/
import Derived.Test.YtocjmbhfpofoeaaDoorU
import Derived.Test.YtocjmbhfpofoeaaDoorQ
namespace Go.Proofs.YtocjmbhfpofoeaaDoor
open Go.RowKit

/-- The bytes of items, behind one that is ahead. -/
def pkf : List Int → List (List Int) → List Int
  | _, [] => []
  | ah, x :: r => bs (cm ah x) ++ (bs (x.length - cm ah x) ++ (x.drop (cm ah x) ++ pkf x r))
/-- A block's bytes. -/
def pk (ls : List (List Int)) : List Int := bs ls.length ++ pkf [] ls
theorem cm_lt {a x : List Int} (h : li a x = true) : cm a x < x.length := by
  have h1 := cm_le a x
  rcases Nat.lt_or_ge (cm a x) x.length with h2 | h2
  · exact h2
  · exfalso
    have h3 : cm a x = x.length := by omega
    have h4 := cm_take a x
    rw [h3, List.take_length] at h4
    have h5 : a = x ++ a.drop x.length := by conv => lhs; rw [← List.take_append_drop x.length a, h4]
    have h6 : li a x = false := by
      rw [h5]
      have : li (x ++ a.drop x.length) (x ++ []) = li (a.drop x.length) [] := li_pre x _ _
      rw [List.append_nil] at this
      rw [this]
      cases a.drop x.length <;> rfl
    rw [h6] at h; cases h
theorem good_cons {ah x : List Int} {r : List (List Int)} (h : good ah (x :: r) = true) : x.length ≤ 400 ∧ li ah x = true ∧ good x r = true := by
  simp only [good, Bool.and_eq_true, decide_eq_true_eq] at h
  exact h
theorem pkf_le : ∀ (ls : List (List Int)) (ah : List Int), good ah ls = true → (pkf ah ls).length ≤ 420 * ls.length
  | [], _, _ => by simp [pkf]
  | x :: r, ah, h => by
    obtain ⟨h1, h2, h3⟩ := good_cons h
    have ih := pkf_le r x h3
    have hc := cm_lt h2
    have l1 := bs_le10 (u := cm ah x) (by omega)
    have l2 := bs_le10 (u := x.length - cm ah x) (by omega)
    simp only [pkf, List.length_append, List.length_drop, List.length_cons]
    omega
theorem bs_bytes {u : Nat} (h : u < 18446744073709551616) : Bytes (bs u) := fun x hx => bs_mem64 h x hx
theorem pkf_bytes : ∀ (ls : List (List Int)) (ah : List Int), good ah ls = true → WfR ls → Bytes (pkf ah ls)
  | [], _, _, _ => bytes_nil
  | x :: r, ah, h, hw => by
    obtain ⟨h1, h2, h3⟩ := good_cons h
    have hc := cm_lt h2
    have ih := pkf_bytes r x h3 (fun l hl => hw l (List.mem_cons_of_mem _ hl))
    exact bytes_append (bs_bytes (by omega)) (bytes_append (bs_bytes (by omega)) (bytes_append (bytes_drop (hw x (List.mem_cons_self ..)) _) ih))
theorem chk_zero {ls : List (List Int)} (h : chk ls = 0) : ls.length ≤ 8 ∧ ls ≠ [] ∧ good [] ls = true := by
  unfold chk at h
  by_cases h1 : 8 < ls.length
  · rw [if_pos h1] at h; omega
  · rw [if_neg h1] at h
    by_cases h2 : ls = []
    · rw [if_pos h2] at h; omega
    · rw [if_neg h2] at h
      by_cases h3 : good [] ls = true
      · exact ⟨by omega, h2, h3⟩
      · rw [if_neg h3] at h; omega
theorem chk_cases (ls : List (List Int)) : chk ls = 0 ∨ chk ls = 1 ∨ chk ls = 2 := by
  unfold chk; split
  · omega
  · split
    · omega
    · split <;> omega
theorem pk_le {ls : List (List Int)} (h : chk ls = 0) : (pk ls).length ≤ 3370 := by
  obtain ⟨h1, _, h3⟩ := chk_zero h
  have := pkf_le ls [] h3
  have := bs_le10 (u := ls.length) (by omega)
  rw [pk, List.length_append]; omega
theorem pk_bytes {ls : List (List Int)} (h : chk ls = 0) (hw : WfR ls) : Bytes (pk ls) := by
  obtain ⟨h1, _, h3⟩ := chk_zero h
  exact bytes_append (bs_bytes (by omega)) (pkf_bytes ls [] h3 hw)
theorem pk_pos (ls : List (List Int)) : 1 ≤ (pk ls).length := by
  have := bs_pos ls.length
  rw [pk, List.length_append]; omega

/-- Items off bytes, behind one that is ahead. -/
def tld : Nat → List Int → List Int → List (List Int) × Int
  | 0, _, _ => ([], 0)
  | n + 1, b, ah =>
    if (tkn b (min ah.length 400)).2.2 ≠ 0 then ([], (tkn b (min ah.length 400)).2.2) else
    if (tkn (tkn b (min ah.length 400)).2.1 400).2.2 ≠ 0 then ([], (tkn (tkn b (min ah.length 400)).2.1 400).2.2) else
    if (tkn (tkn b (min ah.length 400)).2.1 400).2.1.length < (tkn (tkn b (min ah.length 400)).2.1 400).1 then ([], 10) else
    ((ah.take (tkn b (min ah.length 400)).1 ++ (tkn (tkn b (min ah.length 400)).2.1 400).2.1.take (tkn (tkn b (min ah.length 400)).2.1 400).1) ::
      (tld n ((tkn (tkn b (min ah.length 400)).2.1 400).2.1.drop (tkn (tkn b (min ah.length 400)).2.1 400).1) (ah.take (tkn b (min ah.length 400)).1 ++ (tkn (tkn b (min ah.length 400)).2.1 400).2.1.take (tkn (tkn b (min ah.length 400)).2.1 400).1)).1,
      (tld n ((tkn (tkn b (min ah.length 400)).2.1 400).2.1.drop (tkn (tkn b (min ah.length 400)).2.1 400).1) (ah.take (tkn b (min ah.length 400)).1 ++ (tkn (tkn b (min ah.length 400)).2.1 400).2.1.take (tkn (tkn b (min ah.length 400)).2.1 400).1)).2)
def tla (b : List Int) : List (List Int) × Int := if (tkn b 400).2.2 ≠ 0 then ([], (tkn b 400).2.2) else tld (tkn b 400).1 (tkn b 400).2.1 []
def upk (b : List Int) : List (List Int) × Int := if (tla b).2 ≠ 0 then ([], (tla b).2) else if chk (tla b).1 = 0 ∧ pk (tla b).1 = b then ((tla b).1, 0) else ([], 11)
/-- One round, in other words. -/
theorem tld_step {n k m : Nat} {b b1 b2 ah : List Int} (h1 : tkn b (min ah.length 400) = (k, b1, 0)) (h2 : tkn b1 400 = (m, b2, 0)) :
    tld (n + 1) b ah = if b2.length < m then ([], 10) else ((ah.take k ++ b2.take m) :: (tld n (b2.drop m) (ah.take k ++ b2.take m)).1, (tld n (b2.drop m) (ah.take k ++ b2.take m)).2) := by
  simp only [tld, h1, h2]
  rfl
theorem tld_pkf : ∀ (ls : List (List Int)) (ah rest : List Int), good ah ls = true → tld ls.length (pkf ah ls ++ rest) ah = (ls, 0)
  | [], ah, rest, _ => rfl
  | x :: r, ah, rest, h => by
    obtain ⟨h1, h2, h3⟩ := good_cons h
    have hc := cm_lt h2
    have hc2 := cm_le ah x
    have ih := tld_pkf r x rest h3
    have e1 : tkn (pkf ah (x :: r) ++ rest) (min ah.length 400) = (cm ah x, bs (x.length - cm ah x) ++ (x.drop (cm ah x) ++ (pkf x r ++ rest)), 0) := by
      have := tkn_bs (u := cm ah x) (m := min ah.length 400) (by omega) (by omega) (bs (x.length - cm ah x) ++ (x.drop (cm ah x) ++ (pkf x r ++ rest)))
      simpa [pkf, List.append_assoc] using this
    have e2 := tkn_bs (u := x.length - cm ah x) (m := 400) (by omega) (by omega) (x.drop (cm ah x) ++ (pkf x r ++ rest))
    rw [List.length_cons, tld_step e1 e2, if_neg (by simp only [List.length_append, List.length_drop]; omega)]
    have hl : (x.drop (cm ah x)).length = x.length - cm ah x := by simp
    have e3 : (x.drop (cm ah x) ++ (pkf x r ++ rest)).take (x.length - cm ah x) = x.drop (cm ah x) := by rw [← hl, List.take_left]
    have e4 : (x.drop (cm ah x) ++ (pkf x r ++ rest)).drop (x.length - cm ah x) = pkf x r ++ rest := by rw [← hl, List.drop_left]
    rw [e3, e4, cm_take, List.take_append_drop, ih]
theorem pkf_ne {ah x : List Int} {r : List (List Int)} : pkf ah (x :: r) ≠ [] := by
  intro h
  have := bs_pos (cm ah x)
  have h2 := congrArg List.length h
  simp only [pkf, List.length_append, List.length_nil] at h2
  omega
theorem dropLast_app {a b : List Int} (h : b ≠ []) : (a ++ b).dropLast = a ++ b.dropLast := List.dropLast_append_of_ne_nil h
theorem tld_cut : ∀ (ls : List (List Int)) (ah : List Int), ls ≠ [] → good ah ls = true → (tld ls.length (pkf ah ls).dropLast ah).2 = 10
  | [], _, h, _ => absurd rfl h
  | x :: r, ah, _, h => by
    obtain ⟨h1, h2, h3⟩ := good_cons h
    have hc := cm_lt h2
    have hc2 := cm_le ah x
    have hx : x.drop (cm ah x) ≠ [] := fun h0 => by have := congrArg List.length h0; simp at this; omega
    have hxr : x.drop (cm ah x) ++ pkf x r ≠ [] := by simp [hx]
    have e0 : (pkf ah (x :: r)).dropLast = bs (cm ah x) ++ (bs (x.length - cm ah x) ++ (x.drop (cm ah x) ++ pkf x r).dropLast) := by
      rw [pkf, dropLast_app, dropLast_app hxr]
      intro h0
      have := bs_pos (x.length - cm ah x)
      have h2 := congrArg List.length h0
      simp only [List.length_append, List.length_nil] at h2
      omega
    have e1 := tkn_bs (u := cm ah x) (m := min ah.length 400) (by omega) (by omega) (bs (x.length - cm ah x) ++ (x.drop (cm ah x) ++ pkf x r).dropLast)
    have e2 := tkn_bs (u := x.length - cm ah x) (m := 400) (by omega) (by omega) (x.drop (cm ah x) ++ pkf x r).dropLast
    rw [e0, List.length_cons, tld_step e1 e2]
    have hl : (x.drop (cm ah x)).length = x.length - cm ah x := by simp
    cases r with
    | nil =>
      rw [if_pos]
      simp only [pkf, List.append_nil, List.length_dropLast, List.length_drop]
      omega
    | cons y s =>
      have e3 : (x.drop (cm ah x) ++ pkf x (y :: s)).dropLast = x.drop (cm ah x) ++ (pkf x (y :: s)).dropLast := dropLast_app pkf_ne
      have ih := tld_cut (y :: s) x (by simp) h3
      rw [e3, if_neg (by simp only [List.length_append, List.length_drop]; omega)]
      have e4 : (x.drop (cm ah x) ++ (pkf x (y :: s)).dropLast).take (x.length - cm ah x) = x.drop (cm ah x) := by rw [← hl, List.take_left]
      have e5 : (x.drop (cm ah x) ++ (pkf x (y :: s)).dropLast).drop (x.length - cm ah x) = (pkf x (y :: s)).dropLast := by rw [← hl, List.drop_left]
      rw [e4, e5, cm_take, List.take_append_drop]
      exact ih
theorem tla_pk {ls : List (List Int)} (h : chk ls = 0) (rest : List Int) : tla (pk ls ++ rest) = (ls, 0) := by
  obtain ⟨h1, _, h3⟩ := chk_zero h
  have e := tkn_bs (u := ls.length) (m := 400) (by omega) (by omega) (pkf [] ls ++ rest)
  rw [← List.append_assoc] at e
  unfold tla
  rw [pk, e]
  simp only [ne_eq, not_true_eq_false, if_false]
  exact tld_pkf ls [] rest h3
theorem upk_pk {ls : List (List Int)} (h : chk ls = 0) : upk (pk ls) = (ls, 0) := by
  have e := tla_pk h []
  rw [List.append_nil] at e
  unfold upk
  rw [e]
  simp [h]
theorem upk_cut {ls : List (List Int)} (h : chk ls = 0) : (upk (pk ls).dropLast).2 = 10 := by
  obtain ⟨h1, h2, h3⟩ := chk_zero h
  obtain ⟨x, r, rfl⟩ : ∃ x r, ls = x :: r := by cases ls with
    | nil => exact absurd rfl h2
    | cons x r => exact ⟨x, r, rfl⟩
  have e := tkn_bs (u := (x :: r).length) (m := 400) (by omega) (by omega) (pkf [] (x :: r)).dropLast
  rw [← dropLast_app pkf_ne] at e
  have e2 : (tla (pk (x :: r)).dropLast).2 = 10 := by
    unfold tla
    rw [pk, e]
    simp only [ne_eq, not_true_eq_false, if_false]
    exact tld_cut (x :: r) [] h2 h3
  unfold upk
  rw [if_pos (by rw [e2]; decide)]
  exact e2
theorem upk_long {ls : List (List Int)} (h : chk ls = 0) (z : Int) : (upk (pk ls ++ [z])).2 = 11 := by
  have e := tla_pk h [z]
  unfold upk
  rw [e]
  simp
theorem upk_ok {b : List Int} (h : (upk b).2 = 0) : chk (upk b).1 = 0 ∧ pk (upk b).1 = b := by
  unfold upk at *
  split at h
  · rename_i h1; exact absurd h h1
  · rename_i h1
    rw [if_neg h1]
    split at h
    · rename_i h2
      rw [if_pos h2]; exact h2
    · simp at h
end Go.Proofs.YtocjmbhfpofoeaaDoor
