/- Plain: a file of rising items. No conditions but those of each theorem. -/
import Derived.Test.YtocjmbhfpofoeaaDoorMk
namespace Go.Proofs.YtocjmbhfpofoeaaDoor
open Go.RowKit

/-- The blocks of a row of items. -/
def ch (l : List (List Int)) : List (List (List Int)) := (List.range ((l.length + 7) / 8)).map fun i => (l.drop (8 * i)).take 8
theorem ch_len (l : List (List Int)) : (ch l).length = (l.length + 7) / 8 := by simp [ch]
theorem ch_get {l : List (List Int)} {i : Nat} (h : i < (ch l).length) : (ch l).getD i [] = (l.drop (8 * i)).take 8 := by
  rw [ch_len] at h
  simp [ch, List.getD, h]
theorem ch_flat_to (l : List (List Int)) : ∀ k : Nat, ((List.range k).map fun i => (l.drop (8 * i)).take 8).flatten = l.take (8 * k)
  | 0 => by simp
  | k + 1 => by
    rw [List.range_succ, List.map_append, List.flatten_append, ch_flat_to l k]
    simp only [List.map_cons, List.map_nil, List.flatten_cons, List.flatten_nil, List.append_nil]
    rw [show 8 * (k + 1) = 8 * k + 8 by omega, List.take_add]
theorem ch_flat (l : List (List Int)) : (ch l).flatten = l := by
  rw [ch, ch_flat_to, List.take_of_length_le (by omega)]

theorem li_ne_nil {ah x : List Int} (h : li ah x = true) : x ≠ [] := by
  intro e; subst e; cases ah <;> simp [li] at h
theorem li_nil {x : List Int} (h : x ≠ []) : li [] x = true := by
  cases x with
  | nil => exact absurd rfl h
  | cons a b => rfl
theorem good_nil {ah : List Int} {l : List (List Int)} (h : good ah l = true) : good [] l = true := by
  cases l with
  | nil => rfl
  | cons x r =>
    obtain ⟨h1, h2, h3⟩ := good_cons h
    simp only [good, Bool.and_eq_true, decide_eq_true_eq]
    exact ⟨h1, li_nil (li_ne_nil h2), h3⟩
theorem good_drop : ∀ (k : Nat) {l : List (List Int)}, good [] l = true → good [] (l.drop k) = true
  | 0, l, h => by simpa using h
  | k + 1, [], h => by simp [good]
  | k + 1, x :: r, h => by
    rw [List.drop_succ_cons]
    exact good_drop k (good_nil (good_cons h).2.2)
theorem good_take : ∀ (k : Nat) {ah : List Int} {l : List (List Int)}, good ah l = true → good ah (l.take k) = true
  | 0, _, _, _ => by simp [good]
  | k + 1, _, [], _ => by simp [good]
  | k + 1, ah, x :: r, h => by
    obtain ⟨h1, h2, h3⟩ := good_cons h
    rw [List.take_succ_cons]
    simp only [good, Bool.and_eq_true, decide_eq_true_eq]
    exact ⟨h1, h2, good_take k h3⟩
/-- May items be a file's? -/
def chkF (l : List (List Int)) : Int := if 2000 < l.length then 2 else if l = [] then 1 else if good [] l = true then 0 else 1
theorem chkF_zero {l : List (List Int)} (h : chkF l = 0) : l.length ≤ 2000 ∧ l ≠ [] ∧ good [] l = true := by
  unfold chkF at h
  by_cases h1 : 2000 < l.length
  · rw [if_pos h1] at h; omega
  · rw [if_neg h1] at h
    by_cases h2 : l = []
    · rw [if_pos h2] at h; omega
    · rw [if_neg h2] at h
      by_cases h3 : good [] l = true
      · exact ⟨by omega, h2, h3⟩
      · rw [if_neg h3] at h; omega
theorem chkF_cases (l : List (List Int)) : chkF l = 0 ∨ chkF l = 1 ∨ chkF l = 2 := by
  unfold chkF; split
  · omega
  · split
    · omega
    · split <;> omega
theorem chk_of_good {l : List (List Int)} (h8 : l.length ≤ 8) (hn : l ≠ []) (h : good [] l = true) : chk l = 0 := by
  unfold chk; rw [if_neg (by omega), if_neg hn, if_pos h]
theorem ch_chk {l : List (List Int)} (h : chkF l = 0) {i : Nat} (hi : i < (ch l).length) : chk ((ch l).getD i []) = 0 := by
  obtain ⟨h1, h2, h3⟩ := chkF_zero h
  rw [ch_get hi]
  rw [ch_len] at hi
  refine chk_of_good (by simp; omega) (fun e => ?_) (good_take 8 (good_drop _ h3))
  have := congrArg List.length e
  simp only [List.length_take, List.length_drop, List.length_nil] at this
  omega
theorem ch_chk_mem {l : List (List Int)} (h : chkF l = 0) : ∀ B ∈ ch l, chk B = 0 := by
  intro B hB
  obtain ⟨i, hi, rfl⟩ := List.getElem_of_mem hB
  have := ch_chk h hi
  simpa [List.getD, hi] using this
theorem ch_wf {l : List (List Int)} (h : WfR l) : ∀ B ∈ ch l, WfR B := by
  intro B hB x hx
  refine h x ?_
  rw [← ch_flat l]
  exact List.mem_flatten.2 ⟨B, hB, hx⟩

/-- The blocks' bytes. -/
def fb (Bs : List (List (List Int))) : List Int := (Bs.map fun B => frm 1 (pk B)).flatten
theorem fb_nil : fb [] = [] := rfl
theorem fb_cons (B : List (List Int)) (Bs : List (List (List Int))) : fb (B :: Bs) = frm 1 (pk B) ++ fb Bs := by simp [fb]
theorem fb_snoc (B : List (List Int)) (Bs : List (List (List Int))) : fb (Bs ++ [B]) = fb Bs ++ frm 1 (pk B) := by simp [fb]
/-- What the index says: where each block's frame begins, and its first item. -/
def hs : Nat → List (List (List Int)) → List (Nat × List Int)
  | _, [] => []
  | n, B :: Bs => (n, B.headD []) :: hs (n + (frm 1 (pk B)).length) Bs
theorem hs_len : ∀ (Bs : List (List (List Int))) (n : Nat), (hs n Bs).length = Bs.length
  | [], _ => rfl
  | B :: Bs, n => by simp [hs, hs_len Bs]
theorem hs_snoc : ∀ (Bs : List (List (List Int))) (n : Nat) (B : List (List Int)), hs n (Bs ++ [B]) = hs n Bs ++ [(n + (fb Bs).length, B.headD [])]
  | [], n, B => by simp [hs, fb]
  | C :: Bs, n, B => by
    simp only [List.cons_append, hs, hs_snoc Bs]
    rw [fb_cons, List.length_append, Nat.add_assoc]
theorem hs_snd : ∀ (Bs : List (List (List Int))) (n i : Nat), ((hs n Bs).getD i (0, [])).2 = (Bs.getD i []).headD []
  | [], _, i => by simp [hs]
  | B :: Bs, n, 0 => by simp [hs]
  | B :: Bs, n, i + 1 => by
    have := hs_snd Bs (n + (frm 1 (pk B)).length) i
    simpa [hs] using this
/-- One row of the index. -/
def ir (h : Nat × List Int) : List Int := bs h.1 ++ bs h.2.length ++ h.2
def ib (H : List (Nat × List Int)) : List Int := (H.map ir).flatten
theorem ib_snoc (H : List (Nat × List Int)) (h : Nat × List Int) : ib (H ++ [h]) = ib H ++ ir h := by simp [ib]
/-- The index's bytes. -/
def ix (H : List (Nat × List Int)) : List Int := bs H.length ++ ib H
/-- The file. -/
def fil (l : List (List Int)) : List Int := fb (ch l) ++ frm 2 (ix (hs 0 (ch l))) ++ tl (fb (ch l)).length
/-- What Build answers: an error, or the file. -/
def bt (l : List (List Int)) : Int × List Int := if chkF l ≠ 0 then (chkF l, []) else if 65535 < (ix (hs 0 (ch l))).length then (2, []) else (0, fil l)
theorem bt_zero {l : List (List Int)} (h : (bt l).1 = 0) : chkF l = 0 ∧ (ix (hs 0 (ch l))).length ≤ 65535 ∧ bt l = (0, fil l) := by
  unfold bt at h ⊢
  by_cases h1 : chkF l ≠ 0
  · rw [if_pos h1] at h; exact absurd h h1
  · rw [if_neg h1] at h ⊢
    by_cases h2 : 65535 < (ix (hs 0 (ch l))).length
    · rw [if_pos h2] at h; exact absurd h (by simp)
    · rw [if_neg h2]
      exact ⟨by simpa using h1, by omega, rfl⟩
theorem bt_err {l : List (List Int)} (h : (bt l).1 ≠ 0) : (bt l).2 = [] := by
  unfold bt at h ⊢
  by_cases h1 : chkF l ≠ 0
  · rw [if_pos h1]
  · rw [if_neg h1] at h ⊢
    by_cases h2 : 65535 < (ix (hs 0 (ch l))).length
    · rw [if_pos h2]
    · rw [if_neg h2] at h; exact absurd rfl h

/-! How long these are. -/
theorem bs_le2 {n : Nat} (h : n < 16384) : (bs n).length ≤ 2 := bs_le 1 n (Nat.lt_of_lt_of_le h (by decide))
theorem pkf_le' : ∀ (ls : List (List Int)) (ah : List Int), good ah ls = true → (pkf ah ls).length ≤ 404 * ls.length
  | [], _, _ => by simp [pkf]
  | x :: r, ah, h => by
    obtain ⟨h1, h2, h3⟩ := good_cons h
    have ih := pkf_le' r x h3
    have hc := cm_lt h2
    have l1 := bs_le2 (n := cm ah x) (by omega)
    have l2 := bs_le2 (n := x.length - cm ah x) (by omega)
    simp only [pkf, List.length_append, List.length_drop, List.length_cons]
    omega
theorem pk_le' {ls : List (List Int)} (h : chk ls = 0) : (pk ls).length ≤ 3233 := by
  obtain ⟨h1, _, h3⟩ := chk_zero h
  have := pkf_le' ls [] h3
  have := (bs_one ls.length).2 (by omega)
  rw [pk, List.length_append]; omega
theorem blk_le {B : List (List Int)} (h : chk B = 0) : (frm 1 (pk B)).length ≤ 3240 := by
  have h1 := pk_le' h
  have h2 := bs_le2 (n := (pk B).length) (by omega)
  rw [frm_length]; omega
theorem blk_pos (B : List (List Int)) : 6 ≤ (frm 1 (pk B)).length := by
  have h1 := pk_pos B
  have h2 := bs_pos (pk B).length
  rw [frm_length]; omega
theorem fb_le : ∀ {Bs : List (List (List Int))}, (∀ B ∈ Bs, chk B = 0) → (fb Bs).length ≤ 3240 * Bs.length
  | [], _ => by simp [fb]
  | B :: Bs, h => by
    have h1 := blk_le (h B (List.mem_cons_self ..))
    have h2 := fb_le (Bs := Bs) (fun C hC => h C (List.mem_cons_of_mem _ hC))
    rw [fb_cons, List.length_append, List.length_cons]
    omega
theorem fb_bytes : ∀ {Bs : List (List (List Int))}, (∀ B ∈ Bs, chk B = 0) → (∀ B ∈ Bs, WfR B) → Bytes (fb Bs)
  | [], _, _ => bytes_nil
  | B :: Bs, h, hw => by
    rw [fb_cons]
    have hc := h B (List.mem_cons_self ..)
    have := pk_le' hc
    exact bytes_append (frm_bytes (by decide) (by omega) (pk_bytes hc (hw B (List.mem_cons_self ..)))) (fb_bytes (fun C hC => h C (List.mem_cons_of_mem _ hC)) (fun C hC => hw C (List.mem_cons_of_mem _ hC)))
theorem ch_le {l : List (List Int)} (h : chkF l = 0) : (ch l).length ≤ 250 ∧ 1 ≤ (ch l).length := by
  obtain ⟨h1, h2, _⟩ := chkF_zero h
  have := List.length_pos_iff.2 h2
  rw [ch_len]; omega
theorem ch_pos {l : List (List Int)} {i : Nat} (hi : i < (ch l).length) : (ch l).getD i [] ≠ [] := by
  rw [ch_get hi]
  rw [ch_len] at hi
  intro e
  have := congrArg List.length e
  simp only [List.length_take, List.length_drop, List.length_nil] at this
  omega
theorem fbc_le {l : List (List Int)} (h : chkF l = 0) : (fb (ch l)).length ≤ 810000 := by
  have h1 := fb_le (ch_chk_mem h)
  have h2 := ch_le h
  omega
theorem headD_le {B : List (List Int)} (h : chk B = 0) : (B.headD []).length ≤ 400 := by
  obtain ⟨_, h2, h3⟩ := chk_zero h
  cases B with
  | nil => exact absurd rfl h2
  | cons x r => exact (good_cons h3).1
theorem headD_bytes {B : List (List Int)} (h : WfR B) : Bytes (B.headD []) := by
  cases B with
  | nil => exact bytes_nil
  | cons x r => exact h x (List.mem_cons_self ..)
end Go.Proofs.YtocjmbhfpofoeaaDoor
