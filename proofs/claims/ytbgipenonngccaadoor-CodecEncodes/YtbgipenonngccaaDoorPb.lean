/- Plain: the kind that is chosen is the first of those with the fewest bytes; alike numbers and even steps. Conditions: those of each theorem. -/
import Derived.Test.YtbgipenonngccaaDoorX
import Derived.Test.YtbgipenonngccaaDoorV
namespace Go.Proofs.YtbgipenonngccaaDoor
open Go.RowKit

theorem code_four {k : Nat} (h : 4 ≤ k) (l : List Int) : code k l = none := by
  obtain ⟨j, rfl⟩ : ∃ j, k = j + 4 := ⟨k - 4, by omega⟩
  exact code_nil rfl
theorem code_two {l : List Int} (h : l.length ≤ 4096) : code 2 l = some (2 :: (bs l.length ++ zbs (dfs 0 l))) := code_some h rfl
theorem code_long {k : Nat} {l : List Int} (h : ¬ l.length ≤ 4096) : code k l = none := if_neg h

theorem picks_spec (l : List Int) : ∀ k, (picks l k = (2, -1) ∧ ∀ j, j < k → code j l = none) ∨
    (∃ (b : Nat) (c : List Int), picks l k = ((b : Int), (c.length : Int)) ∧ b < k ∧ code b l = some c ∧ (∀ j c', j < k → code j l = some c' → c.length ≤ c'.length) ∧ ∀ j c', j < b → code j l = some c' → c.length < c'.length)
  | 0 => .inl ⟨rfl, fun j hj => by omega⟩
  | k + 1 => by
    have ih := picks_spec l k
    show (pick l k (picks l k) = _ ∧ _) ∨ _
    cases hk : code k l with
    | none =>
      rcases ih with ⟨h1, h2⟩ | ⟨b, c, h1, h2, h3, h4, h5⟩
      · left
        refine ⟨by rw [h1, pick_none hk], fun j hj => ?_⟩
        rcases Nat.lt_or_ge j k with h | h
        · exact h2 j h
        · rw [show j = k by omega]; exact hk
      · right
        refine ⟨b, c, by show pick l k (picks l k) = _; rw [h1, pick_none hk], by omega, h3, fun j c' hj hc' => ?_, h5⟩
        rcases Nat.lt_or_ge j k with h | h
        · exact h4 j c' h hc'
        · rw [show j = k by omega, hk] at hc'; cases hc'
    | some ck =>
      rcases ih with ⟨h1, h2⟩ | ⟨b, c, h1, h2, h3, h4, h5⟩
      · right
        refine ⟨k, ck, by show pick l k (picks l k) = _; rw [h1, pick_some hk (.inl (by decide))], by omega, hk, fun j c' hj hc' => ?_, fun j c' hj hc' => ?_⟩
        · rcases Nat.lt_or_ge j k with h | h
          · rw [h2 j h] at hc'; cases hc'
          · rw [show j = k by omega, hk] at hc'; cases hc'; exact Nat.le_refl _
        · rw [h2 j hj] at hc'; cases hc'
      · right
        by_cases hl : ck.length < c.length
        · refine ⟨k, ck, by show pick l k (picks l k) = _; rw [h1, pick_some hk (.inr (by omega))], by omega, hk, fun j c' hj hc' => ?_, fun j c' hj hc' => ?_⟩
          · rcases Nat.lt_or_ge j k with h | h
            · have := h4 j c' h hc'; omega
            · rw [show j = k by omega, hk] at hc'; cases hc'; exact Nat.le_refl _
          · have := h4 j c' hj hc'; omega
        · refine ⟨b, c, by show pick l k (picks l k) = _; rw [h1, pick_keep hk (by omega)], by omega, h3, fun j c' hj hc' => ?_, h5⟩
          rcases Nat.lt_or_ge j k with h | h
          · exact h4 j c' h hc'
          · rw [show j = k by omega, hk] at hc'; cases hc'; omega

theorem best_spec {l : List Int} (h : l.length ≤ 4096) : ∃ (b : Nat) (c : List Int), b < 4 ∧ best l = (b : Int) ∧ code b l = some c ∧ (∀ j c', code j l = some c' → c.length ≤ c'.length) ∧ ∀ j c', j < b → code j l = some c' → c.length < c'.length := by
  rcases picks_spec l 4 with ⟨_, h2⟩ | ⟨b, c, h1, h2, h3, h4, h5⟩
  · have := h2 2 (by decide)
    rw [code_two h] at this; cases this
  · refine ⟨b, c, h2, by unfold best; rw [h1], h3, fun j c' hc' => ?_, h5⟩
    rcases Nat.lt_or_ge j 4 with h | h
    · exact h4 j c' h hc'
    · rw [code_four h] at hc'; cases hc'
theorem best_is {l : List Int} (h : l.length ≤ 4096) {b : Nat} {c : List Int} (hc : code b l = some c) (hmin : ∀ j c', code j l = some c' → c.length ≤ c'.length) (hfst : ∀ j c', j < b → code j l = some c' → c.length < c'.length) : best l = (b : Int) := by
  obtain ⟨b', c', h1, h2, h3, h4, h5⟩ := best_spec h
  rw [h2]
  rcases Nat.lt_trichotomy b b' with hh | hh | hh
  · have := h5 b c hh hc
    have := hmin b' c' h3
    omega
  · rw [hh]
  · have := hfst b' c' hh h3
    have := h4 b c hc
    omega
theorem best_long {l : List Int} (h : ¬ l.length ≤ 4096) : best l = 2 ∧ codeI (best l) l = none := by
  have e : best l = 2 := by
    unfold best
    rcases picks_spec l 4 with ⟨h1, _⟩ | ⟨b, c, _, _, h3, _⟩
    · rw [h1]
    · rw [code_long h] at h3; cases h3
  refine ⟨e, ?_⟩
  rw [e]; exact code_long h

theorem zb_pos {n : Int} (h : I64 n) : 1 ≤ (zb n).length := (zb_len h.1 h.2).1
theorem zbs_ge : ∀ {l : List Int}, All64 l → l.length ≤ (zbs l).length
  | [], _ => Nat.zero_le _
  | x :: l, h => by
    obtain ⟨h1, h2⟩ := all64_cons.1 h
    have := zbs_ge h2
    have := zb_pos h1
    show (l.length + 1) ≤ (zb x ++ zbs l).length
    rw [List.length_append]; omega
theorem zbs_cons (x : Int) (l : List Int) : zbs (x :: l) = zb x ++ zbs l := rfl

/-- Even steps. -/
def ev (a d : Int) : Nat → List Int
  | 0 => []
  | n + 1 => a :: ev (wrap64 (a + d)) d n
theorem ev_length (d : Int) : ∀ (n : Nat) (a : Int), (ev a d n).length = n
  | 0, _ => rfl
  | n + 1, a => by simp [ev, ev_length d n]
theorem ev_all {d : Int} : ∀ (n : Nat) {a : Int}, I64 a → All64 (ev a d n)
  | 0, _, _ => all64_nil
  | n + 1, _, h => all64_cons.2 ⟨h, ev_all n (wrap_bd _)⟩
theorem ev_dfs {d : Int} (hd : I64 d) : ∀ (n : Nat) (a p : Int), dfs p (ev a d n) = if n = 0 then [] else dif p a :: List.replicate (n - 1) d
  | 0, _, _ => rfl
  | 1, a, p => rfl
  | n + 2, a, p => by
    have ih := ev_dfs hd (n + 1) (wrap64 (a + d)) a
    show dif p a :: dfs a (ev (wrap64 (a + d)) d (n + 1)) = _
    rw [ih, if_neg (by omega), if_neg (by omega)]
    have : dif a (wrap64 (a + d)) = d := by unfold I64 at hd; unfold dif wrap64; omega
    rw [this]; rfl
theorem alk_replicate (d : Int) (n : Nat) : alk (List.replicate n d) = true := by
  rw [alk_iff]
  intro j hj
  rw [List.length_replicate] at hj
  simp [List.getD, hj, show 0 < n by omega]
theorem zbs_replicate (d : Int) : ∀ n, (zbs (List.replicate n d)).length = n * (zb d).length
  | 0 => by simp [zbs]
  | n + 1 => by rw [List.replicate_succ, zbs_cons, List.length_append, zbs_replicate d n, Nat.succ_mul]; omega
theorem bs_len1 {n : Nat} (h : n ≤ 127) : (bs n).length = 1 := (bs_one n).2 h

theorem ev_zero : ∀ (n : Nat) {a : Int}, I64 a → ev a 0 n = List.replicate n a
  | 0, _, _ => rfl
  | n + 1, a, h => by
    show a :: ev (wrap64 (a + 0)) 0 n = _
    rw [Int.add_zero, wrap_id h, ev_zero n h]; rfl

/-- Alike numbers are Const. -/
theorem flat_alike {a : Int} (ha : I64 a) {n : Nat} (h3 : 3 ≤ n) (hn : n ≤ 100) : best (List.replicate n a) = 0 ∧ code 0 (List.replicate n a) = some (0 :: (bs n ++ zb a)) := by
  have hl : (List.replicate n a).length = n := List.length_replicate
  have hc : code 0 (List.replicate n a) = some (0 :: (bs n ++ zb a)) := by
    have h0 : nms 0 (List.replicate n a) = some [a] := by
      rw [nms_0, if_pos ⟨by rw [hl]; omega, alk_replicate a n⟩]
      obtain ⟨m, rfl⟩ : ∃ m, n = m + 1 := ⟨n - 1, by omega⟩
      simp [List.replicate_succ]
    have := code_some (by rw [hl]; omega) h0
    rw [hl] at this
    rw [this]
    show _ = some (0 :: (bs n ++ zb a))
    rw [zbs_cons]; simp [zbs]
  refine ⟨?_, hc⟩
  have hd : dfs 0 (List.replicate n a) = a :: List.replicate (n - 1) 0 := by
    obtain ⟨m, rfl⟩ : ∃ m, n = m + 1 := ⟨n - 1, by omega⟩
    rw [List.replicate_succ, dfs_cons, dfs_rep, dif_zero ha]; rfl
  refine best_is (b := 0) (by rw [hl]; omega) hc (fun j c' hc' => ?_) (fun j _ hj => by omega)
  have hz : (zb 0).length = 1 := by unfold zb; rw [show (zz 0).toNat = 0 from rfl, bs_small (by decide)]; rfl
  rcases Nat.lt_or_ge j 4 with hj | hj
  · cases hx : nms j (List.replicate n a) with
    | none => rw [code_nil hx] at hc'; cases hc'
    | some x =>
      have e := code_some (by rw [hl]; omega) hx
      rw [hc', hl] at e
      cases e
      have hzx : (zb a).length ≤ (zbs x).length := by
        rcases four hj with rfl | rfl | rfl | rfl
        · rw [nms_0] at hx
          split at hx <;> cases hx
          obtain ⟨m, rfl⟩ : ∃ m, n = m + 1 := ⟨n - 1, by omega⟩
          simp [List.replicate_succ, zbs_cons, zbs]
        · rw [nms_1, hd] at hx
          split at hx <;> cases hx
          rw [List.take_succ_cons, zbs_cons, List.length_append]; omega
        · cases hx
          rw [hd, zbs_cons, List.length_append]; omega
        · rw [nms_3, hd] at hx
          split at hx <;> cases hx
          rw [zbs_append, List.take_succ_cons, zbs_cons, List.length_append, List.length_append]; omega
      simp only [List.length_cons, List.length_append]; omega
  · rw [code_four hj] at hc'; cases hc'

/-- Even steps, other than 0, are Step. -/
theorem flat_even {a d : Int} (ha : I64 a) (hd : I64 d) (h0 : d ≠ 0) {n : Nat} (h3 : 3 ≤ n) (hn : n ≤ 100) : best (ev a d n) = 1 ∧ code 1 (ev a d n) = some (1 :: (bs n ++ (zb a ++ zb d))) := by
  have hl : (ev a d n).length = n := ev_length d n a
  have hdf : dfs 0 (ev a d n) = a :: List.replicate (n - 1) d := by rw [ev_dfs hd, if_neg (by omega), dif_zero ha]
  obtain ⟨m, rfl⟩ : ∃ m, n = m + 3 := ⟨n - 3, by omega⟩
  have hc : code 1 (ev a d (m + 3)) = some (1 :: (bs (m + 3) ++ (zb a ++ zb d))) := by
    have h1 : nms 1 (ev a d (m + 3)) = some [a, d] := by
      rw [nms_1, hdf, if_pos ⟨by rw [hl]; omega, alk_replicate d _⟩]; rfl
    have := code_some (by rw [hl]; omega) h1
    rw [hl] at this
    rw [this]
    show _ = some (1 :: (bs (m + 3) ++ (zb a ++ zb d)))
    rw [zbs_cons, zbs_cons]; simp [zbs]
  refine ⟨?_, hc⟩
  have hna : nms 0 (ev a d (m + 3)) = none := by
    rw [nms_0]
    refine if_neg fun h => ?_
    have := (alk_iff _).1 h.2 1 (by rw [hl]; omega)
    have e : wrap64 (a + d) = a := this
    unfold I64 at ha hd; unfold wrap64 at e; omega
  refine best_is (b := 1) (by rw [hl]; omega) hc (fun j c' hc' => ?_) (fun j c' hj hc' => ?_)
  · rcases Nat.lt_or_ge j 4 with hj | hj
    · cases hx : nms j (ev a d (m + 3)) with
      | none => rw [code_nil hx] at hc'; cases hc'
      | some x =>
        have e := code_some (by rw [hl]; omega) hx
        rw [hc', hl] at e
        cases e
        have hzx : (zb a).length + (zb d).length ≤ (zbs x).length := by
          rcases four hj with rfl | rfl | rfl | rfl
          · rw [hna] at hx; cases hx
          · rw [nms_1, hdf] at hx
            split at hx <;> cases hx
            rw [show List.take 2 (a :: List.replicate (m + 3 - 1) d) = [a, d] from rfl, zbs_cons, zbs_cons, List.length_append, List.length_append]; omega
          · cases hx
            rw [hdf, zbs_cons, List.length_append, show List.replicate (m + 3 - 1) d = d :: List.replicate (m + 1) d from rfl, zbs_cons, List.length_append]; omega
          · rw [nms_3, hdf] at hx
            split at hx <;> cases hx
            rw [show dfs 0 (a :: List.replicate (m + 3 - 1) d).tail = d :: dfs d (List.replicate (m + 1) d) by rw [show (a :: List.replicate (m + 3 - 1) d).tail = d :: List.replicate (m + 1) d from rfl, dfs_cons, dif_zero hd]]
            rw [show List.take 1 (a :: List.replicate (m + 3 - 1) d) = [a] from rfl, List.singleton_append, zbs_cons, zbs_cons, List.length_append, List.length_append]; omega
        simp only [List.length_cons, List.length_append]; omega
    · rw [code_four hj] at hc'; cases hc'
  · rw [show j = 0 by omega, code_nil hna] at hc'; cases hc'
end Go.Proofs.YtbgipenonngccaaDoor
