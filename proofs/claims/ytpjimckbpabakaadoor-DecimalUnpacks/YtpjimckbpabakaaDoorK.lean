/- Rows of values and of numbers that are appended to: what they read as. -/
import Derived.Test.YtpjimckbpabakaaDoorJ
import Derived.Laws.AppendOwn
namespace Go.Proofs.YtpjimckbpabakaaDoor
open Go.RowKit

/-- The cells of values, one behind the other. -/
def cls : List Vl → List Value
  | [] => []
  | v :: r => .int .i64 v.M :: .int .i64 v.E :: .int .i64 v.S :: cls r
theorem cls_len : ∀ vs : List Vl, (cls vs).length = vs.length * 3
  | [] => rfl
  | v :: r => by simp [cls, cls_len r]; omega
theorem cls_append : ∀ (a b : List Vl), cls (a ++ b) = cls a ++ cls b
  | [], b => rfl
  | v :: r, b => by simp [cls, cls_append r b]
theorem cls_get : ∀ (vs : List Vl) (i : Nat), i < vs.length → (cls vs)[i * 3]? = some (.int .i64 (vs.getD i v0).M) ∧ (cls vs)[i * 3 + 1]? = some (.int .i64 (vs.getD i v0).E) ∧ (cls vs)[i * 3 + 2]? = some (.int .i64 (vs.getD i v0).S)
  | [], i, h => by simp at h
  | v :: r, 0, _ => by simp [cls]
  | v :: r, i + 1, h => by
    have := cls_get r i (by simpa using h)
    rw [show (i + 1) * 3 = i * 3 + 3 by omega]
    simpa [cls] using this
theorem cls_one (vs : List Vl) : ∀ u ∈ cls vs, u.oneCell' = true := by
  induction vs with
  | nil => intro u hu; simp [cls] at hu
  | cons v r ih =>
    intro u hu
    simp only [cls, List.mem_cons] at hu
    rcases hu with rfl | rfl | rfl | hu
    · rfl
    · rfl
    · rfl
    · exact ih u hu

theorem own_cell {w : World} {base n size : Nat} {v : Value} {e : TypeId} {xs : List Value} (h : w.ownsRow base e size v n xs) (hn : 0 < n) : ∃ g cap, v = .slice (some ⟨g, 0, none⟩) n cap ∧ base ≤ g ∧ g < w.heap.size ∧ n ≤ cap ∧ cap ≤ maxLen ∧ ∀ j x, xs[j]? = some x → w.cell? ⟨g, j, none⟩ = some x := by
  rcases h.2 with ⟨_, h2⟩ | ⟨g, cap, cur, h1, h2, h3, h4, h5, h6, h7⟩
  · omega
  · refine ⟨g, cap, h1, h2, (Array.getElem?_eq_some_iff.1 h3).1, h4, h5, fun j x hx => ?_⟩
    rw [← h7] at hx
    have hj : j < n * size := by
      rcases Nat.lt_or_ge j (n * size) with h | h
      · exact h
      · rw [List.getElem?_take, if_neg (by omega)] at hx; cases hx
    rw [List.getElem?_take, if_pos hj] at hx
    simp [World.cell?, h3]
    simpa using hx
/-- A row of values of the call's own reads so. -/
theorem own_rdV {w : World} {base n : Nat} {v : Value} {vs : List Vl} (h : w.ownsRow base 36 3 v n (cls vs)) : ∃ a c, v = .slice a n c ∧ IsV w a n c vs := by
  have hl := h.1
  rw [cls_len] at hl
  by_cases hn : 0 < n
  · obtain ⟨g, cap, h1, h2, h3, h4, h5, h6⟩ := own_cell h hn
    refine ⟨_, cap, h1, ⟨by omega, h4, h5, .inr ⟨g, 0, rfl, h3, fun i hi => ?_⟩, fun h => by cases h⟩⟩
    obtain ⟨c0, c1, c2⟩ := cls_get vs i hi
    rw [Nat.zero_add]
    exact ⟨h6 _ _ c0, h6 _ _ c1, h6 _ _ c2⟩
  · obtain rfl : n = 0 := by omega
    have hv : vs = [] := List.eq_nil_of_length_eq_zero (by omega)
    rcases h.2 with ⟨h1, _⟩ | ⟨g, cap, cur, h1, _, _, h4, h5, _⟩
    · exact ⟨none, 0, h1, ⟨by omega, Nat.le_refl _, Nat.zero_le _, .inl hv, fun _ => rfl⟩⟩
    · exact ⟨_, cap, h1, ⟨by omega, h4, h5, .inl hv, fun h => by cases h⟩⟩
/-- A row of numbers of the call's own reads so. -/
theorem own_rdI {w : World} {base n : Nat} {v : Value} {zs : List Int} (h : w.ownsRow base 2 1 v n (zs.map (Value.int .i64))) : ∃ a c, v = .slice a n c ∧ RdI w a zs := by
  have hl := h.1
  simp only [List.length_map, Nat.mul_one] at hl
  by_cases hn : 0 < n
  · obtain ⟨g, cap, h1, h2, h3, h4, h5, h6⟩ := own_cell h hn
    refine ⟨_, cap, h1, .inr ⟨g, 0, rfl, h3, fun i hi => ?_⟩⟩
    rw [Nat.zero_add]
    exact h6 _ _ (by simp [List.getD, hi])
  · obtain rfl : n = 0 := by omega
    have hv : zs = [] := List.eq_nil_of_length_eq_zero (by omega)
    rcases h.2 with ⟨h1, _⟩ | ⟨g, cap, cur, h1, _⟩
    · exact ⟨none, 0, h1, .inl hv⟩
    · exact ⟨_, cap, h1, .inl hv⟩
theorem rdV_news {w : World} {ad : Addr} {vs : List Vl} (h : RdV w (some ad) vs) : ∀ j u, (cls vs)[j]? = some u → w.cell? (ad.add j) = some u := by
  intro j u hu
  have hj : j < vs.length * 3 := by have := (List.getElem?_eq_some_iff.1 hu).1; rw [cls_len] at this; exact this
  obtain ⟨b, off, e, _, c0, c1, c2⟩ := h.at (k := j / 3) (by omega)
  cases e
  obtain ⟨d0, d1, d2⟩ := cls_get vs (j / 3) (by omega)
  rw [Addr.add_lit]
  have h3 : j = j / 3 * 3 ∨ j = j / 3 * 3 + 1 ∨ j = j / 3 * 3 + 2 := by omega
  rcases h3 with h | h | h
  · rw [h] at hu ⊢; rw [d0] at hu; cases hu; exact c0
  · rw [h] at hu ⊢; rw [d1] at hu; cases hu; rw [← Nat.add_assoc]; exact c1
  · rw [h] at hu ⊢; rw [d2] at hu; cases hu; rw [← Nat.add_assoc]; exact c2
theorem info36_parts : ∃ i, Tryd.prog.info? 36 = some i ∧ i.zero = some (val 0 0 0) ∧ i.size = 3 ∧ i.bytes = 24 := by
  obtain ⟨i, hi, hzz⟩ := Option.map_eq_some_iff.1 Tryd.info36
  simp only [Prod.mk.injEq] at hzz
  exact ⟨i, hi, hzz.1, hzz.2.1, hzz.2.2⟩
theorem info2_parts : ∃ i, Tryd.prog.info? 2 = some i ∧ i.zero = some (.int .i64 0) ∧ i.size = 1 ∧ i.bytes = 8 := by
  obtain ⟨i, hi, hzz⟩ := Option.map_eq_some_iff.1 Tryd.info2
  simp only [Prod.mk.injEq] at hzz
  exact ⟨i, hi, hzz.1, hzz.2.1, hzz.2.2⟩
/-- An own row under growth of memory that leaves its blocks. -/
theorem own_below {w w' : World} {base n size : Nat} {v : Value} {e : TypeId} {xs : List Value} (h : w.ownsRow base e size v n xs) (hb : Below w.heap.size w w') : w'.ownsRow base e size v n xs := by
  refine ⟨h.1, ?_⟩
  rcases h.2 with h0 | ⟨g, cap, cur, h1, h2, h3, h4⟩
  · exact .inl h0
  · exact .inr ⟨g, cap, cur, h1, h2, (hb.block g (Array.getElem?_eq_some_iff.1 h3).1).trans h3, h4⟩
/-- The first value is taken at least. -/
theorem longest_pos {vs : List Vl} {n : Nat} (h : Longest vs n) (hv : ∀ v ∈ vs, may v = true) (hl : 0 < vs.length) : 1 ≤ n := by
  rcases Nat.lt_or_ge n 1 with hn | hn
  · exfalso
    obtain rfl : n = 0 := by omega
    refine h.2.2 1 (by decide) hl ?_
    match vs, hl with
    | v :: r, _ =>
      have hm := hv v (by simp)
      refine ⟨fun x hx => ?_, ?_⟩
      · simp at hx; subst hx; exact hm
      · by_cases hM : v.M = 0
        · simp [st, stp, hM]
        · have := may_num hm hM
          have := dg_15 this.2.1
          simp [st, stp, hM]; omega
  · exact hn
theorem RdV.drop {w : World} {b off n : Nat} {vs : List Vl} (h : RdV w (some ⟨b, off, none⟩) vs) : RdV w (some ⟨b, off + n * 3, none⟩) (vs.drop n) := by
  rcases h with rfl | ⟨b', off', h1, h2, h3⟩
  · exact .inl (by simp)
  · cases h1
    refine .inr ⟨b, off + n * 3, rfl, h2, fun i hi => ?_⟩
    simp only [List.length_drop] at hi
    have := h3 (n + i) (by omega)
    have e : (vs.drop n).getD i v0 = vs.getD (n + i) v0 := by simp [List.getD]
    rw [e, show off + n * 3 + i * 3 = off + (n + i) * 3 by omega]; exact this
end Go.Proofs.YtpjimckbpabakaaDoor
