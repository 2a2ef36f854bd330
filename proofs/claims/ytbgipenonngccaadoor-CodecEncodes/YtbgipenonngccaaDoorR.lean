/- The contracts of alike, even and steps: the numbers of Const, Step and Delta. Conditions: at most 4096 numbers, as many as each needs. -/
import Derived.Test.YtbgipenonngccaaDoorQ
import Derived.Laws.IdiomCopy
import Derived.Lib.LazyBuf
namespace Go.Proofs.YtbgipenonngccaaDoor
open Go.RowKit

/-- What the ways tell. -/
def Nm (k : Nat) (l : List Int) (w : World) (e : Ending) (w' : World) : Prop :=
  ((∃ x v, nms k l = some x ∧ e = .returned (.tuple #[v, .bool true]) ∧ Sl .i64 x v w') ∨ (nms k l = none ∧ e = .returned (.tuple #[.slice none 0 0, .bool false]))) ∧ Below w.heap.size w w'

theorem sl_row {w : World} {g n : Nat} {xs : List Int} (hx : xs.length = n) (hn : n ≤ 5000) (h : w.rowIs g 2 n (fun i => .int .i64 (xs.getD i 0))) : Sl .i64 xs (.slice (some ⟨g, 0, none⟩) n n) w := by
  subst hx
  exact ⟨g, 0, _, rfl, h.lt, Nat.le_refl _, by unfold maxLen; omega, fun i hi => by rw [Nat.zero_add]; exact h.cell hi⟩

theorem alk_iff (l : List Int) : alk l = true ↔ ∀ j, j < l.length → l.getD j 0 = l.getD 0 0 := by
  unfold alk
  rw [List.all_eq_true]
  constructor
  · intro h j hj
    have := h (l.getD j 0) (by rw [List.getD_eq_getElem?_getD, List.getElem?_eq_getElem hj]; exact List.getElem_mem hj)
    simpa using this
  · intro h x hx
    obtain ⟨j, hj, rfl⟩ := List.getElem_of_mem hx
    have := h j hj
    rw [List.getD_eq_getElem?_getD, List.getElem?_eq_getElem hj] at this
    simpa using this
theorem dfs_head {l : List Int} (h : 0 < l.length) (p : Int) : (dfs p l).getD 0 0 = dif p (l.getD 0 0) := by
  cases l with
  | nil => simp at h
  | cons x l => rfl
theorem dfs_at : ∀ (l : List Int) (p : Int) (k : Nat), k + 1 < l.length → (dfs p l).getD (k + 1) 0 = dif (l.getD k 0) (l.getD (k + 1) 0)
  | [], _, _, h => by simp at h
  | [x], _, k, h => by simp at h
  | x :: y :: l, p, 0, _ => rfl
  | x :: y :: l, p, k + 1, h => by
    have := dfs_at (y :: l) x k (by simpa using h)
    simpa [dfs_cons] using this
theorem getD_tail (l : List Int) (j : Nat) : l.tail.getD j 0 = l.getD (j + 1) 0 := by cases l <;> simp
theorem evn_iff (l : List Int) (h : 2 ≤ l.length) : alk (dfs 0 l).tail = true ↔ ∀ j, j + 1 < l.length → dif (l.getD j 0) (l.getD (j + 1) 0) = dif (l.getD 0 0) (l.getD 1 0) := by
  rw [alk_iff]
  constructor
  · intro hh j hj
    have := hh j (by rw [List.length_tail, dfs_length]; omega)
    rw [getD_tail, getD_tail, dfs_at l 0 j hj, dfs_at l 0 0 (by omega)] at this
    exact this
  · intro hh j hj
    rw [List.length_tail, dfs_length] at hj
    rw [getD_tail, getD_tail, dfs_at l 0 j (by omega), dfs_at l 0 0 (by omega)]
    exact hh j (by omega)

set_option maxHeartbeats 1600000 in
theorem alike_any (a : Option Addr) (n cap : Nat) (l : List Int) (w : World) (hl : l.length = n) (h1 : 1 ≤ n) (hn : n ≤ 4096) (hcap : n ≤ cap) (hrd : Rd .i64 w a l) :
    Calls Tryd.prog 20 #[.slice a n cap] w (Nm 0 l w) := by
  obtain ⟨b, off, rfl, hb, hc⟩ : ∃ b off, a = some ⟨b, off, none⟩ ∧ b < w.heap.size ∧ ∀ i, i < l.length → w.cell? ⟨b, off + i, none⟩ = some (.int .i64 (l.getD i 0)) := by
    rcases hrd with rfl | h
    · simp at hl; omega
    · exact h
  have HC : Hid (∀ k, k + 1 < n → w.cell? ⟨b, off + 1 + k, none⟩ = some (.int .i64 (l.getD (k + 1) 0))) := fun k hk => by rw [← hc (k + 1) (by omega)]; congr 2; omega
  have hc0 := hc 0 (by omega)
  rw [Nat.add_zero] at hc0
  obtain ⟨y, hy⟩ : ∃ y, Hid (y = l.getD 0 0) := ⟨_, rfl⟩
  rw [← hy.out] at hc0
  have HL : Hid (l.length = n) := hl
  clear hrd hc hl
  obtain ⟨m, rfl⟩ : ∃ m, n = m + 1 := ⟨n - 1, by omega⟩
  have hm : m + 1 - 1 = m := rfl
  by_cases hc1 : cap = 1
  all_goals
    go_enter Tryd.func20, Tryd.ntmps20
    go_wp2
    go_loop [9] (fun i => ∃ k : Nat, i = .int .i64 (k : Int) ∧ k ≤ m ∧ Hid (∀ j, j ≤ k → l.getD j 0 = y)) (fun i => m - (intOf i).toNat)
    case atStart => exact ⟨0, rfl, Nat.zero_le _, fun j hj => by rw [show j = 0 by omega, hy.out]⟩
    case round =>
      obtain ⟨k, rfl, hk, hal⟩ := hrel
      by_cases hlt : k < m
      · first
        | omega
        | (have hlt' : (k : Int) < (m : Int) := by omega
           have hck := HC.out k (by omega)
           obtain ⟨x, hx⟩ : ∃ x, Hid (x = l.getD (k + 1) 0) := ⟨_, rfl⟩
           rw [← hx.out] at hck
           by_cases hxy : x = y
           · go_wp2
             go_round
             case rel => exact ⟨k + 1, by go_num, by omega, fun j hj => by
               rcases Nat.lt_or_ge j (k + 1) with h | h
               · exact hal.out j (by omega)
               · rw [show j = k + 1 by omega, ← hx.out, hxy]⟩
             case measure => simp [intOf]; omega
           · go_wp2
             go_ret2
             refine ⟨.inr ⟨?_, rfl⟩, Below.refl _ _⟩
             refine if_neg ?_
             rintro ⟨_, h⟩
             have := (alk_iff l).1 h (k + 1) (by rw [HL.out]; omega)
             rw [← hx.out, ← hy.out] at this
             exact hxy this)
      · have hlt' : ¬ (k : Int) < (m : Int) := by omega
        obtain rfl : k = m := by omega
        go_wp2
        go_ret2
        refine ⟨.inl ⟨[y], _, ?_, rfl, ⟨w.heap.size, 0, 1, rfl, by simp, by simp, by simp [maxLen], ?_⟩⟩, (Below.refl _ _).alloc (Nat.le_refl _) _⟩
        · unfold nms
          rw [if_pos ⟨by rw [HL.out]; omega, (alk_iff l).2 fun j hj => by rw [HL.out] at hj; rw [hal.out j (by omega), hy.out]⟩]
          have := HL.out
          cases l with
          | nil => simp at this
          | cons z l => simp; rw [hy.out]; simp
        · intro i hi
          obtain rfl : i = 0 := by simp at hi; omega
          exact (Boxed.new w 2 (.int .i64 y)).cell

theorem two_at (w : World) (x y : Int) : ∀ i, i < 2 → (w.alloc (.cells #[.int .i64 x, .int .i64 y] 2)).cell? ⟨w.heap.size, 0 + i, none⟩ = some (.int .i64 ([x, y].getD i 0)) := by
  intro i hi
  have h := World.alloc_heap_new w (.cells #[.int .i64 x, .int .i64 y] 2)
  match i, hi with
  | 0, _ => simp only [World.cell?, h]; rfl
  | 1, _ => simp only [World.cell?, h]; rfl

set_option maxHeartbeats 1600000 in
theorem even_any (a : Option Addr) (n cap : Nat) (l : List Int) (w : World) (hl : l.length = n) (h2 : 2 ≤ n) (hn : n ≤ 4096) (hcap : n ≤ cap) (hrd : Rd .i64 w a l) :
    Calls Tryd.prog 21 #[.slice a n cap] w (Nm 1 l w) := by
  obtain ⟨b, off, rfl, hb, hc⟩ : ∃ b off, a = some ⟨b, off, none⟩ ∧ b < w.heap.size ∧ ∀ i, i < l.length → w.cell? ⟨b, off + i, none⟩ = some (.int .i64 (l.getD i 0)) := by
    rcases hrd with rfl | h
    · simp at hl; omega
    · exact h
  obtain ⟨m, rfl⟩ : ∃ m, n = m + 2 := ⟨n - 2, by omega⟩
  have HC : Hid (∀ k w', Below w.heap.size w w' → k < m → w'.cell? ⟨b, off + 2 + k, none⟩ = some (.int .i64 (l.getD (k + 2) 0))) := fun k w' hw hk => by rw [hw.cell hb, ← hc (k + 2) (by omega)]; congr 2; omega
  have hc0 := hc 0 (by omega)
  have hc1 := hc 1 (by omega)
  rw [Nat.add_zero] at hc0
  obtain ⟨y, hy⟩ : ∃ y, Hid (y = l.getD 0 0) := ⟨_, rfl⟩
  obtain ⟨z, hz⟩ : ∃ z, Hid (z = l.getD 1 0) := ⟨_, rfl⟩
  rw [← hy.out] at hc0
  rw [← hz.out] at hc1
  have HL : Hid (l.length = m + 2) := hl
  clear hrd hc hl
  have hm : m + 2 - 2 = m := rfl
  have d0 : Hid (∀ w', Below w.heap.size w w' → w'.cell? ⟨b, off, none⟩ = some (.int .i64 y)) := fun w' hw => (hw.cell hb).trans hc0
  have d1 : Hid (∀ w', Below w.heap.size w w' → w'.cell? ⟨b, off + 1, none⟩ = some (.int .i64 z)) := fun w' hw => (hw.cell hb).trans hc1
  clear hc0 hc1
  go_enter Tryd.func21, Tryd.ntmps21
  go_wp2_with fail
  refine (differences_any w).mono ?_
  rintro r w1 ⟨rfl, rfl⟩
  have hbx : Hid (Boxed (w.alloc (.cells #[.int .i64 0] 2)) w.heap.size 2 (.int .i64 0)) := Boxed.new _ _ _
  have hb1 : Below w.heap.size w (w.alloc (.cells #[.int .i64 0] 2)) := (Below.refl _ _).alloc (Nat.le_refl _) _
  generalize w.alloc (.cells #[.int .i64 0] 2) = w1 at *
  have e0 := d0.out w1 hb1
  go_wp2_with fail
  refine (dif_any y 0 w.heap.size w1 hbx.out).mono ?_
  rintro r w2 ⟨rfl, rfl⟩
  have hbx2 : Hid (Boxed (w1.setCell ⟨w.heap.size, 0, none⟩ (.int .i64 (fD 0 y).2)) w.heap.size 2 (.int .i64 y)) := hbx.out.set _
  have hb2 : Below w.heap.size w (w1.setCell ⟨w.heap.size, 0, none⟩ (.int .i64 (fD 0 y).2)) := hb1.setCell (by simp) _
  generalize w1.setCell ⟨w.heap.size, 0, none⟩ (.int .i64 (fD 0 y).2) = w2 at *
  clear e0 hbx
  have e1 := d1.out w2 hb2
  obtain ⟨fs, hfs⟩ : ∃ q, Hid (q = (fD 0 y).1) := ⟨_, rfl⟩
  rw [← hfs.out]
  go_wp2_with fail
  refine (dif_any z y w.heap.size w2 hbx2.out).mono ?_
  rintro r w3 ⟨rfl, rfl⟩
  have hbx3 : Hid (Boxed (w2.setCell ⟨w.heap.size, 0, none⟩ (.int .i64 (fD y z).2)) w.heap.size 2 (.int .i64 z)) := hbx2.out.set _
  have hb3 : Below w.heap.size w (w2.setCell ⟨w.heap.size, 0, none⟩ (.int .i64 (fD y z).2)) := hb2.setCell (by simp) _
  generalize w2.setCell ⟨w.heap.size, 0, none⟩ (.int .i64 (fD y z).2) = w3 at *
  clear e1 hbx2 hb1 hb2
  obtain ⟨stp, hst⟩ : ∃ q, Hid (q = (fD y z).1) := ⟨_, rfl⟩
  rw [← hst.out]
  by_cases hc2 : cap = 2
  all_goals
    go_wp2_with fail
    go_loopw [23] (fun i wr => ∃ k : Nat, i = .int .i64 (k : Int) ∧ k ≤ m ∧ Hid (∀ j, j ≤ k → dif (l.getD j 0) (l.getD (j + 1) 0) = stp) ∧ Hid (Boxed wr w.heap.size 2 (.int .i64 (l.getD (k + 1) 0))) ∧ Below w.heap.size w wr) (fun i _ => m - (intOf i).toNat)
    case atStart => exact ⟨0, rfl, Nat.zero_le _, fun j hj => by rw [show j = 0 by omega, ← hy.out, ← hz.out, hst.out]; rfl, by rw [← hz.out]; exact hbx3.out, hb3⟩
    case round =>
      obtain ⟨k, rfl, hk, hal, hbk, hbw⟩ := hrel
      by_cases hlt : k < m
      · first
        | omega
        | (have hlt' : (k : Int) < (m : Int) := by omega
           have hck := HC.out k wr hbw (by omega)
           obtain ⟨x, hx⟩ : ∃ x, Hid (x = l.getD (k + 2) 0) := ⟨_, rfl⟩
           rw [← hx.out] at hck
           obtain ⟨p, hp⟩ : ∃ x, Hid (x = l.getD (k + 1) 0) := ⟨_, rfl⟩
           rw [← hp.out] at hbk
           go_wp2_with fail
           refine (dif_any x p w.heap.size wr hbk.out).mono ?_
           rintro r w4 ⟨rfl, rfl⟩
           have hbk2 : Hid (Boxed (wr.setCell ⟨w.heap.size, 0, none⟩ (.int .i64 (fD p x).2)) w.heap.size 2 (.int .i64 x)) := hbk.out.set _
           have hbw2 : Below w.heap.size w (wr.setCell ⟨w.heap.size, 0, none⟩ (.int .i64 (fD p x).2)) := hbw.setCell (by simp) _
           generalize wr.setCell ⟨w.heap.size, 0, none⟩ (.int .i64 (fD p x).2) = w4 at *
           obtain ⟨d, hd⟩ : ∃ q, Hid (q = (fD p x).1) := ⟨_, rfl⟩
           rw [← hd.out]
           by_cases hxy : d = stp
           · go_wp2_with fail
             go_roundw
             case rel => exact ⟨k + 1, by go_num, by omega, fun j hj => by
               rcases Nat.lt_or_ge j (k + 1) with h | h
               · exact hal.out j (by omega)
               · rw [show j = k + 1 by omega, ← hx.out, ← hp.out, ← hxy, hd.out]; rfl, by rw [← hx.out]; exact hbk2.out, hbw2⟩
             case measure => simp [intOf]; omega
           · go_wp2_with fail
             go_ret2
             refine ⟨.inr ⟨?_, rfl⟩, hbw2⟩
             refine if_neg ?_
             rintro ⟨_, h⟩
             have := (evn_iff l (by rw [HL.out]; omega)).1 h (k + 1) (by rw [HL.out]; omega)
             rw [← hx.out, ← hp.out, ← hy.out, ← hz.out] at this
             exact hxy (by rw [hd.out, hst.out]; exact this))
      · have hlt' : ¬ (k : Int) < (m : Int) := by omega
        obtain rfl : k = m := by omega
        go_wp2_with fail
        go_ret2
        refine ⟨.inl ⟨[fs, stp], _, ?_, rfl, ⟨wr.heap.size, 0, 2, rfl, by simp, by simp, by simp [maxLen], two_at wr fs stp⟩⟩, hbw.alloc hbw.size _⟩
        · have hnm : nms 1 l = some ((dfs 0 l).take 2) := if_pos ⟨by rw [HL.out]; omega, (evn_iff l (by rw [HL.out]; omega)).2 fun j hj => by rw [HL.out] at hj; rw [hal.out j (by omega), ← hy.out, ← hz.out, hst.out]; rfl⟩
          rw [hnm]
          have := HL.out
          rw [hfs.out, hst.out, hy.out, hz.out]
          match l, this with
          | x0 :: x1 :: l, _ => rfl

theorem steps_any (a : Option Addr) (n cap : Nat) (l : List Int) (w : World) (hl : l.length = n) (hn : n ≤ 4096) (hrd : Rd .i64 w a l) :
    Calls Tryd.prog 22 #[.slice a n cap] w (Nm 2 l w) := by
  have HR : Hid (Rd .i64 w a l ∧ l.length = n) := ⟨hrd, hl⟩
  clear hrd hl
  go_enter Tryd.func22, Tryd.ntmps22
  go_wp2_with fail
  refine (differences_any w).mono ?_
  rintro r w1 ⟨rfl, rfl⟩
  have hbx : Hid (Boxed (w.alloc (.cells #[.int .i64 0] 2)) w.heap.size 2 (.int .i64 0)) := Boxed.new _ _ _
  have hb1 : Below w.heap.size w (w.alloc (.cells #[.int .i64 0] 2)) := (Below.refl _ _).alloc (Nat.le_refl _) _
  generalize w.alloc (.cells #[.int .i64 0] 2) = w1 at *
  go_wp2_with fail
  refine (each_any 44 fD cf44 dif_any w.heap.size 0 a n cap l w w1 HR.out.2 (by omega) HR.out.1 hb1 (Nat.le_refl _) hbx.out).mono ?_
  rintro r w2 ⟨rfl, hr, hb2⟩
  have hr2 : Hid _ := hr
  clear hr
  go_wp2_with fail
  go_ret2
  exact ⟨.inl ⟨dfs 0 l, _, rfl, rfl, sl_row (by rw [dfs_length]; exact HR.out.2) (by omega) hr2.out⟩, hb1.trans hb2⟩
end Go.Proofs.YtbgipenonngccaaDoor
