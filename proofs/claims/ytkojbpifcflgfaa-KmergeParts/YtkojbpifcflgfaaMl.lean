/- The contracts of Meet and Less. Conditions: how the rows lie; sizes. -/
import Derived.Test.YtkojbpifcflgfaaOh
namespace Go.Proofs.Ytkojbpifcflgfaa
open Go.RowKit Go.Shelf

/-- A row of numbers of the call's own, handed back. -/
def NewR (w : World) (ys : List Int) (e : Ending) (w' : World) : Prop := ∃ v, e = .returned v ∧ w'.ownsRow w.heap.size 3 1 v ys.length (ys.map (Value.int .i64)) ∧ Below w.heap.size w w'
theorem meet_any (a : Option Addr) (n c : Nat) (rows : List (List Int)) (w : World) (h : I.IsSS (kI w) w a n c rows) (hn : n ≤ 1000) (ht : I.tot rows ≤ 1000000) (hl : ∀ i, (rows.getD i []).length ≤ 1000000) :
    Calls Try.prog 18 #[.slice a n c] w (NewR w (hads n rows)) := by
  have H : Hid _ := had_any n a n c rows w h hn ht hl
  clear h
  go_enter Try.func18, Try.ntmps18
  go_wp2_with fail
  refine Calls.mono H.out ?_
  rintro e w1 ⟨v, rfl, h1, h2⟩
  have HR : Hid (NewR w (hads n rows) (.returned v) w1) := ⟨v, rfl, h1, h2⟩
  clear h1 h2
  go_wp2_with fail
  go_ret
  exact HR.out

theorem own_isS {w0 w : World} {base : Nat} {v : Value} {ys : List Int} (h : w.ownsRow base 3 1 v ys.length (ys.map (Value.int .i64))) : ∃ a c, v = .slice a ys.length c ∧ I.IsS (kI w0) w a ys.length c ys := by
  rcases h.2 with ⟨h1, h2⟩ | ⟨g, cap, cur, h1, _, h3, h4, h5, h6, h7⟩
  · have e : ys = [] := List.eq_nil_of_length_eq_zero h2
    subst e
    exact ⟨none, 0, h1, ⟨rfl, Nat.le_refl _, Nat.zero_le _, fun _ => rfl, fun ad e => by cases e⟩⟩
  · refine ⟨_, cap, h1, ⟨rfl, h4, h5, (fun e => by cases e), fun ad e j u hu => ?_⟩⟩
    cases e
    have hj : j < ys.length := by have := (List.getElem?_eq_some_iff.1 hu).1; simpa using this
    have hu' : (ys.map (Value.int .i64))[j]? = some u := hu
    rw [← h7, List.getElem?_take, if_pos (by omega), Array.getElem?_toList] at hu'
    rw [Addr.add_lit, I.cell_of h3, Nat.zero_add]; exact hu'
theorem isSS_two {w0 W : World} {a b : Option Addr} {n c m d g : Nat} {t : TypeId} {xs ys : List Int} (h1 : I.IsS (kI w0) W a n c xs) (h2 : I.IsS (kI w0) W b m d ys) (hg : W.heap[g]? = some (.cells #[.slice a n c, .slice b m d] t (0, 0))) : I.IsSS (kI w0) W (some ⟨g, 0, none⟩) 2 2 [xs, ys] :=
  ⟨rfl, Nat.le_refl _, fun i hi => by
    match i, hi with
    | 0, _ => exact ⟨g, 0, a, n, c, rfl, by rw [I.cell_of hg]; rfl, h1⟩
    | 1, _ => exact ⟨g, 0, b, m, d, rfl, by rw [I.cell_of hg]; rfl, h2⟩⟩

theorem ins_len {κ : Type} [DecidableEq κ] (lt : κ → κ → Bool) (x : κ) : ∀ l : List κ, (ins lt x l).length ≤ l.length + 1
  | [] => by simp [ins]
  | y :: r => by
    have := ins_len lt x r
    unfold ins
    split
    · simp; omega
    · split <;> simp
theorem inss_len {κ : Type} [DecidableEq κ] (lt : κ → κ → Bool) : ∀ (l a : List κ), (l.foldl (fun a x => ins lt x a) a).length ≤ l.length + a.length
  | [], a => by simp
  | x :: r, a => by
    have h1 := inss_len lt r (ins lt x a)
    have h2 := ins_len lt x a
    rw [List.foldl_cons]; simp; omega
theorem hads_len (many : Nat) (rows : List (List Int)) : (hads many rows).length ≤ rows.flatten.length := by
  have h1 := List.length_filter_le (fun x => rows.countP (hasI x) == many) (inss ltI rows.flatten)
  have h2 := inss_len ltI rows.flatten []
  have h3 : (inss ltI rows.flatten).length ≤ rows.flatten.length + 0 := h2
  show (List.filter _ _).length ≤ _
  omega

set_option maxRecDepth 20000 in
theorem less_any (a b : Option Addr) (n c m d : Nat) (xs ys : List Int) (w : World) (h1 : I.IsS (kI w) w a n c xs) (h2 : I.IsS (kI w) w b m d ys) (hn : n ≤ 10000) (hm : m ≤ 10000) :
    Calls Try.prog 20 #[.slice a n c, .slice b m d] w (NewR w (hads 1 [xs, hads 2 [xs, ys]])) := by
  have hx := h1.len
  have hy := h2.len
  have H : Hid (I.IsS (kI w) w a n c xs ∧ I.IsS (kI w) w b m d ys) := ⟨h1, h2⟩
  have hw1 : Below w.heap.size w (w.alloc (.cells #[.slice a n c, .slice b m d] 30)) := (Below.refl _ _).alloc (Nat.le_refl _) _
  have hM : Hid _ := meet_any (some ⟨w.heap.size, 0, none⟩) 2 2 [xs, ys] (w.alloc (.cells #[.slice a n c, .slice b m d] 30))
    (isSS_w (isSS_two (h1.below hw1 (Nat.le_refl _)) (h2.below hw1 (Nat.le_refl _)) (World.alloc_heap_new w _))) (by omega) (by simp [I.tot]; omega) (fun i => by match i with | 0 => (simp; omega) | 1 => (simp; omega) | k + 2 => simp)
  have HW : Hid (Below w.heap.size w (w.alloc (.cells #[.slice a n c, .slice b m d] 30))) := hw1
  clear h1 h2 hw1
  go_enter Try.func20, Try.ntmps20
  go_wp2_with fail
  refine Calls.mono hM.out ?_
  rintro e w2 ⟨v, rfl, ho, hb⟩
  have hb0 : Below w.heap.size w w2 := (HW.out).trans (hb.mono (by simp))
  obtain ⟨a2, c2, rfl, hs2⟩ := own_isS (w0 := w) ho
  have hlm : (hads 2 [xs, ys]).length ≤ 20000 := by
    have := hads_len 2 [xs, ys]
    simp at this
    omega
  have HI : Hid (I.IsS (kI w) w2 a n c xs ∧ I.IsS (kI w) w2 a2 (hads 2 [xs, ys]).length c2 (hads 2 [xs, ys]) ∧ Below w.heap.size w w2) := ⟨H.out.1.below hb0 (Nat.le_refl _), hs2, hb0⟩
  obtain ⟨zs, hzs⟩ : ∃ zs, zs = hads 2 [xs, ys] := ⟨_, rfl⟩
  have HZ : Hid (zs = hads 2 [xs, ys]) := hzs
  rw [← hzs] at HI hlm
  obtain ⟨k, hk⟩ : ∃ k, k = zs.length := ⟨_, rfl⟩
  rw [show (hads 2 [xs, ys]).length = k by rw [← hzs, hk]]
  rw [← hk] at HI
  have hw3 : Below w2.heap.size w2 (w2.alloc (.cells #[.slice a n c, .slice a2 k c2] 30)) := (Below.refl _ _).alloc (Nat.le_refl _) _
  have hH : Hid _ := had_any 1 (some ⟨w2.heap.size, 0, none⟩) 2 2 [xs, zs] (w2.alloc (.cells #[.slice a n c, .slice a2 k c2] 30))
    (isSS_w (isSS_two (HI.out.1.below hw3 (Nat.le_refl _)) (HI.out.2.1.below hw3 (Nat.le_refl _)) (World.alloc_heap_new w2 _))) (by omega) (by simp [I.tot]; omega) (fun i => by match i with | 0 => (simp; omega) | 1 => (simp; omega) | k + 2 => simp)
  have HW3 : Hid (Below w.heap.size w (w2.alloc (.cells #[.slice a n c, .slice a2 k c2] 30))) := hb0.trans (hw3.mono hb0.size)
  clear ho hb hb0 hs2 hlm hzs hk hw3 hM
  go_wp2_with fail
  refine Calls.mono hH.out ?_
  rintro e w4 ⟨v, rfl, ho, hb⟩
  have HR : Hid (NewR w (hads 1 [xs, zs]) (.returned v) w4) := ⟨v, rfl, own_mono ho HW3.out.size, HW3.out.trans (hb.mono HW3.out.size)⟩
  clear ho hb hH
  go_wp2_with fail
  go_ret
  rw [← HZ.out]
  exact HR.out
end Go.Proofs.Ytkojbpifcflgfaa
