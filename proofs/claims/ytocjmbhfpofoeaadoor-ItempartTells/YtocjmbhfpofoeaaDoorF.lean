/- The contract of Take. Conditions: what the bytes are. -/
import Derived.Test.YtocjmbhfpofoeaaDoorE
namespace Go.Proofs.YtocjmbhfpofoeaaDoor
open Go.RowKit
theorem own_mono {w : World} {base base' : Nat} {e : TypeId} {size : Nat} {v : Value} {n : Nat} {xs : List Value} (h : w.ownsRow base e size v n xs) (hb : base' ≤ base) : w.ownsRow base' e size v n xs := by
  refine ⟨h.1, ?_⟩
  rcases h.2 with h0 | ⟨g, cap, cur, h1, h2, h3⟩
  · exact .inl h0
  · exact .inr ⟨g, cap, cur, h1, Nat.le_trans hb h2, h3⟩
theorem cells_app_left {w : World} {g off : Nat} {ls rest : List Int} (hc : ∀ i, i < (ls ++ rest).length → w.cell? ⟨g, off + i, none⟩ = some (.int .u8 ((ls ++ rest).getD i 0))) :
    ∀ i, i < ls.length → w.cell? ⟨g, off + i, none⟩ = some (.int .u8 (ls.getD i 0)) := by
  intro i hi
  rw [hc i (by simp; omega)]
  simp [List.getD, List.getElem?_append_left hi]
theorem cells_app_right {w : World} {g off : Nat} {ls rest : List Int} (hc : ∀ i, i < (ls ++ rest).length → w.cell? ⟨g, off + i, none⟩ = some (.int .u8 ((ls ++ rest).getD i 0))) :
    ∀ i, i < rest.length → w.cell? ⟨g, off + ls.length + i, none⟩ = some (.int .u8 (rest.getD i 0)) := by
  intro i hi
  rw [Nat.add_assoc, hc (ls.length + i) (by simp; omega)]
  simp [List.getD, List.getElem?_append_right (show ls.length ≤ ls.length + i by omega)]
theorem bs_getD {u : Nat} (h : u < 18446744073709551616) : ∀ i, 0 ≤ (bs u).getD i 0 ∧ (bs u).getD i 0 ≤ 255 := by
  intro i
  by_cases hi : i < (bs u).length
  · have e : (bs u).getD i 0 = (bs u)[i] := by simp [List.getD, hi]
    rw [e]; exact bs_mem64 h _ (List.getElem_mem hi)
  · have e : (bs u).getD i 0 = 0 := by simp [List.getD, show (bs u)[i]? = none from List.getElem?_eq_none (by omega)]
    rw [e]; omega

set_option maxHeartbeats 1600000 in
theorem take_walk (g off cap n m : Nat) (u : Int) (rest : List Value) (w : World) (hm : n + m ≤ cap) (hcap : cap ≤ maxLen)
    (HS : Hid (Calls Tryd.prog 81 #[.slice (some ⟨g, off, none⟩) (n + m) cap] w fun e w' => e = .returned (.tuple #[.int .i64 (n : Int), .int .i64 0]) ∧ w' = w))
    (HJ : Hid (∀ w', Below w.heap.size w w' → Calls Tryd.prog 82 #[.slice (some ⟨g, off, none⟩) n cap] w' fun e w'' => e = .returned (.int .u64 u) ∧ w'' = w'))
    (HG : Hid (∀ c a' w', (¬ cap = n → a' = some ⟨g, off + n, none⟩) → Below w.heap.size w w' → Calls Tryd.prog 71 #[.slice a' m c, .int .i64 0] w' fun e w'' => ∃ h, e = .returned (.slice (some ⟨h, 0, none⟩) m m) ∧
      w''.ownsRow w.heap.size 5 1 (.slice (some ⟨h, 0, none⟩) m m) m rest ∧ Below w.heap.size w w'')) :
    Calls Tryd.prog 75 #[.slice (some ⟨g, off, none⟩) (n + m) cap] w fun e w' => ∃ h, e = .returned (.tuple #[.int .u64 u, .slice (some ⟨h, 0, none⟩) m m, .int .i64 0]) ∧
      w'.ownsRow w.heap.size 5 1 (.slice (some ⟨h, 0, none⟩) m m) m rest ∧ Below w.heap.size w w' := by
  unfold maxLen at hcap
  by_cases hcn : cap = n
  · obtain rfl : m = 0 := by omega
    obtain rfl : n = cap := by omega
    clear hcn
    have HH : Hid (∀ c a' w', Below w.heap.size w w' → Calls Tryd.prog 71 #[.slice a' 0 c, .int .i64 0] w' fun e w'' => ∃ h, e = .returned (.slice (some ⟨h, 0, none⟩) 0 0) ∧
      w''.ownsRow w.heap.size 5 1 (.slice (some ⟨h, 0, none⟩) 0 0) 0 rest ∧ Below w.heap.size w w'') := fun c a' w' => HG.out c a' w' (fun h => absurd rfl h)
    clear HG
    go_enter Tryd.func75, Tryd.ntmps75
    go_wp2_with (go_at_call 81; refine HS.out.mono ?_; rintro e w' ⟨rfl, rfl⟩)
    go_region_with (first
      | (go_at_call 82; refine (HJ.out _ ?_).mono ?_; · first | exact Below.refl _ _ | exact (Below.refl _ _).drew
         rintro e w1 ⟨rfl, rfl⟩)
      | (go_at_call 71; refine (HH.out _ _ _ ?_).mono ?_; · first | exact Below.refl _ _ | exact (Below.refl _ _).drew
         rintro e w2 ⟨h, rfl, ho, hb⟩))
    all_goals go_wp2
    all_goals go_ret3
    all_goals exact ⟨h, rfl, ho, hb⟩
  · go_enter Tryd.func75, Tryd.ntmps75
    go_wp2_with (go_at_call 81; refine HS.out.mono ?_; rintro e w' ⟨rfl, rfl⟩)
    go_region_with (first
      | (go_at_call 82; refine (HJ.out _ ?_).mono ?_; · first | exact Below.refl _ _ | exact (Below.refl _ _).drew
         rintro e w1 ⟨rfl, rfl⟩)
      | (go_at_call 71; refine (HG.out _ _ _ ?_ ?_).mono ?_; · intro _; rfl
         · first | exact Below.refl _ _ | exact (Below.refl _ _).drew
         rintro e w2 ⟨h, rfl, ho, hb⟩))
    all_goals go_wp2
    all_goals go_ret3
    all_goals exact ⟨h, rfl, ho, hb⟩

theorem take_ok (g off cap : Nat) (u : Nat) (rest : List Int) (w : World) (hu : u < 18446744073709551616) (hg : g < w.heap.size)
    (hc : ∀ i, i < (bs u ++ rest).length → w.cell? ⟨g, off + i, none⟩ = some (.int .u8 ((bs u ++ rest).getD i 0))) (hm : (bs u ++ rest).length ≤ cap) (hcap : cap ≤ maxLen) (hs : rest.length ≤ 140737487000000) :
    Calls Tryd.prog 75 #[.slice (some ⟨g, off, none⟩) (bs u ++ rest).length cap] w fun e w' => ∃ h, e = .returned (.tuple #[.int .u64 (u : Int), .slice (some ⟨h, 0, none⟩) rest.length rest.length, .int .i64 0]) ∧
      w'.ownsRow w.heap.size 5 1 (.slice (some ⟨h, 0, none⟩) rest.length rest.length) rest.length (rest.map (Value.int .u8)) ∧ Below w.heap.size w w' := by
  have hp := bs_pos u
  have hl := bs_le10 hu
  obtain ⟨f1, f2, f3, f4, f5⟩ := bs_app hu rest
  have HS := span_ok g off cap (bs u ++ rest) ((bs u).length - 1) w hc (by simp; omega) (by simp; omega) (by omega) f1 f2 f3 f4 f5
  have e1 : (((bs u).length - 1 : Nat) : Int) + 1 = ((bs u).length : Int) := by omega
  rw [e1] at HS
  rw [List.length_append] at hm HS ⊢
  refine take_walk g off cap (bs u).length rest.length u (rest.map (Value.int .u8)) w hm hcap HS ?_ ?_
  · intro w' hb
    have := join_any g off cap (bs u) w' (fun i hi => (hb.cell (p := ⟨g, off + i, none⟩) hg).trans (cells_app_left hc i hi)) hl (bs_getD hu) (by rw [vl_bs64 hu]; exact hu)
    rw [vl_bs64 hu] at this
    exact this
  · intro c a' w' ha hb
    have hrd : Rd .u8 w' a' rest := by
      by_cases hr : rest = []
      · exact .inl hr
      · have : 0 < rest.length := List.length_pos_iff.2 hr
        exact .inr ⟨g, off + (bs u).length, ha (by omega), Nat.lt_of_lt_of_le hg hb.size, fun i hi => (hb.cell (p := ⟨g, off + (bs u).length + i, none⟩) hg).trans (cells_app_right hc i hi)⟩
    refine (grown_any a' rest.length c 0 rest w' rfl hrd (by omega)).mono ?_
    rintro e w'' ⟨rfl, ho, hb2⟩
    exact ⟨_, rfl, own_mono ho hb.size, hb.trans (hb2.mono hb.size)⟩

theorem take_err (a : Option Addr) (len cap : Nat) (x : Int) (hx : (x == 0) = false) (w : World)
    (HS : Hid (Calls Tryd.prog 81 #[.slice a len cap] w fun e w' => e = .returned (.tuple #[.int .i64 0, .int .i64 x]) ∧ w' = w)) :
    Calls Tryd.prog 75 #[.slice a len cap] w fun e w' => e = .returned (.tuple #[.int .u64 0, .slice none 0 0, .int .i64 x]) ∧ w' = w := by
  go_enter Tryd.func75, Tryd.ntmps75
  go_wp2_with (go_at_call 81; refine HS.out.mono ?_; rintro e w' ⟨rfl, rfl⟩)
  go_ret3
  exact ⟨rfl, rfl⟩

theorem take_short (a : Option Addr) (cap : Nat) (zs : List Int) (w : World) (hr : Rd .u8 w a zs) (hk9 : zs.length ≤ 9) (hlo : ∀ i, i < zs.length → 128 ≤ zs.getD i 0) :
    Calls Tryd.prog 75 #[.slice a zs.length cap] w fun e w' => e = .returned (.tuple #[.int .u64 0, .slice none 0 0, .int .i64 10]) ∧ w' = w :=
  take_err a zs.length cap 10 (by decide) w (span_short a cap zs w hr hk9 hlo)

theorem take_form (g cap : Nat) (w : World) (h0 : w.cell? ⟨g, 0, none⟩ = some (.int .u8 128)) (h1 : w.cell? ⟨g, 1, none⟩ = some (.int .u8 0)) :
    Calls Tryd.prog 75 #[.slice (some ⟨g, 0, none⟩) 2 cap] w fun e w' => e = .returned (.tuple #[.int .u64 0, .slice none 0 0, .int .i64 11]) ∧ w' = w :=
  take_err _ 2 cap 11 (by decide) w (span_form g cap w h0 h1)

/-- What a row of the call's own reads as. -/
theorem own_cells {w : World} {base g n cap : Nat} {k : IntKind} {e : TypeId} {zs : List Int} (h : w.ownsRow base e 1 (.slice (some ⟨g, 0, none⟩) n cap) n (zs.map (Value.int k))) :
    ∀ i, i < zs.length → w.cell? ⟨g, 0 + i, none⟩ = some (.int k (zs.getD i 0)) := by
  intro i hi
  have hl := h.1
  simp only [List.length_map, Nat.mul_one] at hl
  rw [Nat.zero_add, h.cellAt i (by omega)]
  simp [List.getD, hi]
/-- A row that owns something has an address. -/
theorem own_some {w : World} {base n : Nat} {v : Value} {e : TypeId} {xs : List Value} (h : w.ownsRow base e 1 v n xs) (hn : 0 < n) :
    ∃ g cap, v = .slice (some ⟨g, 0, none⟩) n cap ∧ base ≤ g ∧ g < w.heap.size ∧ n ≤ cap ∧ cap ≤ maxLen := by
  rcases h.2 with ⟨_, h0⟩ | ⟨g, cap, cur, rfl, hb, hg, h1, h2, _, _⟩
  · omega
  · exact ⟨g, cap, rfl, hb, (Array.getElem?_eq_some_iff.1 hg).1, h1, h2⟩
/-- What is owned reads so. -/
theorem own_rd {w : World} {base g n cap : Nat} {k : IntKind} {e : TypeId} {zs : List Int} (h : w.ownsRow base e 1 (.slice (some ⟨g, 0, none⟩) n cap) n (zs.map (Value.int k))) : Rd k w (some ⟨g, 0, none⟩) zs := by
  refine .inr ⟨g, 0, rfl, (h.lt g rfl).2, own_cells h⟩
end Go.Proofs.YtocjmbhfpofoeaaDoor
