/- What FormatFloat answers at one and a half, and at a third. Conditions: the package variables hold what they are laid with. -/
import Derived.Test.YtmeimofnmpmaoaaGreatDoorW
import Derived.Test.YtmeimofnmpmaoaaGreatDoorS
import Derived.Test.YtmeimofnmpmaoaaGreatDoorF
import Derived.Laws.Externs
import Derived.Deep.QuietTactic
import Derived.BigQuiet
namespace Go.Proofs.YtmeimofnmpmaoaaGreatDoor
open Go.RowKit Go.Shelf

theorem bits61_run (n : Nat) (w : World) : (callFunc 61 #[.float .f64 n]).run Tryz.prog w = .ok (.value (.int .u64 (n : Int))) w := by
  rw [run_callFunc_extern (e := Extern.MathFloatBits.float64bits) Tryz.func61 (by kernel_rfl) (by kernel_rfl) (by kernel_rfl) (by kernel_rfl)]
  rfl
attribute [local go_sem] bits61_run

abbrev buf32 : Obj := .cells #[.int .u8 0, .int .u8 0, .int .u8 0, .int .u8 0, .int .u8 0, .int .u8 0, .int .u8 0, .int .u8 0, .int .u8 0, .int .u8 0, .int .u8 0, .int .u8 0, .int .u8 0, .int .u8 0, .int .u8 0, .int .u8 0, .int .u8 0, .int .u8 0, .int .u8 0, .int .u8 0, .int .u8 0, .int .u8 0, .int .u8 0, .int .u8 0, .int .u8 0, .int .u8 0, .int .u8 0, .int .u8 0, .int .u8 0, .int .u8 0, .int .u8 0, .int .u8 0] 91

theorem hid {p : Prop} (h : p) : Hid p := h

theorem buf32_at (i : Nat) (hi : i < 32) : (#[.int .u8 0, .int .u8 0, .int .u8 0, .int .u8 0, .int .u8 0, .int .u8 0, .int .u8 0, .int .u8 0, .int .u8 0, .int .u8 0, .int .u8 0, .int .u8 0, .int .u8 0, .int .u8 0, .int .u8 0, .int .u8 0, .int .u8 0, .int .u8 0, .int .u8 0, .int .u8 0, .int .u8 0, .int .u8 0, .int .u8 0, .int .u8 0, .int .u8 0, .int .u8 0, .int .u8 0, .int .u8 0, .int .u8 0, .int .u8 0, .int .u8 0, .int .u8 0] : Array Value)[i]? = some (.int .u8 0) := by
  show (Array.replicate 32 (Value.int .u8 0))[i]? = _
  rw [Array.getElem?_replicate, if_pos hi]

theorem made (base : Nat) (w : World) (v : Value) (n : Nat) (hG : Ground w) (ho : w.ownsRow base 5 1 v 0 []) (hb : base ≤ w.heap.size) :
    Ground ((w.drewN n).alloc buf32) ∧ ((w.drewN n).alloc buf32).ownsRow base 5 1 v 0 [] ∧ (∀ i, i < 32 → ((w.drewN n).alloc buf32).cell? ⟨w.heap.size, i, none⟩ = some (.int .u8 0) ∧ ((w.drewN n).alloc buf32).frozen? ⟨w.heap.size, i, none⟩ = false) ∧ ((w.drewN n).alloc buf32).heap.size = w.heap.size + 1 ∧ Below base w ((w.drewN n).alloc buf32) := by
  have b : Below w.heap.size w ((w.drewN n).alloc buf32) := ((Below.refl _ _).trans ⟨rfl, rfl, rfl, Nat.le_refl _, fun _ _ => rfl⟩ : Below w.heap.size w (w.drewN n)).alloc (Nat.le_refl _) _
  refine ⟨hG.below b, own_below ho b, fun i hi => ?_, by simp, b.mono hb⟩
  have e : (w.drewN n).heap.size = w.heap.size := rfl
  refine ⟨?_, ?_⟩
  · rw [World.cell?_alloc_at _ _ _ _ e.symm]
    exact buf32_at i hi
  · simp [World.frozen?, World.alloc]

theorem short_half (W0 : World) (hG0 : Ground W0) :
    Calls Tryz.prog 73 #[.int .u64 13835058055282163712, .int .i64 (-63)] W0 fun r w' => r = .returned (.tuple #[.int .u64 1500000000000000, .int .i64 (-15)]) ∧ Below W0.heap.size W0 w' := by
  have hrow := hG0.c9 364 10240000000000000000 0 (by decide +kernel)
  have h := short_b 13835058055282163712 (-63) 16 53 13835058055282162688 13835058055282164736 10240000000000000000 0 7 59999999999999995 60000000000000005 60000000000000000 0 59999999999999995 60000000000000005 14999999999999999 15000000000000001 1500000000000000 W0 (by decide) (by decide) (by decide) (hid (by decide +kernel)) (by decide) (by decide) (hid (by decide +kernel)) (by decide) (by decide) (by decide) (by decide)
    (hid (by decide +kernel)) (hid (by decide +kernel)) (by decide) (by decide) (hid (by decide +kernel)) (by decide) (by decide) (by decide +kernel) (by decide +kernel) (by decide +kernel) (hid (by decide +kernel)) (hid (by decide +kernel)) (by decide) (by decide) (by decide)
    (hid (by decide +kernel)) (hid (by decide +kernel)) (hid (by decide +kernel)) (hid (by decide +kernel)) (hid (by decide +kernel)) (by have := hG0.size; omega) hrow.1 hrow.2 1500000000000000 (-15) (.inl ⟨by decide, rfl, by decide⟩)
  simp only [Int.cast_ofNat_Int] at h
  exact h

theorem nd_half (W : World) (h : Ground W) : Calls Tryz.prog 49 #[.int .u64 1500000000000000] W fun e w' => e = .returned (.int .i64 16) ∧ w' = W := by
  have h1 := Any.internal_strconv_numDigits Tryz.laysNumDigits 1500000000000000 (by decide) (by decide) W h.tab
  rw [Lib.nDigits_unique 15 1500000000000000 (by decide +kernel) (by decide +kernel)] at h1
  simp only [Int.cast_ofNat_Int, Nat.reduceAdd] at h1
  exact h1

theorem sd_half (Bf : Nat) (W : World) (hz : ∀ i, i < 32 → W.cell? ⟨Bf, i, none⟩ = some (.int .u8 0) ∧ W.frozen? ⟨Bf, i, none⟩ = false) :
    Calls Tryz.prog 67 #[.slice (some ⟨Bf, 0, none⟩) 32 32, .int .u64 1500000000000000, .int .i64 (-15), .int .i64 16] W fun e w' => e = .returned (.tuple #[.int .i64 1, .int .i64 2]) ∧ W.grownBy w' (some Bf) ∧ ∀ i c, [49, 53][i]? = some c → w'.cell? ⟨Bf, i, none⟩ = some (.int .u8 c) := by
  have h1 := set_any Bf 1500000000000000 16 2 (-15) W (fun i hi => hz i (by omega)) (by decide) (by decide) (by decide) (by decide +kernel) (by decide) (by decide) (by decide) (by decide +kernel)
    (fun j h1 h2 => (show ∀ j : Fin 16, 2 ≤ j.val → dgi 1500000000000000 16 j.val = 48 by decide +kernel) ⟨j, h2⟩ h1)
  simp only [Int.cast_ofNat_Int, Int.reduceAdd] at h1
  refine h1.mono ?_
  rintro e w' ⟨he, hg, hc⟩
  refine ⟨he, hg, fun i c hi => ?_⟩
  have hlt : i < 2 := by
    have := (List.getElem?_eq_some_iff.1 hi).1
    simpa using this
  rw [hc i (by omega)]
  have key : ∀ j : Fin 2, ([49, 53] : List Int)[j.val]? = some (dgi 1500000000000000 16 j.val) := by decide +kernel
  rw [key ⟨i, hlt⟩] at hi
  injection hi with hi
  rw [hi]

set_option maxRecDepth 40000 in
set_option maxHeartbeats 400000 in
theorem ftoa_half (base : Nat) (w : World) (v : Value) (hG : Ground w) (ho : w.ownsRow base 5 1 v 0 []) (hb : base ≤ w.heap.size) :
    Calls Tryz.prog 47 #[v, .float .f64 4609434218613702656, .int .u8 101, .int .i64 (-1)] w fun e w' => ∃ v', e = .returned v' ∧ w'.ownsRow base 5 1 v' 7 (u8s [49, 46, 53, 101, 43, 48, 48]) ∧ Below base w w' := by
  have ba : bits .and .u64 4609434218613702656 4503599627370495 = 2251799813685248 := by decide
  have bx : bits .and .i64 1023 2047 = 1023 := by decide
  have bo : bits .or .u64 2251799813685248 4503599627370496 = 6755399441055744 := by decide
  go_enter Tryz.func47, Tryz.ntmps47
  go_wp2_with fail
  go_quiet (fail)
  go_wp2_with fail
  obtain ⟨hG0, ho0, hz0, hs0, hb0⟩ := made base w v nq hG ho hb
  have hl := fun W => len64_any 6755399441055744 53 (by decide) (hid (by decide +kernel)) W
  simp only [Int.cast_ofNat_Int] at hl
  refine (hl _).mono ?_
  rintro e w' ⟨rfl, hw'⟩; rw [hw']; clear hw' w'
  generalize (w.drewN nq).alloc buf32 = W0 at hG0 ho0 hz0 hs0 hb0 ⊢
  go_wp2_with fail
  refine (short_half W0 hG0).mono ?_
  rintro e W1 ⟨rfl, hB1⟩
  have hG1 := hG0.below hB1
  have ho1 := own_below ho0 hB1
  go_wp2_with fail
  have bf1 : w.heap.size < W1.heap.size := by have := hB1.size; omega
  have hB1d : Below W1.heap.size W1 W1.drew := (Below.refl _ _).drew
  have hG1d := hG1.below hB1d
  have hz1 : ∀ i, i < 32 → W1.drew.cell? ⟨w.heap.size, i, none⟩ = some (.int .u8 0) ∧ W1.drew.frozen? ⟨w.heap.size, i, none⟩ = false := fun i hi => by
    have := hz0 i hi
    have e1 : W1.cell? ⟨w.heap.size, i, none⟩ = _ := hB1.cell (show w.heap.size < W0.heap.size by omega)
    have e2 : W1.frozen? ⟨w.heap.size, i, none⟩ = _ := hB1.frozen (show w.heap.size < W0.heap.size by omega)
    exact ⟨e1.trans this.1, e2.trans this.2⟩
  have hne : v.ownBlock ≠ some w.heap.size := fun e => by have := (ho.lt _ e).2; omega
  go_region_with (first
    | (go_at_call 49; refine (nd_half _ hG1d).mono ?_; rintro e w' ⟨rfl, rfl⟩)
    | (go_at_call 67; refine (sd_half w.heap.size _ hz1).mono ?_; rintro e W2 ⟨rfl, hg2, hc2⟩))
  go_wp2_with fail
  have hb1 : Below base w W1.drew := (hb0.trans (hB1.mono (by omega))).drew
  have hT : Two base w W2 v [] w.heap.size (49 :: [53]) := by
    refine ⟨(show W1.drew.ownsRow base 5 1 v 0 [] from ho1).kept hg2 (.inr hne), hc2, hne, Nat.lt_of_lt_of_le bf1 hg2.size, hb1.grown hg2 (Nat.le_trans hb (Nat.le_of_lt bf1)) (fun k hk => by injection hk with hk; omega), Nat.le_trans (Nat.le_trans hb (Nat.le_of_lt bf1)) hg2.size⟩
  have hE := efg_pos base w W2 v w.heap.size 49 [53] 1 0 43 2 hT (hid (by decide)) (by decide) (by decide) (.inr ⟨by decide, by decide, by decide⟩) (by decide) (by decide) (by decide)
  simp only [Int.cast_ofNat_Int, Int.reduceSub, Int.reduceAdd, List.cons_append, List.nil_append] at hE
  refine hE.mono ?_
  rintro e W3 ⟨v', rfl, hT3⟩
  go_wp2_with fail
  go_ret
  exact ⟨v', rfl, by simpa using hT3.own, hT3.bel⟩

theorem short_third (W0 : World) (hG0 : Ground W0) :
    Calls Tryz.prog 73 #[.int .u64 12297829382473033728, .int .i64 (-65)] W0 fun r w' => r = .returned (.tuple #[.int .u64 3333333333333333, .int .i64 (-16)]) ∧ Below W0.heap.size W0 w' := by
  have hrow := hG0.c9 365 12800000000000000000 0 (by decide +kernel)
  have h := short_b 12297829382473033728 (-65) 17 56 12297829382473032704 12297829382473034752 12800000000000000000 0 6 133333333333333315 133333333333333337 133333333333333325 1 133333333333333316 133333333333333336 33333333333333329 33333333333333334 3333333333333333 W0 (by decide) (by decide) (by decide) (hid (by decide +kernel)) (by decide) (by decide) (hid (by decide +kernel)) (by decide) (by decide) (by decide) (by decide)
    (hid (by decide +kernel)) (hid (by decide +kernel)) (by decide) (by decide) (hid (by decide +kernel)) (by decide) (by decide) (by decide +kernel) (by decide +kernel) (by decide +kernel) (hid (by decide +kernel)) (hid (by decide +kernel)) (by decide) (by decide) (by decide)
    (hid (by decide +kernel)) (hid (by decide +kernel)) (hid (by decide +kernel)) (hid (by decide +kernel)) (hid (by decide +kernel)) (by have := hG0.size; omega) hrow.1 hrow.2 3333333333333333 (-16) (.inl ⟨by decide, rfl, by decide⟩)
  simp only [Int.cast_ofNat_Int] at h
  exact h

theorem nd_third (W : World) (h : Ground W) : Calls Tryz.prog 49 #[.int .u64 3333333333333333] W fun e w' => e = .returned (.int .i64 16) ∧ w' = W := by
  have h1 := Any.internal_strconv_numDigits Tryz.laysNumDigits 3333333333333333 (by decide) (by decide) W h.tab
  rw [Lib.nDigits_unique 15 3333333333333333 (by decide +kernel) (by decide +kernel)] at h1
  simp only [Int.cast_ofNat_Int, Nat.reduceAdd] at h1
  exact h1

theorem sd_third (Bf : Nat) (W : World) (hz : ∀ i, i < 32 → W.cell? ⟨Bf, i, none⟩ = some (.int .u8 0) ∧ W.frozen? ⟨Bf, i, none⟩ = false) :
    Calls Tryz.prog 67 #[.slice (some ⟨Bf, 0, none⟩) 32 32, .int .u64 3333333333333333, .int .i64 (-16), .int .i64 16] W fun e w' => e = .returned (.tuple #[.int .i64 0, .int .i64 16]) ∧ W.grownBy w' (some Bf) ∧ ∀ i c, [51, 51, 51, 51, 51, 51, 51, 51, 51, 51, 51, 51, 51, 51, 51, 51][i]? = some c → w'.cell? ⟨Bf, i, none⟩ = some (.int .u8 c) := by
  have h1 := set_any Bf 3333333333333333 16 16 (-16) W (fun i hi => hz i (by omega)) (by decide) (by decide) (by decide) (by decide +kernel) (by decide) (by decide) (by decide) (by decide +kernel)
    (fun j h1 h2 => (show ∀ j : Fin 16, 16 ≤ j.val → dgi 3333333333333333 16 j.val = 48 by decide +kernel) ⟨j, h2⟩ h1)
  simp only [Int.cast_ofNat_Int, Int.reduceAdd] at h1
  refine h1.mono ?_
  rintro e w' ⟨he, hg, hc⟩
  refine ⟨he, hg, fun i c hi => ?_⟩
  have hlt : i < 16 := by
    have := (List.getElem?_eq_some_iff.1 hi).1
    simpa using this
  rw [hc i (by omega)]
  have key : ∀ j : Fin 16, ([51, 51, 51, 51, 51, 51, 51, 51, 51, 51, 51, 51, 51, 51, 51, 51] : List Int)[j.val]? = some (dgi 3333333333333333 16 j.val) := by decide +kernel
  rw [key ⟨i, hlt⟩] at hi
  injection hi with hi
  rw [hi]

set_option maxRecDepth 40000 in
set_option maxHeartbeats 400000 in
theorem ftoa_third (base : Nat) (w : World) (v : Value) (hG : Ground w) (ho : w.ownsRow base 5 1 v 0 []) (hb : base ≤ w.heap.size) :
    Calls Tryz.prog 47 #[v, .float .f64 4599676419421066581, .int .u8 101, .int .i64 (-1)] w fun e w' => ∃ v', e = .returned v' ∧ w'.ownsRow base 5 1 v' 21 (u8s [51, 46, 51, 51, 51, 51, 51, 51, 51, 51, 51, 51, 51, 51, 51, 51, 51, 101, 45, 48, 49]) ∧ Below base w w' := by
  have ba : bits .and .u64 4599676419421066581 4503599627370495 = 1501199875790165 := by decide
  have bx : bits .and .i64 1021 2047 = 1021 := by decide
  have bo : bits .or .u64 1501199875790165 4503599627370496 = 6004799503160661 := by decide
  go_enter Tryz.func47, Tryz.ntmps47
  go_wp2_with fail
  go_quiet (fail)
  go_wp2_with fail
  obtain ⟨hG0, ho0, hz0, hs0, hb0⟩ := made base w v nq hG ho hb
  have hl := fun W => len64_any 6004799503160661 53 (by decide) (hid (by decide +kernel)) W
  simp only [Int.cast_ofNat_Int] at hl
  refine (hl _).mono ?_
  rintro e w' ⟨rfl, hw'⟩; rw [hw']; clear hw' w'
  generalize (w.drewN nq).alloc buf32 = W0 at hG0 ho0 hz0 hs0 hb0 ⊢
  go_wp2_with fail
  refine (short_third W0 hG0).mono ?_
  rintro e W1 ⟨rfl, hB1⟩
  have hG1 := hG0.below hB1
  have ho1 := own_below ho0 hB1
  go_wp2_with fail
  have bf1 : w.heap.size < W1.heap.size := by have := hB1.size; omega
  have hB1d : Below W1.heap.size W1 W1.drew := (Below.refl _ _).drew
  have hG1d := hG1.below hB1d
  have hz1 : ∀ i, i < 32 → W1.drew.cell? ⟨w.heap.size, i, none⟩ = some (.int .u8 0) ∧ W1.drew.frozen? ⟨w.heap.size, i, none⟩ = false := fun i hi => by
    have := hz0 i hi
    have e1 : W1.cell? ⟨w.heap.size, i, none⟩ = _ := hB1.cell (show w.heap.size < W0.heap.size by omega)
    have e2 : W1.frozen? ⟨w.heap.size, i, none⟩ = _ := hB1.frozen (show w.heap.size < W0.heap.size by omega)
    exact ⟨e1.trans this.1, e2.trans this.2⟩
  have hne : v.ownBlock ≠ some w.heap.size := fun e => by have := (ho.lt _ e).2; omega
  go_region_with (first
    | (go_at_call 49; refine (nd_third _ hG1d).mono ?_; rintro e w' ⟨rfl, rfl⟩)
    | (go_at_call 67; refine (sd_third w.heap.size _ hz1).mono ?_; rintro e W2 ⟨rfl, hg2, hc2⟩))
  go_wp2_with fail
  have hb1 : Below base w W1.drew := (hb0.trans (hB1.mono (by omega))).drew
  have hT : Two base w W2 v [] w.heap.size (51 :: [51, 51, 51, 51, 51, 51, 51, 51, 51, 51, 51, 51, 51, 51, 51]) := by
    refine ⟨(show W1.drew.ownsRow base 5 1 v 0 [] from ho1).kept hg2 (.inr hne), hc2, hne, Nat.lt_of_lt_of_le bf1 hg2.size, hb1.grown hg2 (Nat.le_trans hb (Nat.le_of_lt bf1)) (fun k hk => by injection hk with hk; omega), Nat.le_trans (Nat.le_trans hb (Nat.le_of_lt bf1)) hg2.size⟩
  have hE := efg_pos base w W2 v w.heap.size 51 [51, 51, 51, 51, 51, 51, 51, 51, 51, 51, 51, 51, 51, 51, 51] 0 1 45 16 hT (hid (by decide)) (by decide) (by decide) (.inl ⟨by decide, by decide, by decide⟩) (by decide) (by decide) (by decide)
  simp only [Int.cast_ofNat_Int, Int.reduceSub, Int.reduceAdd, List.cons_append, List.nil_append] at hE
  refine hE.mono ?_
  rintro e W3 ⟨v', rfl, hT3⟩
  go_wp2_with fail
  go_ret
  exact ⟨v', rfl, by simpa using hT3.own, hT3.bel⟩

end Go.Proofs.YtmeimofnmpmaoaaGreatDoor
