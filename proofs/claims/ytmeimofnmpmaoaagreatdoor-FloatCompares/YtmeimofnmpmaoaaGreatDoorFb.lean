/- For every value, whether it may be, and its bits, are the document's: those of the nearest double: FloatBits returns true, and its argument reads as before. Conditions: the listed package variables start as the program's text lays them (the card ties them). -/
import Derived.Test.YtmeimofnmpmaoaaGreatDoorRows
import Derived.Test.YtmeimofnmpmaoaaGreatDoorCards
import Derived.Test.YtmeimofnmpmaoaaGreatDoorTie
import Derived.Test.YtmeimofnmpmaoaaGreatDoorBe
import Derived.Test.YtmeimofnmpmaoaaGreatDoorRy
import Derived.WalkKit
import Derived.ProofKit
import Derived.OpenShut
import Derived.Lay
import Derived.LaidOnce
import Derived.SevenTiedAt
namespace Go.Proofs.YtmeimofnmpmaoaaGreatDoor
open Go.ChangeShapes Go.WideShapes Go.ChangeAt Go.RowKit Go.Lib Go.Shelf Fl Rg

abbrev ce (M E S : Int) : Obj := .cells #[.int .i64 M, .int .i64 E, .int .i64 S] 23
theorem ce_at {w w' : World} {M E S : Int} (h : Below (w.heap.size + 1) (w.alloc (ce M E S)) w') : w'.cell? ⟨w.heap.size, 0, none⟩ = some (.int .i64 M) ∧ w'.cell? ⟨w.heap.size, 1, none⟩ = some (.int .i64 E) ∧ w'.cell? ⟨w.heap.size, 2, none⟩ = some (.int .i64 S) := by
  rw [h.cell (p := ⟨w.heap.size, 0, none⟩) (by simp), h.cell (p := ⟨w.heap.size, 1, none⟩) (by simp), h.cell (p := ⟨w.heap.size, 2, none⟩) (by simp)]
  simp

/-- Both Bits tell the same. -/
theorem bits_both (q : Nat) (hq : 300 ≤ q) (M E S : Int) (w0 : World) (hG0 : Ground w0) : ∃ (x : Nat) (e : Int),
    (∀ w, Ground w → Calls Tryz.prog 10 #[val M E S] w fun r w' => r = .returned (.tuple #[.int .u64 (x : Int), .int .i64 e]) ∧ Below w.heap.size w w') ∧
    (∀ w, Calls Tryz.prog 11 #[val M E S] w fun r w' => r = .returned (.tuple #[.int .u64 (x : Int), .int .i64 e]) ∧ Below w.heap.size w w') := by
  cases hm : mayBe M E S with
  | true =>
    obtain ⟨x, _, h2, h3⟩ := bits_all q hq M E S hm w0 hG0
    exact ⟨x, 0, h2, fun w => refbits_is q hq M E S hm x h3 w⟩
  | false => exact ⟨0, 20, fun w _ => bits_not M E S hm w, fun w => refbits_not M E S hm w⟩

set_option linter.unusedSimpArgs false in
set_option maxRecDepth 20000 in
set_option maxHeartbeats 4000000 in
theorem bits_walk (M E S : Int) (w : World) (hG : Ground w) :
    Calls Tryz.prog 3 #[val M E S] w fun r w' => r = .returned (.bool true) ∧ Below w.heap.size w w' := by
  have HQ : Hid (∃ q : Nat, 300 ≤ q) := ⟨300, Nat.le_refl _⟩
  obtain ⟨q, hq⟩ := HQ.out
  obtain ⟨b, hmb⟩ : ∃ b, Hid (b = mayBe M E S) := ⟨_, rfl⟩
  have A1 : Below w.heap.size w (w.alloc (ce M E S)) := (Below.refl _ _).alloc (Nat.le_refl _) _
  have HA : Hid _ := A1
  have HGa : Hid (Ground (w.alloc (ce M E S))) := hG.below A1
  clear A1
  go_enter Tryz.func3, Tryz.ntmps3
  go_wp2_with fail
  refine (awake_any _ HGa.out).mono ?_
  rintro r w1 ⟨rfl, b1⟩
  have s1 := b1.size
  simp only [World.size_alloc] at s1
  have d1 : Hid (Below (w.heap.size + 1) (w.alloc (ce M E S)) w1) := b1.mono (by simp)
  have B1 : Hid (Below w.heap.size w w1) := HA.out.trans (b1.mono (by simp))
  have G1 : Hid (Ground w1) := hG.below B1.out
  obtain ⟨x, e, cx, cy⟩ := bits_both q hq M E S w1 G1.out
  have CX : Hid _ := cx
  have CY : Hid _ := cy
  clear b1 HGa HA cx cy
  obtain ⟨x0, x1, x2⟩ := ce_at d1.out
  go_wp2_with fail
  refine (CX.out _ G1.out).mono ?_
  rintro r w2 ⟨rfl, b2⟩
  have s2 := b2.size
  have D1 : Hid (Below (w.heap.size + 1) (w.alloc (ce M E S)) w2) := d1.out.trans (b2.mono (by omega))
  have B2 : Hid (Below w.heap.size w w2) := B1.out.trans (b2.mono (by omega))
  clear x0 x1 x2 b2 d1
  obtain ⟨x0, x1, x2⟩ := ce_at D1.out
  go_wp2_with fail
  refine (CY.out _).mono ?_
  rintro r w3 ⟨rfl, b3⟩
  have s3 := b3.size
  have d1 : Hid (Below (w.heap.size + 1) (w.alloc (ce M E S)) w3) := D1.out.trans (b3.mono (by omega))
  have B3 : Hid (Below w.heap.size w w3) := B2.out.trans (b3.mono (by omega))
  clear x0 x1 x2 b3 D1 CX CY
  obtain ⟨x0, x1, x2⟩ := ce_at d1.out
  have z0 : w.heap.size < w3.heap.size := by omega
  go_wp2_with fail
  refine wp_region_K (by kernel_rfl) (by kernel_rfl) [.eq (val M E S), .eq (.bool b), .eq (val M E S), .eq (.bool b), .eq (.bool true), .eq (.bool true), .eq (.int .i64 e), .eq (.int .i64 e), .eq (.bool true), .eq (.bool true), .eq (.bool true), .eq (.int .u64 (x : Int)), .eq (.int .u64 (x : Int)), .eq (.bool true), .eq (.bool true), .eq (.bool true)] w3 (Below.refl _ _) (allOps_cons ?_ (allOps_cons ?_ (allOps_cons ?_ (allOps_cons ?_ (allOps_cons ?_ (allOps_cons ?_ (allOps_cons ?_ (allOps_cons ?_ (allOps_cons ?_ (allOps_cons ?_ (allOps_cons ?_ (allOps_cons ?_ (allOps_cons ?_ (allOps_cons ?_ (allOps_cons ?_ (allOps_cons ?_ allOps_nil)))))))))))))))) ?_
  · intro a wx hS hb hf
    have s1 : a.eval (.tmp 1) = .pointer (some ⟨w.heap.size, 0, none⟩) := (hf 1 (by kernel_rfl)).trans rfl
    rw [if_pos (wanted_none rfl)]
    have c0 := (hS.cell (p := ⟨w.heap.size, 0, none⟩) z0).trans x0
    have c1 := (hS.cell (p := ⟨w.heap.size, 1, none⟩) z0).trans x1
    have c2 := (hS.cell (p := ⟨w.heap.size, 2, none⟩) z0).trans x2
    refine does_val (v := val M E S) (w' := wx) ?_ ⟨rfl, Below.refl _ _⟩
    have t1 := (ev_tmp a 1).symm.trans s1
    simp [execOp, go_sem, t1, c0, c1, c2]
  · intro a wx hS hb hf
    have s21 : a.eval (.tmp 21) = val M E S := slot hb 0 0 21 rfl rfl
    rw [if_pos (wanted_none rfl)]
    have t21 := (ev_tmp a 21).symm.trans s21
    refine does_call (f := 12) (args := #[val M E S]) (w' := wx) (by simp [execOp, resolve, invoke, go_sem, t21]) ?_
    refine (right_any M E S b hmb wx).mono ?_
    rintro r w' ⟨rfl, hw'⟩; rw [hw']
    exact ⟨_, rfl, rfl, (Below.refl _ _).alloc (Nat.le_refl _) _⟩
  · intro a wx hS hb hf
    have s1 : a.eval (.tmp 1) = .pointer (some ⟨w.heap.size, 0, none⟩) := (hf 1 (by kernel_rfl)).trans rfl
    rw [if_pos (wanted_none rfl)]
    have c0 := (hS.cell (p := ⟨w.heap.size, 0, none⟩) z0).trans x0
    have c1 := (hS.cell (p := ⟨w.heap.size, 1, none⟩) z0).trans x1
    have c2 := (hS.cell (p := ⟨w.heap.size, 2, none⟩) z0).trans x2
    refine does_val (v := val M E S) (w' := wx) ?_ ⟨rfl, Below.refl _ _⟩
    have t1 := (ev_tmp a 1).symm.trans s1
    simp [execOp, go_sem, t1, c0, c1, c2]
  · intro a wx hS hb hf
    have s23 : a.eval (.tmp 23) = val M E S := slot hb 0 2 23 rfl rfl
    rw [if_pos (wanted_none rfl)]
    have t23 := (ev_tmp a 23).symm.trans s23
    refine does_call (f := 13) (args := #[val M E S]) (w' := wx) (by simp [execOp, resolve, invoke, go_sem, t23]) ?_
    refine (refright_any M E S b hmb wx).mono ?_
    rintro r w' ⟨rfl, hw'⟩; rw [hw']
    exact ⟨_, rfl, rfl, (Below.refl _ _).alloc (Nat.le_refl _) _⟩
  · intro a wx hS hb hf
    have s22 : a.eval (.tmp 22) = .bool b := slot hb 0 1 22 rfl rfl
    have s24 : a.eval (.tmp 24) = .bool b := slot hb 1 3 24 rfl rfl
    rw [if_pos (wanted_none rfl)]
    refine does_val (v := .bool true) (w' := wx) ?_ ⟨rfl, Below.refl _ _⟩
    have t22 := (ev_tmp a 22).symm.trans s22
    have t24 := (ev_tmp a 24).symm.trans s24
    simp [execOp, go_sem, t22, t24]
  · intro a wx hS hb hf
    have s25 : a.eval (.tmp 25) = .bool true := slot hb 0 4 25 rfl rfl
    rw [if_pos (wanted_none rfl)]
    refine does_val (v := .bool true) (w' := wx) ?_ ⟨rfl, Below.refl _ _⟩
    have t25 := (ev_tmp a 25).symm.trans s25
    simp [execOp, go_sem, t25]
  · intro a wx hS hb hf
    have s5 : a.eval (.tmp 5) = .int .i64 e := (hf 5 (by kernel_rfl)).trans rfl
    have s26 : a.eval (.tmp 26) = .bool true := slot hb 0 5 26 rfl rfl
    rw [if_pos (wanted_of (g := 5) (d := 26) (b := true) rfl rfl s26)]
    refine does_val (v := .int .i64 e) (w' := wx) ?_ ⟨rfl, Below.refl _ _⟩
    have t5 := (ev_tmp a 5).symm.trans s5
    simp [execOp, go_sem, t5]
  · intro a wx hS hb hf
    have s7 : a.eval (.tmp 7) = .int .i64 e := (hf 7 (by kernel_rfl)).trans rfl
    have s26 : a.eval (.tmp 26) = .bool true := slot hb 0 5 26 rfl rfl
    rw [if_pos (wanted_of (g := 5) (d := 26) (b := true) rfl rfl s26)]
    refine does_val (v := .int .i64 e) (w' := wx) ?_ ⟨rfl, Below.refl _ _⟩
    have t7 := (ev_tmp a 7).symm.trans s7
    simp [execOp, go_sem, t7]
  · intro a wx hS hb hf
    have s27 : a.eval (.tmp 27) = .int .i64 e := slot hb 0 6 27 rfl rfl
    have s28 : a.eval (.tmp 28) = .int .i64 e := slot hb 1 7 28 rfl rfl
    have s26 : a.eval (.tmp 26) = .bool true := slot hb 2 5 26 rfl rfl
    rw [if_pos (wanted_of (g := 5) (d := 26) (b := true) rfl rfl s26)]
    refine does_val (v := .bool true) (w' := wx) ?_ ⟨rfl, Below.refl _ _⟩
    have t27 := (ev_tmp a 27).symm.trans s27
    have t28 := (ev_tmp a 28).symm.trans s28
    simp [execOp, go_sem, t27, t28]
  · intro a wx hS hb hf
    have s26 : a.eval (.tmp 26) = .bool true := slot hb 0 5 26 rfl rfl
    have s29 : a.eval (.tmp 29) = .bool true := slot hb 1 8 29 rfl rfl
    rw [if_pos (wanted_none rfl)]
    refine does_val (v := .bool true) (w' := wx) ?_ ⟨rfl, Below.refl _ _⟩
    have t26 := (ev_tmp a 26).symm.trans s26
    have t29 := (ev_tmp a 29).symm.trans s29
    simp [execOp, go_sem, t26, t29]
  · intro a wx hS hb hf
    have s30 : a.eval (.tmp 30) = .bool true := slot hb 0 9 30 rfl rfl
    rw [if_pos (wanted_none rfl)]
    refine does_val (v := .bool true) (w' := wx) ?_ ⟨rfl, Below.refl _ _⟩
    have t30 := (ev_tmp a 30).symm.trans s30
    simp [execOp, go_sem, t30]
  · intro a wx hS hb hf
    have s4 : a.eval (.tmp 4) = .int .u64 (x : Int) := (hf 4 (by kernel_rfl)).trans rfl
    have s31 : a.eval (.tmp 31) = .bool true := slot hb 0 10 31 rfl rfl
    rw [if_pos (wanted_of (g := 10) (d := 31) (b := true) rfl rfl s31)]
    refine does_val (v := .int .u64 (x : Int)) (w' := wx) ?_ ⟨rfl, Below.refl _ _⟩
    have t4 := (ev_tmp a 4).symm.trans s4
    simp [execOp, go_sem, t4]
  · intro a wx hS hb hf
    have s6 : a.eval (.tmp 6) = .int .u64 (x : Int) := (hf 6 (by kernel_rfl)).trans rfl
    have s31 : a.eval (.tmp 31) = .bool true := slot hb 0 10 31 rfl rfl
    rw [if_pos (wanted_of (g := 10) (d := 31) (b := true) rfl rfl s31)]
    refine does_val (v := .int .u64 (x : Int)) (w' := wx) ?_ ⟨rfl, Below.refl _ _⟩
    have t6 := (ev_tmp a 6).symm.trans s6
    simp [execOp, go_sem, t6]
  · intro a wx hS hb hf
    have s32 : a.eval (.tmp 32) = .int .u64 (x : Int) := slot hb 0 11 32 rfl rfl
    have s33 : a.eval (.tmp 33) = .int .u64 (x : Int) := slot hb 1 12 33 rfl rfl
    have s31 : a.eval (.tmp 31) = .bool true := slot hb 2 10 31 rfl rfl
    rw [if_pos (wanted_of (g := 10) (d := 31) (b := true) rfl rfl s31)]
    refine does_val (v := .bool true) (w' := wx) ?_ ⟨rfl, Below.refl _ _⟩
    have t32 := (ev_tmp a 32).symm.trans s32
    have t33 := (ev_tmp a 33).symm.trans s33
    simp [execOp, go_sem, t32, t33]
  · intro a wx hS hb hf
    have s31 : a.eval (.tmp 31) = .bool true := slot hb 0 10 31 rfl rfl
    have s34 : a.eval (.tmp 34) = .bool true := slot hb 1 13 34 rfl rfl
    rw [if_pos (wanted_none rfl)]
    refine does_val (v := .bool true) (w' := wx) ?_ ⟨rfl, Below.refl _ _⟩
    have t31 := (ev_tmp a 31).symm.trans s31
    have t34 := (ev_tmp a 34).symm.trans s34
    simp [execOp, go_sem, t31, t34]
  · intro a wx hS hb hf
    have s35 : a.eval (.tmp 35) = .bool true := slot hb 0 14 35 rfl rfl
    rw [if_pos (wanted_none rfl)]
    refine does_val (v := .bool true) (w' := wx) ?_ ⟨rfl, Below.refl _ _⟩
    have t35 := (ev_tmp a 35).symm.trans s35
    simp [execOp, go_sem, t35]
  rename_i hK
  intro a w' hb3 _ hdef hdone _
  refine hK _ _ (ret_K rfl hdef (done_slot hdone 15 2 rfl) ⟨rfl, B3.out.trans (hb3.mono B3.out.size)⟩)
end Go.Proofs.YtmeimofnmpmaoaaGreatDoor
