/- For every two values, which of them has the greater bits is the document's: FloatCompares returns true, and its arguments read as before. Conditions: the listed package variables start as the program's text lays them (the card ties them). -/
import Derived.Test.YtmeimofnmpmaoaaGreatDoorFb
namespace Go.Proofs.YtmeimofnmpmaoaaGreatDoor
open Go.ChangeShapes Go.WideShapes Go.ChangeAt Go.RowKit Go.Lib Go.Shelf Fl Rg

def cmpv (x y : Nat) : Int := if x < y then -1 else if y < x then 1 else 0
theorem cmpv_neg (x y : Nat) : cmpv y x = -cmpv x y := by
  unfold cmpv
  rcases Nat.lt_trichotomy x y with h | h | h
  · rw [if_neg (by omega), if_pos h, if_pos h]; rfl
  · subst h; simp
  · rw [if_pos h, if_neg (by omega), if_pos h]
theorem cmpv_bd (x y : Nat) : -1 ≤ cmpv x y ∧ cmpv x y ≤ 1 := by
  unfold cmpv; split
  · decide
  · split <;> decide
theorem nan_any (x : Int) (w : World) : Calls Tryz.prog 37 #[.int .u64 x] w fun e w' => e = .returned (.bool false) ∧ w' = w := by
  go_enter Tryz.func37, Tryz.ntmps37
  go_wp2
  go_ret
  exact ⟨by simp, rfl⟩
theorem cmp_any (x y : Nat) (w : World) : Calls Tryz.prog 25 #[.int .u64 (x : Int), .int .u64 (y : Int)] w fun e w' => e = .returned (.int .i64 (cmpv x y)) ∧ w' = w := by
  rcases Nat.lt_trichotomy x y with h | h | h
  · have e : cmpv x y = -1 := by unfold cmpv; rw [if_pos h]
    rw [e]
    have h' : (x : Int) < (y : Int) := by omega
    go_enter Tryz.func25, Tryz.ntmps25
    go_wp2_with (go_at_call 37; refine (nan_any _ _).mono ?_; rintro e w' ⟨rfl, rfl⟩)
    go_ret
    exact ⟨rfl, rfl⟩
  · have e : cmpv x y = 0 := by unfold cmpv; rw [if_neg (by omega), if_neg (by omega)]
    rw [e]
    subst h
    go_enter Tryz.func25, Tryz.ntmps25
    go_wp2_with (go_at_call 37; refine (nan_any _ _).mono ?_; rintro e w' ⟨rfl, rfl⟩)
    go_ret
    exact ⟨rfl, rfl⟩
  · have e : cmpv x y = 1 := by unfold cmpv; rw [if_neg (by omega), if_pos h]
    rw [e]
    have h' : ¬ (x : Int) < (y : Int) := by omega
    have h'' : (y : Int) < (x : Int) := by omega
    go_enter Tryz.func25, Tryz.ntmps25
    go_wp2_with (go_at_call 37; refine (nan_any _ _).mono ?_; rintro e w' ⟨rfl, rfl⟩)
    go_ret
    exact ⟨rfl, rfl⟩

theorem ce_second {w w' : World} {M E S M' E' S' : Int} (h : Below (w.heap.size + 1 + 1) ((w.alloc (ce M E S)).alloc (ce M' E' S')) w') : w'.cell? ⟨w.heap.size + 1, 0, none⟩ = some (.int .i64 M') ∧ w'.cell? ⟨w.heap.size + 1, 1, none⟩ = some (.int .i64 E') ∧ w'.cell? ⟨w.heap.size + 1, 2, none⟩ = some (.int .i64 S') := by
  have := ce_at (w := w.alloc (ce M E S)) (w' := w') (M := M') (E := E') (S := S') (by simpa using h)
  simpa using this

theorem compare_any (M E S M' E' S' : Int) (x y : Nat) (e e' : Int)
    (cx : ∀ w, Ground w → Calls Tryz.prog 10 #[val M E S] w fun r w' => r = .returned (.tuple #[.int .u64 (x : Int), .int .i64 e]) ∧ Below w.heap.size w w')
    (cy : ∀ w, Ground w → Calls Tryz.prog 10 #[val M' E' S'] w fun r w' => r = .returned (.tuple #[.int .u64 (y : Int), .int .i64 e']) ∧ Below w.heap.size w w') (w : World) (hG : Ground w) :
    Calls Tryz.prog 17 #[val M E S, val M' E' S'] w fun r w' => r = .returned (.int .i64 (cmpv x y)) ∧ Below w.heap.size w w' := by
  have A1 : Below w.heap.size w ((w.alloc (ce M E S)).alloc (ce M' E' S')) := ((Below.refl _ _).alloc (Nat.le_refl _) _).alloc (by simp) _
  have HA : Hid (Below w.heap.size w ((w.alloc (ce M E S)).alloc (ce M' E' S'))) := A1
  have CX : Hid _ := cx
  have CY : Hid _ := cy
  clear A1 cx cy
  go_enter Tryz.func17, Tryz.ntmps17
  go_wp2_with fail
  refine (CX.out _ (hG.below HA.out)).mono ?_
  rintro r w2 ⟨rfl, b2⟩
  have s2 := b2.size
  simp only [World.size_alloc] at s2
  have d2 : Hid (Below (w.heap.size + 1 + 1) ((w.alloc (ce M E S)).alloc (ce M' E' S')) w2) := b2.mono (by simp)
  have B2 : Hid (Below w.heap.size w w2) := HA.out.trans (b2.mono (by simp; omega))
  clear b2
  obtain ⟨y0, y1, y2⟩ := ce_second d2.out
  go_wp2_with fail
  refine (CY.out _ (hG.below B2.out)).mono ?_
  rintro r w3 ⟨rfl, b3⟩
  go_wp2_with fail
  refine (cmp_any x y _).mono ?_
  rintro r w' ⟨rfl, hw'⟩; rw [hw']; clear hw' w'
  go_wp2_with fail
  go_ret
  exact ⟨rfl, B2.out.trans (b3.mono B2.out.size)⟩
theorem refcompare_any (M E S M' E' S' : Int) (x y : Nat) (e e' : Int)
    (cx : ∀ w, Calls Tryz.prog 11 #[val M E S] w fun r w' => r = .returned (.tuple #[.int .u64 (x : Int), .int .i64 e]) ∧ Below w.heap.size w w')
    (cy : ∀ w, Calls Tryz.prog 11 #[val M' E' S'] w fun r w' => r = .returned (.tuple #[.int .u64 (y : Int), .int .i64 e']) ∧ Below w.heap.size w w') (w : World) :
    Calls Tryz.prog 18 #[val M E S, val M' E' S'] w fun r w' => r = .returned (.int .i64 (cmpv x y)) ∧ Below w.heap.size w w' := by
  have HA : Hid (Below w.heap.size w ((w.alloc (ce M E S)).alloc (ce M' E' S'))) := ((Below.refl _ _).alloc (Nat.le_refl _) _).alloc (by simp) _
  have CX : Hid _ := cx
  have CY : Hid _ := cy
  clear cx cy
  go_enter Tryz.func18, Tryz.ntmps18
  go_wp2_with fail
  refine (CX.out _).mono ?_
  rintro r w2 ⟨rfl, b2⟩
  have s2 := b2.size
  simp only [World.size_alloc] at s2
  have d2 : Hid (Below (w.heap.size + 1 + 1) ((w.alloc (ce M E S)).alloc (ce M' E' S')) w2) := b2.mono (by simp)
  have B2 : Hid (Below w.heap.size w w2) := HA.out.trans (b2.mono (by simp; omega))
  clear b2
  obtain ⟨y0, y1, y2⟩ := ce_second d2.out
  go_wp2_with fail
  refine (CY.out _).mono ?_
  rintro r w3 ⟨rfl, b3⟩
  have B3 : Hid (Below w.heap.size w w3) := B2.out.trans (b3.mono B2.out.size)
  clear b3
  rcases Nat.lt_trichotomy x y with h | h | h
  · have ev : Hid (cmpv x y = -1) := by show _ = _; unfold cmpv; rw [if_pos h]
    have h' : (x : Int) < (y : Int) := by omega
    go_wp2_with fail
    go_ret
    exact ⟨by rw [ev.out]; rfl, B3.out⟩
  · have ev : Hid (cmpv x y = 0) := by show _ = _; unfold cmpv; rw [if_neg (by omega), if_neg (by omega)]
    subst h
    go_wp2_with fail
    go_ret
    exact ⟨by rw [ev.out]; rfl, B3.out⟩
  · have ev : Hid (cmpv x y = 1) := by show _ = _; unfold cmpv; rw [if_neg (by omega), if_pos h]
    have h' : ¬ (x : Int) < (y : Int) := by omega
    have h'' : (y : Int) < (x : Int) := by omega
    go_wp2_with fail
    go_ret
    exact ⟨by rw [ev.out]; rfl, B3.out⟩

set_option linter.unusedSimpArgs false in
set_option maxRecDepth 20000 in
set_option maxHeartbeats 4000000 in
theorem compares_walk (M E S M' E' S' : Int) (w : World) (hG : Ground w) :
    Calls Tryz.prog 6 #[val M E S, val M' E' S'] w fun r w' => r = .returned (.bool true) ∧ Below w.heap.size w w' := by
  have HQ : Hid (∃ q : Nat, 300 ≤ q) := ⟨300, Nat.le_refl _⟩
  obtain ⟨q, hq⟩ := HQ.out
  have HA : Hid (Below w.heap.size w ((w.alloc (ce M E S)).alloc (ce M' E' S'))) := ((Below.refl _ _).alloc (Nat.le_refl _) _).alloc (by simp) _
  have HGa : Hid (Ground ((w.alloc (ce M E S)).alloc (ce M' E' S'))) := hG.below HA.out
  go_enter Tryz.func6, Tryz.ntmps6
  go_wp2_with fail
  refine (awake_any _ HGa.out).mono ?_
  rintro r w1 ⟨rfl, b1⟩
  have s1 := b1.size
  simp only [World.size_alloc] at s1
  have a2 : Below (w.alloc (ce M E S)).heap.size (w.alloc (ce M E S)) ((w.alloc (ce M E S)).alloc (ce M' E' S')) := (Below.refl _ _).alloc (Nat.le_refl _) _
  have d1 : Hid (Below (w.heap.size + 1) (w.alloc (ce M E S)) w1) := (a2.mono (by simp)).trans (b1.mono (by simp))
  have d2 : Hid (Below (w.heap.size + 1 + 1) ((w.alloc (ce M E S)).alloc (ce M' E' S')) w1) := b1.mono (by simp)
  have B1 : Hid (Below w.heap.size w w1) := HA.out.trans (b1.mono (by simp; omega))
  have G1 : Hid (Ground w1) := hG.below B1.out
  obtain ⟨x, e, cx, rx⟩ := bits_both q hq M E S w1 G1.out
  obtain ⟨y, e', cy, ry⟩ := bits_both q hq M' E' S' w1 G1.out
  obtain ⟨c, hc⟩ : ∃ c, Hid (c = cmpv x y) := ⟨_, rfl⟩
  have HC1 : Hid (∀ wx, Ground wx → Calls Tryz.prog 17 #[val M E S, val M' E' S'] wx fun r w' => r = .returned (.int .i64 c) ∧ Below wx.heap.size wx w') := fun wx hg => by rw [hc.out]; exact compare_any M E S M' E' S' x y e e' cx cy wx hg
  have HC2 : Hid (∀ wx, Calls Tryz.prog 18 #[val M E S, val M' E' S'] wx fun r w' => r = .returned (.int .i64 c) ∧ Below wx.heap.size wx w') := fun wx => by rw [hc.out]; exact refcompare_any M E S M' E' S' x y e e' rx ry wx
  have HC3 : Hid (∀ wx, Ground wx → Calls Tryz.prog 17 #[val M' E' S', val M E S] wx fun r w' => r = .returned (.int .i64 (-c)) ∧ Below wx.heap.size wx w') := fun wx hg => by rw [hc.out, ← cmpv_neg]; exact compare_any M' E' S' M E S y x e' e cy cx wx hg
  have hcb : -1 ≤ c ∧ c ≤ 1 := by rw [hc.out]; exact cmpv_bd x y
  have hn1 : IntKind.i64.wrap (-c) = -c := by rw [IntKind.wrap_i64]; omega
  have hn2 : RowKit.wrap64 (-c) = -c := by unfold RowKit.wrap64; omega
  clear b1 HGa HA cx rx cy ry a2
  obtain ⟨x0, x1, x2⟩ := ce_at d1.out
  obtain ⟨y0, y1, y2⟩ := ce_second d2.out
  have z0 : w.heap.size < w1.heap.size := by omega
  have z1 : w.heap.size + 1 < w1.heap.size := by omega
  go_wp2_with fail
  refine wp_region_K (by kernel_rfl) (by kernel_rfl) [.eq (val M E S), .eq (val M' E' S'), .eq (.int .i64 c), .eq (val M E S), .eq (val M' E' S'), .eq (.int .i64 c), .eq (.bool true), .eq (.bool true), .eq (val M' E' S'), .eq (val M E S), .eq (.int .i64 (-c)), .eq (val M E S), .eq (val M' E' S'), .eq (.int .i64 c), .eq (.int .i64 (-c)), .eq (.bool true), .eq (.bool true), .eq (.bool true)] w1 (Below.refl _ _) (allOps_cons ?_ (allOps_cons ?_ (allOps_cons ?_ (allOps_cons ?_ (allOps_cons ?_ (allOps_cons ?_ (allOps_cons ?_ (allOps_cons ?_ (allOps_cons ?_ (allOps_cons ?_ (allOps_cons ?_ (allOps_cons ?_ (allOps_cons ?_ (allOps_cons ?_ (allOps_cons ?_ (allOps_cons ?_ (allOps_cons ?_ (allOps_cons ?_ allOps_nil)))))))))))))))))) ?_
  · intro a wx hS hb hf
    have s2 : a.eval (.tmp 2) = .pointer (some ⟨w.heap.size, 0, none⟩) := (hf 2 (by kernel_rfl)).trans rfl
    rw [if_pos (wanted_none rfl)]
    have c0 := (hS.cell (p := ⟨w.heap.size, 0, none⟩) z0).trans x0
    have c1 := (hS.cell (p := ⟨w.heap.size, 1, none⟩) z0).trans x1
    have c2 := (hS.cell (p := ⟨w.heap.size, 2, none⟩) z0).trans x2
    refine does_val (v := val M E S) (w' := wx) ?_ ⟨rfl, Below.refl _ _⟩
    have t2 := (ev_tmp a 2).symm.trans s2
    simp [execOp, go_sem, t2, c0, c1, c2]
  · intro a wx hS hb hf
    have s3 : a.eval (.tmp 3) = .pointer (some ⟨w.heap.size + 1, 0, none⟩) := (hf 3 (by kernel_rfl)).trans rfl
    rw [if_pos (wanted_none rfl)]
    have c0 := (hS.cell (p := ⟨w.heap.size + 1, 0, none⟩) z1).trans y0
    have c1 := (hS.cell (p := ⟨w.heap.size + 1, 1, none⟩) z1).trans y1
    have c2 := (hS.cell (p := ⟨w.heap.size + 1, 2, none⟩) z1).trans y2
    refine does_val (v := val M' E' S') (w' := wx) ?_ ⟨rfl, Below.refl _ _⟩
    have t3 := (ev_tmp a 3).symm.trans s3
    simp [execOp, go_sem, t3, c0, c1, c2]
  · intro a wx hS hb hf
    have s9 : a.eval (.tmp 9) = val M E S := slot hb 0 0 9 rfl rfl
    have s10 : a.eval (.tmp 10) = val M' E' S' := slot hb 1 1 10 rfl rfl
    rw [if_pos (wanted_none rfl)]
    have t9 := (ev_tmp a 9).symm.trans s9
    have t10 := (ev_tmp a 10).symm.trans s10
    refine does_call (f := 17) (args := #[val M E S, val M' E' S']) (w' := wx) (by simp [execOp, resolve, invoke, go_sem, t9, t10]) ?_
    refine (HC1.out wx (G1.out.below hS)).mono ?_
    rintro r w' ⟨rfl, hb'⟩
    exact ⟨_, rfl, rfl, hb'⟩
  · intro a wx hS hb hf
    have s2 : a.eval (.tmp 2) = .pointer (some ⟨w.heap.size, 0, none⟩) := (hf 2 (by kernel_rfl)).trans rfl
    rw [if_pos (wanted_none rfl)]
    have c0 := (hS.cell (p := ⟨w.heap.size, 0, none⟩) z0).trans x0
    have c1 := (hS.cell (p := ⟨w.heap.size, 1, none⟩) z0).trans x1
    have c2 := (hS.cell (p := ⟨w.heap.size, 2, none⟩) z0).trans x2
    refine does_val (v := val M E S) (w' := wx) ?_ ⟨rfl, Below.refl _ _⟩
    have t2 := (ev_tmp a 2).symm.trans s2
    simp [execOp, go_sem, t2, c0, c1, c2]
  · intro a wx hS hb hf
    have s3 : a.eval (.tmp 3) = .pointer (some ⟨w.heap.size + 1, 0, none⟩) := (hf 3 (by kernel_rfl)).trans rfl
    rw [if_pos (wanted_none rfl)]
    have c0 := (hS.cell (p := ⟨w.heap.size + 1, 0, none⟩) z1).trans y0
    have c1 := (hS.cell (p := ⟨w.heap.size + 1, 1, none⟩) z1).trans y1
    have c2 := (hS.cell (p := ⟨w.heap.size + 1, 2, none⟩) z1).trans y2
    refine does_val (v := val M' E' S') (w' := wx) ?_ ⟨rfl, Below.refl _ _⟩
    have t3 := (ev_tmp a 3).symm.trans s3
    simp [execOp, go_sem, t3, c0, c1, c2]
  · intro a wx hS hb hf
    have s12 : a.eval (.tmp 12) = val M E S := slot hb 0 3 12 rfl rfl
    have s13 : a.eval (.tmp 13) = val M' E' S' := slot hb 1 4 13 rfl rfl
    rw [if_pos (wanted_none rfl)]
    have t12 := (ev_tmp a 12).symm.trans s12
    have t13 := (ev_tmp a 13).symm.trans s13
    refine does_call (f := 18) (args := #[val M E S, val M' E' S']) (w' := wx) (by simp [execOp, resolve, invoke, go_sem, t12, t13]) ?_
    refine (HC2.out wx).mono ?_
    rintro r w' ⟨rfl, hb'⟩
    exact ⟨_, rfl, rfl, hb'⟩
  · intro a wx hS hb hf
    have s11 : a.eval (.tmp 11) = .int .i64 c := slot hb 0 2 11 rfl rfl
    have s14 : a.eval (.tmp 14) = .int .i64 c := slot hb 1 5 14 rfl rfl
    rw [if_pos (wanted_none rfl)]
    refine does_val (v := .bool true) (w' := wx) ?_ ⟨rfl, Below.refl _ _⟩
    have t11 := (ev_tmp a 11).symm.trans s11
    have t14 := (ev_tmp a 14).symm.trans s14
    simp [execOp, go_sem, t11, t14]
  · intro a wx hS hb hf
    have s15 : a.eval (.tmp 15) = .bool true := slot hb 0 6 15 rfl rfl
    rw [if_pos (wanted_none rfl)]
    refine does_val (v := .bool true) (w' := wx) ?_ ⟨rfl, Below.refl _ _⟩
    have t15 := (ev_tmp a 15).symm.trans s15
    simp [execOp, go_sem, t15]
  · intro a wx hS hb hf
    have s3 : a.eval (.tmp 3) = .pointer (some ⟨w.heap.size + 1, 0, none⟩) := (hf 3 (by kernel_rfl)).trans rfl
    have s16 : a.eval (.tmp 16) = .bool true := slot hb 0 7 16 rfl rfl
    rw [if_pos (wanted_of (g := 7) (d := 16) (b := true) rfl rfl s16)]
    have c0 := (hS.cell (p := ⟨w.heap.size + 1, 0, none⟩) z1).trans y0
    have c1 := (hS.cell (p := ⟨w.heap.size + 1, 1, none⟩) z1).trans y1
    have c2 := (hS.cell (p := ⟨w.heap.size + 1, 2, none⟩) z1).trans y2
    refine does_val (v := val M' E' S') (w' := wx) ?_ ⟨rfl, Below.refl _ _⟩
    have t3 := (ev_tmp a 3).symm.trans s3
    simp [execOp, go_sem, t3, c0, c1, c2]
  · intro a wx hS hb hf
    have s2 : a.eval (.tmp 2) = .pointer (some ⟨w.heap.size, 0, none⟩) := (hf 2 (by kernel_rfl)).trans rfl
    have s16 : a.eval (.tmp 16) = .bool true := slot hb 0 7 16 rfl rfl
    rw [if_pos (wanted_of (g := 7) (d := 16) (b := true) rfl rfl s16)]
    have c0 := (hS.cell (p := ⟨w.heap.size, 0, none⟩) z0).trans x0
    have c1 := (hS.cell (p := ⟨w.heap.size, 1, none⟩) z0).trans x1
    have c2 := (hS.cell (p := ⟨w.heap.size, 2, none⟩) z0).trans x2
    refine does_val (v := val M E S) (w' := wx) ?_ ⟨rfl, Below.refl _ _⟩
    have t2 := (ev_tmp a 2).symm.trans s2
    simp [execOp, go_sem, t2, c0, c1, c2]
  · intro a wx hS hb hf
    have s17 : a.eval (.tmp 17) = val M' E' S' := slot hb 0 8 17 rfl rfl
    have s18 : a.eval (.tmp 18) = val M E S := slot hb 1 9 18 rfl rfl
    have s16 : a.eval (.tmp 16) = .bool true := slot hb 2 7 16 rfl rfl
    rw [if_pos (wanted_of (g := 7) (d := 16) (b := true) rfl rfl s16)]
    have t17 := (ev_tmp a 17).symm.trans s17
    have t18 := (ev_tmp a 18).symm.trans s18
    refine does_call (f := 17) (args := #[val M' E' S', val M E S]) (w' := wx) (by simp [execOp, resolve, invoke, go_sem, t17, t18]) ?_
    refine (HC3.out wx (G1.out.below hS)).mono ?_
    rintro r w' ⟨rfl, hb'⟩
    exact ⟨_, rfl, rfl, hb'⟩
  · intro a wx hS hb hf
    have s2 : a.eval (.tmp 2) = .pointer (some ⟨w.heap.size, 0, none⟩) := (hf 2 (by kernel_rfl)).trans rfl
    have s16 : a.eval (.tmp 16) = .bool true := slot hb 0 7 16 rfl rfl
    rw [if_pos (wanted_of (g := 7) (d := 16) (b := true) rfl rfl s16)]
    have c0 := (hS.cell (p := ⟨w.heap.size, 0, none⟩) z0).trans x0
    have c1 := (hS.cell (p := ⟨w.heap.size, 1, none⟩) z0).trans x1
    have c2 := (hS.cell (p := ⟨w.heap.size, 2, none⟩) z0).trans x2
    refine does_val (v := val M E S) (w' := wx) ?_ ⟨rfl, Below.refl _ _⟩
    have t2 := (ev_tmp a 2).symm.trans s2
    simp [execOp, go_sem, t2, c0, c1, c2]
  · intro a wx hS hb hf
    have s3 : a.eval (.tmp 3) = .pointer (some ⟨w.heap.size + 1, 0, none⟩) := (hf 3 (by kernel_rfl)).trans rfl
    have s16 : a.eval (.tmp 16) = .bool true := slot hb 0 7 16 rfl rfl
    rw [if_pos (wanted_of (g := 7) (d := 16) (b := true) rfl rfl s16)]
    have c0 := (hS.cell (p := ⟨w.heap.size + 1, 0, none⟩) z1).trans y0
    have c1 := (hS.cell (p := ⟨w.heap.size + 1, 1, none⟩) z1).trans y1
    have c2 := (hS.cell (p := ⟨w.heap.size + 1, 2, none⟩) z1).trans y2
    refine does_val (v := val M' E' S') (w' := wx) ?_ ⟨rfl, Below.refl _ _⟩
    have t3 := (ev_tmp a 3).symm.trans s3
    simp [execOp, go_sem, t3, c0, c1, c2]
  · intro a wx hS hb hf
    have s20 : a.eval (.tmp 20) = val M E S := slot hb 0 11 20 rfl rfl
    have s21 : a.eval (.tmp 21) = val M' E' S' := slot hb 1 12 21 rfl rfl
    have s16 : a.eval (.tmp 16) = .bool true := slot hb 3 7 16 rfl rfl
    rw [if_pos (wanted_of (g := 7) (d := 16) (b := true) rfl rfl s16)]
    have t20 := (ev_tmp a 20).symm.trans s20
    have t21 := (ev_tmp a 21).symm.trans s21
    refine does_call (f := 17) (args := #[val M E S, val M' E' S']) (w' := wx) (by simp [execOp, resolve, invoke, go_sem, t20, t21]) ?_
    refine (HC1.out wx (G1.out.below hS)).mono ?_
    rintro r w' ⟨rfl, hb'⟩
    exact ⟨_, rfl, rfl, hb'⟩
  · intro a wx hS hb hf
    have s22 : a.eval (.tmp 22) = .int .i64 c := slot hb 0 13 22 rfl rfl
    have s16 : a.eval (.tmp 16) = .bool true := slot hb 1 7 16 rfl rfl
    rw [if_pos (wanted_of (g := 7) (d := 16) (b := true) rfl rfl s16)]
    refine does_val (v := .int .i64 (-c)) (w' := wx) ?_ ⟨rfl, Below.refl _ _⟩
    have t22 := (ev_tmp a 22).symm.trans s22
    simp [execOp, go_sem, t22, hn1, hn2]
  · intro a wx hS hb hf
    have s19 : a.eval (.tmp 19) = .int .i64 (-c) := slot hb 0 10 19 rfl rfl
    have s23 : a.eval (.tmp 23) = .int .i64 (-c) := slot hb 1 14 23 rfl rfl
    have s16 : a.eval (.tmp 16) = .bool true := slot hb 2 7 16 rfl rfl
    rw [if_pos (wanted_of (g := 7) (d := 16) (b := true) rfl rfl s16)]
    refine does_val (v := .bool true) (w' := wx) ?_ ⟨rfl, Below.refl _ _⟩
    have t19 := (ev_tmp a 19).symm.trans s19
    have t23 := (ev_tmp a 23).symm.trans s23
    simp [execOp, go_sem, t19, t23]
  · intro a wx hS hb hf
    have s16 : a.eval (.tmp 16) = .bool true := slot hb 0 7 16 rfl rfl
    have s24 : a.eval (.tmp 24) = .bool true := slot hb 1 15 24 rfl rfl
    rw [if_pos (wanted_none rfl)]
    refine does_val (v := .bool true) (w' := wx) ?_ ⟨rfl, Below.refl _ _⟩
    have t16 := (ev_tmp a 16).symm.trans s16
    have t24 := (ev_tmp a 24).symm.trans s24
    simp [execOp, go_sem, t16, t24]
  · intro a wx hS hb hf
    have s25 : a.eval (.tmp 25) = .bool true := slot hb 0 16 25 rfl rfl
    rw [if_pos (wanted_none rfl)]
    refine does_val (v := .bool true) (w' := wx) ?_ ⟨rfl, Below.refl _ _⟩
    have t25 := (ev_tmp a 25).symm.trans s25
    simp [execOp, go_sem, t25]
  rename_i hK
  intro a w' hb3 _ hdef hdone _
  refine hK _ _ (ret_K rfl hdef (done_slot hdone 17 4 rfl) ⟨rfl, B1.out.trans (hb3.mono B1.out.size)⟩)
end Go.Proofs.YtmeimofnmpmaoaaGreatDoor
