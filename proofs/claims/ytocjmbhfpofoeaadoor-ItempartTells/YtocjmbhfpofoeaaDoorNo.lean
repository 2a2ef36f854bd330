/- The contracts of Next and Only, from what first finds. Conditions: sizes. -/
import Derived.Test.YtocjmbhfpofoeaaDoorNx
namespace Go.Proofs.YtocjmbhfpofoeaaDoor
open Go.RowKit

/-- A row of the call's own that reads so. -/
def Kd.own (base : Nat) (zs : List Int) : Kd := ⟨fun v w => w.ownsRow base 5 1 v zs.length (zs.map (Value.int .u8)), fun _ _ _ h hb => own_below h hb⟩
theorem results_tmp4 {fn : Func} {t u v x : Tmp} (h : fn.results = #[.tmp t, .tmp u, .tmp v, .tmp x]) (tmps : Array Value) (P : Program) (w : World) :
    (results fn tmps).run P w = .ok (.tuple #[tmps.getD t undef, tmps.getD u undef, tmps.getD v undef, tmps.getD x undef]) w := by
  simp [results, h]
theorem getD_ev (a : Act) (t : Nat) : a.tmps.getD t undef = a.eval (.tmp t) := by simp [Act.eval]

/-- What first finds. -/
def Found (w : World) (k x : Int) (z1 z2 : List Int) (e : Ending) (w' : World) : Prop :=
  Below w.heap.size w w' ∧ ∃ a1 n1 c1 a2 n2 c2, e = .returned (.tuple #[.agg #[.int .i64 k, .slice a1 n1 c1, .slice a2 n2 c2], .int .i64 x]) ∧ IsI .u8 w' a1 n1 c1 z1 ∧ IsI .u8 w' a2 n2 c2 z2
/-- What Next tells. -/
def Told (w : World) (k x : Int) (z1 z2 : List Int) (e : Ending) (w' : World) : Prop :=
  ∃ v1 v2, e = .returned (.tuple #[.int .i64 k, v1, v2, .int .i64 x]) ∧ w'.ownsRow w.heap.size 5 1 v1 z1.length (z1.map (Value.int .u8)) ∧ w'.ownsRow w.heap.size 5 1 v2 z2.length (z2.map (Value.int .u8)) ∧ Below w.heap.size w w'

set_option maxRecDepth 20000 in
set_option maxHeartbeats 4000000 in
theorem next_any (b : Value) (k x : Int) (z1 z2 : List Int) (w : World) (h1 : z1.length ≤ 100000000) (h2 : z2.length ≤ 100000000) (HF : Hid (Calls Tryd.prog 63 #[b] w (Found w k x z1 z2))) :
    Calls Tryd.prog 51 #[b] w (Told w k x z1 z2) := by
  go_enter Tryd.func51, Tryd.ntmps51
  go_wp2_with (go_at_call 63; refine HF.out.mono ?_; rintro e w0 ⟨hb0, a1, n1, c1, a2, n2, c2, rfl, hI1', hI2'⟩
               have HI : Hid (IsI .u8 w0 a1 n1 c1 z1 ∧ IsI .u8 w0 a2 n2 c2 z2 ∧ Below w.heap.size w w0) := ⟨hI1', hI2', hb0⟩
               clear hI1' hI2' hb0)
  obtain ⟨B, hBe⟩ : ∃ B, B = w0.heap.size := ⟨_, rfl⟩
  obtain ⟨w1, hw1⟩ : ∃ w1, w1 = w0.alloc (.cells #[.int .i64 k, .slice a1 n1 c1, .slice a2 n2 c2] 84) := ⟨_, rfl⟩
  have hB : B < w1.heap.size := by rw [hw1, hBe]; simp
  have hF0 : w1.cell? ⟨B, 0, none⟩ = some (.int .i64 k) := by rw [hw1, hBe]; simp
  have hF1 : w1.cell? ⟨B, 1, none⟩ = some (.slice a1 n1 c1) := by rw [hw1, hBe]; simp
  have hF2 : w1.cell? ⟨B, 2, none⟩ = some (.slice a2 n2 c2) := by rw [hw1, hBe]; simp
  have hb01 : Below w0.heap.size w0 w1 := by rw [hw1]; exact (Below.refl _ _).alloc (Nat.le_refl _) _
  have hI1 := HI.out.1.below hb01
  have hI2 := HI.out.2.1.below hb01
  have hl1 := hI1.hl
  have hl2 := hI2.hl
  have hbw := HI.out.2.2.trans (hb01.mono HI.out.2.2.size)
  rw [← hw1, ← hBe]
  clear hw1 hBe
  refine wp_region_K (by kernel_rfl) (by kernel_rfl) [.eq (.pointer (some ⟨B, 0, none⟩)), .eq (.int .i64 k), .eq (.pointer (some ⟨B, 1, none⟩)), .eq (.slice a1 n1 c1), Kd.own w1.heap.size z1, .eq (.pointer (some ⟨B, 2, none⟩)), .eq (.slice a2 n2 c2), Kd.own w1.heap.size z2, .eq (.int .i64 x), .eq (.int .i64 k), Kd.own w1.heap.size z1, Kd.own w1.heap.size z2, .eq (.int .i64 x)] w1 (Below.refl _ _) (allOps_cons ?_ (allOps_cons ?_ (allOps_cons ?_ (allOps_cons ?_ (allOps_cons ?_ (allOps_cons ?_ (allOps_cons ?_ (allOps_cons ?_ (allOps_cons ?_ (allOps_cons ?_ (allOps_cons ?_ (allOps_cons ?_ (allOps_cons ?_ allOps_nil))))))))))))) ?_
  · intro a w hS hb hf
    have s6 : a.eval (.tmp 6) = .pointer (some ⟨B, 0, none⟩) := (hf 6 (by kernel_rfl)).trans rfl
    rw [if_pos (wanted_none rfl)]
    refine does_val (v := .pointer (some ⟨B, 0, none⟩)) (w' := w) ?_ ⟨rfl, Below.refl _ _⟩
    have t6 := (ev_tmp a 6).symm.trans s6
    simp [execOp, go_sem, t6]
  · intro a w hS hb hf
    have s13 : a.eval (.tmp 13) = .pointer (some ⟨B, 0, none⟩) := slot hb 0 0 13 rfl rfl
    rw [if_pos (wanted_none rfl)]
    have t13 := (ev_tmp a 13).symm.trans s13
    have hc := (hS.cell (p := ⟨B, 0, none⟩) hB).trans hF0
    refine does_val (v := .int .i64 k) (w' := w) ?_ ⟨rfl, Below.refl _ _⟩
    simp [execOp, go_sem, t13, hc]
  · intro a w hS hb hf
    have s6 : a.eval (.tmp 6) = .pointer (some ⟨B, 0, none⟩) := (hf 6 (by kernel_rfl)).trans rfl
    rw [if_pos (wanted_none rfl)]
    refine does_val (v := .pointer (some ⟨B, 1, none⟩)) (w' := w) ?_ ⟨rfl, Below.refl _ _⟩
    have t6 := (ev_tmp a 6).symm.trans s6
    simp [execOp, go_sem, t6]
  · intro a w hS hb hf
    have s15 : a.eval (.tmp 15) = .pointer (some ⟨B, 1, none⟩) := slot hb 0 2 15 rfl rfl
    rw [if_pos (wanted_none rfl)]
    have t15 := (ev_tmp a 15).symm.trans s15
    have hc := (hS.cell (p := ⟨B, 1, none⟩) hB).trans hF1
    refine does_val (v := .slice a1 n1 c1) (w' := w) ?_ ⟨rfl, Below.refl _ _⟩
    simp [execOp, go_sem, t15, hc]
  · intro a w hS hb hf
    have s16 : a.eval (.tmp 16) = .slice a1 n1 c1 := slot hb 0 3 16 rfl rfl
    rw [if_pos (wanted_none rfl)]
    have t16 := (ev_tmp a 16).symm.trans s16
    refine does_call (f := 40) (args := #[.slice a1 n1 c1]) (w' := w) (by simp [go_sem, t16]) ?_
    refine (clone_any a1 n1 c1 z1 w (hI1.below hS) (by omega)).mono ?_
    rintro e w' ⟨v, rfl, ho, hb'⟩
    have ho' : w'.ownsRow w1.heap.size 5 1 v z1.length (z1.map (Value.int .u8)) := by rw [hI1.hl]; exact own_mono ho hS.size
    exact ⟨_, rfl, ho', hb'⟩
  · intro a w hS hb hf
    have s6 : a.eval (.tmp 6) = .pointer (some ⟨B, 0, none⟩) := (hf 6 (by kernel_rfl)).trans rfl
    rw [if_pos (wanted_none rfl)]
    refine does_val (v := .pointer (some ⟨B, 2, none⟩)) (w' := w) ?_ ⟨rfl, Below.refl _ _⟩
    have t6 := (ev_tmp a 6).symm.trans s6
    simp [execOp, go_sem, t6]
  · intro a w hS hb hf
    have s18 : a.eval (.tmp 18) = .pointer (some ⟨B, 2, none⟩) := slot hb 0 5 18 rfl rfl
    rw [if_pos (wanted_none rfl)]
    have t18 := (ev_tmp a 18).symm.trans s18
    have hc := (hS.cell (p := ⟨B, 2, none⟩) hB).trans hF2
    refine does_val (v := .slice a2 n2 c2) (w' := w) ?_ ⟨rfl, Below.refl _ _⟩
    simp [execOp, go_sem, t18, hc]
  · intro a w hS hb hf
    have s19 : a.eval (.tmp 19) = .slice a2 n2 c2 := slot hb 0 6 19 rfl rfl
    rw [if_pos (wanted_none rfl)]
    have t19 := (ev_tmp a 19).symm.trans s19
    refine does_call (f := 40) (args := #[.slice a2 n2 c2]) (w' := w) (by simp [go_sem, t19]) ?_
    refine (clone_any a2 n2 c2 z2 w (hI2.below hS) (by omega)).mono ?_
    rintro e w' ⟨v, rfl, ho, hb'⟩
    have ho' : w'.ownsRow w1.heap.size 5 1 v z2.length (z2.map (Value.int .u8)) := by rw [hI2.hl]; exact own_mono ho hS.size
    exact ⟨_, rfl, ho', hb'⟩
  · intro a w hS hb hf
    have s7 : a.eval (.tmp 7) = .int .i64 x := (hf 7 (by kernel_rfl)).trans rfl
    rw [if_pos (wanted_none rfl)]
    refine does_val (v := .int .i64 x) (w' := w) ?_ ⟨rfl, Below.refl _ _⟩
    have t7 := (ev_tmp a 7).symm.trans s7
    simp [execOp, go_sem, t7]
  · intro a w hS hb hf
    have s14 : a.eval (.tmp 14) = .int .i64 k := slot hb 0 1 14 rfl rfl
    rw [if_pos (wanted_none rfl)]
    refine does_val (v := .int .i64 k) (w' := w) ?_ ⟨rfl, Below.refl _ _⟩
    have t14 := (ev_tmp a 14).symm.trans s14
    simp [execOp, go_sem, t14]
  · intro a w hS hb hf
    rw [if_pos (wanted_none rfl)]
    have s17 : w.ownsRow w1.heap.size 5 1 (a.eval (.tmp 17)) z1.length (z1.map (Value.int .u8)) := slot hb 0 4 17 rfl rfl
    refine does_val (v := a.eval (.tmp 17)) (w' := w) ?_ ⟨s17, Below.refl _ _⟩
    simp [execOp, go_sem]
  · intro a w hS hb hf
    rw [if_pos (wanted_none rfl)]
    have s20 : w.ownsRow w1.heap.size 5 1 (a.eval (.tmp 20)) z2.length (z2.map (Value.int .u8)) := slot hb 0 7 20 rfl rfl
    refine does_val (v := a.eval (.tmp 20)) (w' := w) ?_ ⟨s20, Below.refl _ _⟩
    simp [execOp, go_sem]
  · intro a w hS hb hf
    have s21 : a.eval (.tmp 21) = .int .i64 x := slot hb 0 8 21 rfl rfl
    rw [if_pos (wanted_none rfl)]
    refine does_val (v := .int .i64 x) (w' := w) ?_ ⟨rfl, Below.refl _ _⟩
    have t21 := (ev_tmp a 21).symm.trans s21
    simp [execOp, go_sem, t21]
  rename_i hK
  intro a w' hb3 _ hdef hdone _
  refine hK _ _ (wp_ret (bodyPost_ret (results_tmp4 (t := 2) (u := 3) (v := 4) (x := 5) rfl _ _ _) hdef ?_))
  have r2 : a.eval (.tmp 2) = .int .i64 k := done_slot hdone 9 2 rfl
  have r3 : w'.ownsRow w1.heap.size 5 1 (a.eval (.tmp 3)) z1.length (z1.map (Value.int .u8)) := done_slot hdone 10 3 rfl
  have r4 : w'.ownsRow w1.heap.size 5 1 (a.eval (.tmp 4)) z2.length (z2.map (Value.int .u8)) := done_slot hdone 11 4 rfl
  have r5 : a.eval (.tmp 5) = .int .i64 x := done_slot hdone 12 5 rfl
  rw [getD_ev, getD_ev, getD_ev, getD_ev, r2, r5]
  exact ⟨_, _, rfl, own_mono r3 hbw.size, own_mono r4 hbw.size, hbw.trans (hb3.mono hbw.size)⟩
end Go.Proofs.YtocjmbhfpofoeaaDoor
