/- The contract of awake, the look at the document's examples: it answers true, and what was in memory stays. No conditions. -/
import Derived.Test.YtndefppbkepikaaF
import Derived.Test.YtndefppbkepikaaY
import Derived.Laws.BytesArg
namespace Go.Proofs.Ytndefppbkepikaa
open Go.RowKit

theorem own_sl {w : World} {base n : Nat} {v : Value} {e : TypeId} {k : IntKind} {zs : List Int} (h : w.ownsRow base e 1 v n (zs.map (Value.int k))) (hn : 0 < n) : Sl k zs v w := by
  obtain ⟨g, cap, rfl, _, hg, h1, h2⟩ := own_some h hn
  have hl := h.1
  simp only [List.length_map, Nat.mul_one] at hl
  subst hl
  exact ⟨g, 0, cap, rfl, hg, h1, h2, own_cells h⟩
theorem put_sl (a : Option Addr) (len cap : Nat) (zs : List Int) (u : Nat) (w : World) (hu : u < 18446744073709551616) (hz : zs.length = len) (hrd : Rd .u8 w a zs) (hs : len ≤ 140737487000000) :
    Calls Try.prog 9 #[.slice a len cap, .int .u64 (u : Int)] w fun e w' => ∃ v, e = .returned v ∧ Sl .u8 (zs ++ bs u) v w' ∧ Below w.heap.size w w' := by
  refine (put_any a len cap zs u w hu hz hrd hs).mono ?_
  rintro e w' ⟨v', rfl, ho, hb⟩
  have := bs_pos u
  exact ⟨v', rfl, own_sl ho (by omega), hb⟩
/-- The bytes of a slice as a string. -/
theorem conv (w : World) (g off cap n : Nat) (xs : List Int) (hn : xs.length = n) (hc : ∀ i, i < xs.length → w.cell? ⟨g, off + i, none⟩ = some (.int .u8 (xs.getD i 0))) :
    Sem.run Try.prog (convert 23 9 (.slice (some ⟨g, off, none⟩) n cap)) w = .ok (.string (strOfNums xs)) w :=
  run_convert_bytes_arg w 23 5 Try.underlying23 Try.underlying5 g off n cap xs hn (by rw [← hn]; exact hc) 9 Try.underlying9
theorem does_conv {o : Oper} {t : Nat} {a : Act} {w : World} {zs : List Int} (ho : o.op = Op.convert 23 9 (.tmp t)) (h : Sl .u8 zs (a.eval (.tmp t)) w) :
    does Try.prog o a.eval w (fun v w' => v = .string (strOfNums zs) ∧ Below w.heap.size w w') := by
  obtain ⟨g, off, cap, h1, _, _, _, h5⟩ := h
  refine does_val (v := .string (strOfNums zs)) (w' := w) ?_ ⟨rfl, Below.refl _ _⟩
  have hc := conv w g off cap zs.length zs rfl h5
  simp [execOp, ho, h1, hc]
theorem sl_lit2 (w : World) (x y : Int) : Sl .u8 [x, y] (.slice (some ⟨w.heap.size, 0, none⟩) 2 2) (w.alloc (.cells #[.int .u8 x, .int .u8 y] 5)) := by
  refine ⟨w.heap.size, 0, 2, rfl, by simp, by simp, by decide, ?_⟩
  intro i hi
  match i, hi with
  | 0, _ => simp
  | 1, _ => simp

theorem bs_300 : bs 300 = [172, 2] := by rw [bs_big (by decide), bs_small (by decide)]; rfl
def s300 : ByteArray := strOfNums [172, 2]
theorem take_300 (g : Nat) (w : World) (hg : g < w.heap.size) (h0 : w.cell? ⟨g, 0, none⟩ = some (.int .u8 172)) (h1 : w.cell? ⟨g, 1, none⟩ = some (.int .u8 2)) (h2 : w.cell? ⟨g, 2, none⟩ = some (.int .u8 9)) :
    Calls Try.prog 16 #[.slice (some ⟨g, 0, none⟩) 3 3] w fun e w' => ∃ h, e = .returned (.tuple #[.int .u64 300, .slice (some ⟨h, 0, none⟩) 1 1, .int .i64 0]) ∧ Below w.heap.size w w' := by
  have h := take_ok g 0 3 300 [9] w (by decide) hg (by
    rw [bs_300]
    intro i hi
    match i, hi with
    | 0, _ => exact h0
    | 1, _ => exact h1
    | 2, _ => exact h2) (by rw [bs_300]; decide) (by decide) (by decide)
  rw [bs_300] at h
  refine Calls.mono h ?_
  rintro e w' ⟨h, rfl, _, hb⟩
  exact ⟨h, rfl, hb⟩
theorem zig_m2 (w : World) : Calls Try.prog 11 #[.int .i64 (-2)] w fun e w' => e = .returned (.int .u64 3) ∧ w' = w := zig_any (-2) (by decide) (by decide) w
theorem zag_1 (w : World) : Calls Try.prog 13 #[.int .u64 1] w fun e w' => e = .returned (.int .i64 (-1)) ∧ w' = w := zag_any 1 (by decide) (by decide) w

set_option linter.unusedSimpArgs false in
set_option maxHeartbeats 1600000 in
theorem awake_any (w : World) : Calls Try.prog 8 #[] w fun e w' => e = .returned (.bool true) ∧ Below w.heap.size w w' := by
  go_enter Try.func8, Try.ntmps8
  go_wp2_with fail
  refine (take_300 w.heap.size _ ?_ ?_ ?_ ?_).mono ?_
  · simp
  · simp
  · simp
  · simp
  rintro e w1 ⟨h1, rfl, hb1⟩
  go_wp2_with fail
  refine (take_form w1.heap.size 2 _ ?_ ?_).mono ?_
  · simp
  · simp
  rintro e w2 ⟨rfl, rfl⟩
  go_wp2_with fail
  have hb2 : Below w.heap.size w (w1.alloc (Obj.cells #[Value.int IntKind.u8 128, Value.int IntKind.u8 0] 5)) := by
    have hz := hb1.size
    simp at hz
    exact (((Below.refl _ _).alloc (Nat.le_refl _) _).trans (hb1.mono (by simp))).alloc (by omega) _
  clear hb1
  generalize w1.alloc (Obj.cells #[Value.int IntKind.u8 128, Value.int IntKind.u8 0] 5) = w2 at *
  refine wp_region_K (by kernel_rfl) (by kernel_rfl) [.eq (.int .u64 3), .eq (.bool true), .eq (.bool true), .eq (.int .i64 (-1)), .eq (.bool true), .eq (.bool true), .eq (.bool true), .rd .u8 ([172, 2]), .eq (.string s300), .rd .u8 ([172, 2]), .eq (.string s300), .eq (.bool true), .eq (.bool true), .eq (.bool true), .eq (.int .u64 300), .eq (.bool true), .eq (.bool true), .eq (.bool true), .eq (.slice (some ⟨h1, 0, none⟩) 1 1), .eq (.int .i64 1), .eq (.bool true), .eq (.bool true), .eq (.bool true), .eq (.int .i64 0), .eq (.bool true), .eq (.bool true), .eq (.bool true), .eq (.int .i64 11), .eq (.bool true), .eq (.bool true), .eq (.bool true)] w hb2 (allOps_cons ?_ (allOps_cons ?_ (allOps_cons ?_ (allOps_cons ?_ (allOps_cons ?_ (allOps_cons ?_ (allOps_cons ?_ (allOps_cons ?_ (allOps_cons ?_ (allOps_cons ?_ (allOps_cons ?_ (allOps_cons ?_ (allOps_cons ?_ (allOps_cons ?_ (allOps_cons ?_ (allOps_cons ?_ (allOps_cons ?_ (allOps_cons ?_ (allOps_cons ?_ (allOps_cons ?_ (allOps_cons ?_ (allOps_cons ?_ (allOps_cons ?_ (allOps_cons ?_ (allOps_cons ?_ (allOps_cons ?_ (allOps_cons ?_ (allOps_cons ?_ (allOps_cons ?_ (allOps_cons ?_ (allOps_cons ?_ allOps_nil))))))))))))))))))))))))))))))) ?_
  · intro a w hS hb hf
    rw [if_pos (wanted_none rfl)]
    refine does_call (f := 11) (args := #[.int .i64 (-2)]) (w' := w) (by simp [execOp, resolve, invoke, go_sem]) ?_
    refine (zig_m2 w).mono ?_
    rintro e w' ⟨rfl, rfl⟩
    exact ⟨_, rfl, rfl, Below.refl _ _⟩
  · intro a w hS hb hf
    have s19 : a.eval (.tmp 19) = .int .u64 3 := slot hb 0 0 19 rfl rfl
    rw [if_pos (wanted_none rfl)]
    refine does_val (v := .bool true) (w' := w) ?_ ⟨rfl, Below.refl _ _⟩
    have t19 := (ev_tmp a 19).symm.trans s19
    simp [execOp, go_sem, t19]
  · intro a w hS hb hf
    have s20 : a.eval (.tmp 20) = .bool true := slot hb 0 1 20 rfl rfl
    rw [if_pos (wanted_none rfl)]
    refine does_val (v := .bool true) (w' := w) ?_ ⟨rfl, Below.refl _ _⟩
    have t20 := (ev_tmp a 20).symm.trans s20
    simp [execOp, go_sem, t20]
  · intro a w hS hb hf
    have s21 : a.eval (.tmp 21) = .bool true := slot hb 0 2 21 rfl rfl
    rw [if_pos (wanted_of (g := 2) (d := 21) (b := true) rfl rfl s21)]
    refine does_call (f := 13) (args := #[.int .u64 1]) (w' := w) (by simp [execOp, resolve, invoke, go_sem]) ?_
    refine (zag_1 w).mono ?_
    rintro e w' ⟨rfl, rfl⟩
    exact ⟨_, rfl, rfl, Below.refl _ _⟩
  · intro a w hS hb hf
    have s22 : a.eval (.tmp 22) = .int .i64 (-1) := slot hb 0 3 22 rfl rfl
    have s21 : a.eval (.tmp 21) = .bool true := slot hb 1 2 21 rfl rfl
    rw [if_pos (wanted_of (g := 2) (d := 21) (b := true) rfl rfl s21)]
    refine does_val (v := .bool true) (w' := w) ?_ ⟨rfl, Below.refl _ _⟩
    have t22 := (ev_tmp a 22).symm.trans s22
    simp [execOp, go_sem, t22]
  · intro a w hS hb hf
    have s21 : a.eval (.tmp 21) = .bool true := slot hb 0 2 21 rfl rfl
    have s23 : a.eval (.tmp 23) = .bool true := slot hb 1 4 23 rfl rfl
    rw [if_pos (wanted_none rfl)]
    refine does_val (v := .bool true) (w' := w) ?_ ⟨rfl, Below.refl _ _⟩
    have t21 := (ev_tmp a 21).symm.trans s21
    have t23 := (ev_tmp a 23).symm.trans s23
    simp [execOp, go_sem, t21, t23]
  · intro a w hS hb hf
    have s24 : a.eval (.tmp 24) = .bool true := slot hb 0 5 24 rfl rfl
    rw [if_pos (wanted_none rfl)]
    refine does_val (v := .bool true) (w' := w) ?_ ⟨rfl, Below.refl _ _⟩
    have t24 := (ev_tmp a 24).symm.trans s24
    simp [execOp, go_sem, t24]
  · intro a w hS hb hf
    have s25 : a.eval (.tmp 25) = .bool true := slot hb 0 6 25 rfl rfl
    rw [if_pos (wanted_of (g := 6) (d := 25) (b := true) rfl rfl s25)]
    refine does_call (f := 9) (args := #[.slice none 0 0, .int .u64 300]) (w' := w) (by simp [execOp, resolve, invoke, go_sem]) ?_
    refine (put_sl none 0 0 [] 300 w (by decide) rfl (.inl rfl) (by decide)).mono ?_
    rintro e w' ⟨v, rfl, hv, hb'⟩
    rw [bs_300] at hv
    exact ⟨_, rfl, hv, hb'⟩
  · intro a w hS hb hf
    have s26 : Sl .u8 ([172, 2]) (a.eval (.tmp 26)) w := slot hb 0 7 26 rfl rfl
    have s25 : a.eval (.tmp 25) = .bool true := slot hb 1 6 25 rfl rfl
    rw [if_pos (wanted_of (g := 6) (d := 25) (b := true) rfl rfl s25)]
    exact does_conv rfl s26
  · intro a w hS hb hf
    have s25 : a.eval (.tmp 25) = .bool true := slot hb 0 6 25 rfl rfl
    rw [if_pos (wanted_of (g := 6) (d := 25) (b := true) rfl rfl s25)]
    refine does_val (v := .slice (some ⟨w.heap.size, 0, none⟩) 2 2) (w' := w.alloc (.cells #[.int .u8 172, .int .u8 2] 5)) (by simp [execOp, go_sem]) ⟨?_, (Below.refl _ _).alloc (Nat.le_refl _) _⟩
    exact sl_lit2 w 172 2
  · intro a w hS hb hf
    have s28 : Sl .u8 ([172, 2]) (a.eval (.tmp 28)) w := slot hb 0 9 28 rfl rfl
    have s25 : a.eval (.tmp 25) = .bool true := slot hb 1 6 25 rfl rfl
    rw [if_pos (wanted_of (g := 6) (d := 25) (b := true) rfl rfl s25)]
    exact does_conv rfl s28
  · intro a w hS hb hf
    have s27 : a.eval (.tmp 27) = .string s300 := slot hb 0 8 27 rfl rfl
    have s29 : a.eval (.tmp 29) = .string s300 := slot hb 1 10 29 rfl rfl
    have s25 : a.eval (.tmp 25) = .bool true := slot hb 2 6 25 rfl rfl
    rw [if_pos (wanted_of (g := 6) (d := 25) (b := true) rfl rfl s25)]
    refine does_val (v := .bool true) (w' := w) ?_ ⟨rfl, Below.refl _ _⟩
    have t27 := (ev_tmp a 27).symm.trans s27
    have t29 := (ev_tmp a 29).symm.trans s29
    simp [execOp, go_sem, t27, t29]
  · intro a w hS hb hf
    have s25 : a.eval (.tmp 25) = .bool true := slot hb 0 6 25 rfl rfl
    have s30 : a.eval (.tmp 30) = .bool true := slot hb 1 11 30 rfl rfl
    rw [if_pos (wanted_none rfl)]
    refine does_val (v := .bool true) (w' := w) ?_ ⟨rfl, Below.refl _ _⟩
    have t25 := (ev_tmp a 25).symm.trans s25
    have t30 := (ev_tmp a 30).symm.trans s30
    simp [execOp, go_sem, t25, t30]
  · intro a w hS hb hf
    have s31 : a.eval (.tmp 31) = .bool true := slot hb 0 12 31 rfl rfl
    rw [if_pos (wanted_none rfl)]
    refine does_val (v := .bool true) (w' := w) ?_ ⟨rfl, Below.refl _ _⟩
    have t31 := (ev_tmp a 31).symm.trans s31
    simp [execOp, go_sem, t31]
  · intro a w hS hb hf
    have s1 : a.eval (.tmp 1) = .int .u64 300 := (hf 1 (by kernel_rfl)).trans rfl
    have s32 : a.eval (.tmp 32) = .bool true := slot hb 0 13 32 rfl rfl
    rw [if_pos (wanted_of (g := 13) (d := 32) (b := true) rfl rfl s32)]
    refine does_val (v := .int .u64 300) (w' := w) ?_ ⟨rfl, Below.refl _ _⟩
    have t1 := (ev_tmp a 1).symm.trans s1
    simp [execOp, go_sem, t1]
  · intro a w hS hb hf
    have s33 : a.eval (.tmp 33) = .int .u64 300 := slot hb 0 14 33 rfl rfl
    have s32 : a.eval (.tmp 32) = .bool true := slot hb 1 13 32 rfl rfl
    rw [if_pos (wanted_of (g := 13) (d := 32) (b := true) rfl rfl s32)]
    refine does_val (v := .bool true) (w' := w) ?_ ⟨rfl, Below.refl _ _⟩
    have t33 := (ev_tmp a 33).symm.trans s33
    simp [execOp, go_sem, t33]
  · intro a w hS hb hf
    have s32 : a.eval (.tmp 32) = .bool true := slot hb 0 13 32 rfl rfl
    have s34 : a.eval (.tmp 34) = .bool true := slot hb 1 15 34 rfl rfl
    rw [if_pos (wanted_none rfl)]
    refine does_val (v := .bool true) (w' := w) ?_ ⟨rfl, Below.refl _ _⟩
    have t32 := (ev_tmp a 32).symm.trans s32
    have t34 := (ev_tmp a 34).symm.trans s34
    simp [execOp, go_sem, t32, t34]
  · intro a w hS hb hf
    have s35 : a.eval (.tmp 35) = .bool true := slot hb 0 16 35 rfl rfl
    rw [if_pos (wanted_none rfl)]
    refine does_val (v := .bool true) (w' := w) ?_ ⟨rfl, Below.refl _ _⟩
    have t35 := (ev_tmp a 35).symm.trans s35
    simp [execOp, go_sem, t35]
  · intro a w hS hb hf
    have s2 : a.eval (.tmp 2) = .slice (some ⟨h1, 0, none⟩) 1 1 := (hf 2 (by kernel_rfl)).trans rfl
    have s36 : a.eval (.tmp 36) = .bool true := slot hb 0 17 36 rfl rfl
    rw [if_pos (wanted_of (g := 17) (d := 36) (b := true) rfl rfl s36)]
    refine does_val (v := .slice (some ⟨h1, 0, none⟩) 1 1) (w' := w) ?_ ⟨rfl, Below.refl _ _⟩
    have t2 := (ev_tmp a 2).symm.trans s2
    simp [execOp, go_sem, t2]
  · intro a w hS hb hf
    have s37 : a.eval (.tmp 37) = .slice (some ⟨h1, 0, none⟩) 1 1 := slot hb 0 18 37 rfl rfl
    have s36 : a.eval (.tmp 36) = .bool true := slot hb 1 17 36 rfl rfl
    rw [if_pos (wanted_of (g := 17) (d := 36) (b := true) rfl rfl s36)]
    refine does_val (v := .int .i64 1) (w' := w) ?_ ⟨rfl, Below.refl _ _⟩
    have t37 := (ev_tmp a 37).symm.trans s37
    simp [execOp, go_sem, t37]
  · intro a w hS hb hf
    have s38 : a.eval (.tmp 38) = .int .i64 1 := slot hb 0 19 38 rfl rfl
    have s36 : a.eval (.tmp 36) = .bool true := slot hb 1 17 36 rfl rfl
    rw [if_pos (wanted_of (g := 17) (d := 36) (b := true) rfl rfl s36)]
    refine does_val (v := .bool true) (w' := w) ?_ ⟨rfl, Below.refl _ _⟩
    have t38 := (ev_tmp a 38).symm.trans s38
    simp [execOp, go_sem, t38]
  · intro a w hS hb hf
    have s36 : a.eval (.tmp 36) = .bool true := slot hb 0 17 36 rfl rfl
    have s39 : a.eval (.tmp 39) = .bool true := slot hb 1 20 39 rfl rfl
    rw [if_pos (wanted_none rfl)]
    refine does_val (v := .bool true) (w' := w) ?_ ⟨rfl, Below.refl _ _⟩
    have t36 := (ev_tmp a 36).symm.trans s36
    have t39 := (ev_tmp a 39).symm.trans s39
    simp [execOp, go_sem, t36, t39]
  · intro a w hS hb hf
    have s40 : a.eval (.tmp 40) = .bool true := slot hb 0 21 40 rfl rfl
    rw [if_pos (wanted_none rfl)]
    refine does_val (v := .bool true) (w' := w) ?_ ⟨rfl, Below.refl _ _⟩
    have t40 := (ev_tmp a 40).symm.trans s40
    simp [execOp, go_sem, t40]
  · intro a w hS hb hf
    have s3 : a.eval (.tmp 3) = .int .i64 0 := (hf 3 (by kernel_rfl)).trans rfl
    have s41 : a.eval (.tmp 41) = .bool true := slot hb 0 22 41 rfl rfl
    rw [if_pos (wanted_of (g := 22) (d := 41) (b := true) rfl rfl s41)]
    refine does_val (v := .int .i64 0) (w' := w) ?_ ⟨rfl, Below.refl _ _⟩
    have t3 := (ev_tmp a 3).symm.trans s3
    simp [execOp, go_sem, t3]
  · intro a w hS hb hf
    have s42 : a.eval (.tmp 42) = .int .i64 0 := slot hb 0 23 42 rfl rfl
    have s41 : a.eval (.tmp 41) = .bool true := slot hb 1 22 41 rfl rfl
    rw [if_pos (wanted_of (g := 22) (d := 41) (b := true) rfl rfl s41)]
    refine does_val (v := .bool true) (w' := w) ?_ ⟨rfl, Below.refl _ _⟩
    have t42 := (ev_tmp a 42).symm.trans s42
    simp [execOp, go_sem, t42]
  · intro a w hS hb hf
    have s41 : a.eval (.tmp 41) = .bool true := slot hb 0 22 41 rfl rfl
    have s43 : a.eval (.tmp 43) = .bool true := slot hb 1 24 43 rfl rfl
    rw [if_pos (wanted_none rfl)]
    refine does_val (v := .bool true) (w' := w) ?_ ⟨rfl, Below.refl _ _⟩
    have t41 := (ev_tmp a 41).symm.trans s41
    have t43 := (ev_tmp a 43).symm.trans s43
    simp [execOp, go_sem, t41, t43]
  · intro a w hS hb hf
    have s44 : a.eval (.tmp 44) = .bool true := slot hb 0 25 44 rfl rfl
    rw [if_pos (wanted_none rfl)]
    refine does_val (v := .bool true) (w' := w) ?_ ⟨rfl, Below.refl _ _⟩
    have t44 := (ev_tmp a 44).symm.trans s44
    simp [execOp, go_sem, t44]
  · intro a w hS hb hf
    have s6 : a.eval (.tmp 6) = .int .i64 11 := (hf 6 (by kernel_rfl)).trans rfl
    have s45 : a.eval (.tmp 45) = .bool true := slot hb 0 26 45 rfl rfl
    rw [if_pos (wanted_of (g := 26) (d := 45) (b := true) rfl rfl s45)]
    refine does_val (v := .int .i64 11) (w' := w) ?_ ⟨rfl, Below.refl _ _⟩
    have t6 := (ev_tmp a 6).symm.trans s6
    simp [execOp, go_sem, t6]
  · intro a w hS hb hf
    have s46 : a.eval (.tmp 46) = .int .i64 11 := slot hb 0 27 46 rfl rfl
    have s45 : a.eval (.tmp 45) = .bool true := slot hb 1 26 45 rfl rfl
    rw [if_pos (wanted_of (g := 26) (d := 45) (b := true) rfl rfl s45)]
    refine does_val (v := .bool true) (w' := w) ?_ ⟨rfl, Below.refl _ _⟩
    have t46 := (ev_tmp a 46).symm.trans s46
    simp [execOp, go_sem, t46]
  · intro a w hS hb hf
    have s45 : a.eval (.tmp 45) = .bool true := slot hb 0 26 45 rfl rfl
    have s47 : a.eval (.tmp 47) = .bool true := slot hb 1 28 47 rfl rfl
    rw [if_pos (wanted_none rfl)]
    refine does_val (v := .bool true) (w' := w) ?_ ⟨rfl, Below.refl _ _⟩
    have t45 := (ev_tmp a 45).symm.trans s45
    have t47 := (ev_tmp a 47).symm.trans s47
    simp [execOp, go_sem, t45, t47]
  · intro a w hS hb hf
    have s48 : a.eval (.tmp 48) = .bool true := slot hb 0 29 48 rfl rfl
    rw [if_pos (wanted_none rfl)]
    refine does_val (v := .bool true) (w' := w) ?_ ⟨rfl, Below.refl _ _⟩
    have t48 := (ev_tmp a 48).symm.trans s48
    simp [execOp, go_sem, t48]
  rename_i hK
  intro a w' hb3 _ hdef hdone _
  refine hK _ _ (ret_K rfl hdef (done_slot hdone 30 0 rfl) ⟨rfl, hb3⟩)
end Go.Proofs.Ytndefppbkepikaa
