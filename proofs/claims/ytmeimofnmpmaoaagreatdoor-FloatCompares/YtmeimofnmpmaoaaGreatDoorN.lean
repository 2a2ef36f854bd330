/- The contracts of nearest and Bits, out of ParseFloat's. -/
import Derived.Test.YtmeimofnmpmaoaaGreatDoorT
import Derived.Test.YtmeimofnmpmaoaaGreatDoorG
namespace Go.Proofs.YtmeimofnmpmaoaaGreatDoor
open Go.RowKit Go.Shelf

theorem below_grow {B : Nat} {w : World} (h : B ≤ w.heap.size) (k : Nat) (os : Array Obj) : Below B w (Sort.grow (w.drewN k) os) := by
  refine ⟨rfl, rfl, rfl, by simp [Sort.grow], fun i hi => ?_⟩
  show (w.heap ++ os)[i]? = _
  rw [Array.getElem?_append_left (by omega)]

theorem fmtint_any (n : Int) (h0 : -9223372036854775808 ≤ n) (h1 : n ≤ 9223372036854775807) (t : ByteArray) (ht : Hid (t = ⟨(Lib.itoa n).toArray⟩)) (w : World) (htab : Lib.TabIs Tryz.prog w "internal/strconv.uint64pow10" .u64 Lib.pow10Tab) :
    Calls Tryz.prog 26 #[.int .i64 n, .int .i64 10] w fun e w' => e = .returned (.string t) ∧ ∃ k os, w' = Sort.grow (w.drewN k) os := by
  rw [ht.out]; exact Any.strconv_FormatInt_10 Tryz.laysFormatInt n h0 h1 w htab
theorem itoa_any (n : Int) (h0 : -9223372036854775808 ≤ n) (h1 : n ≤ 9223372036854775807) (t : ByteArray) (ht : Hid (t = ⟨(Lib.itoa n).toArray⟩)) (w : World) (htab : Lib.TabIs Tryz.prog w "internal/strconv.uint64pow10" .u64 Lib.pow10Tab) :
    Calls Tryz.prog 27 #[.int .i64 n] w fun e w' => e = .returned (.string t) ∧ ∃ k os, w' = Sort.grow (w.drewN k) os := by
  rw [ht.out]; exact Any.strconv_Itoa Tryz.laysItoa n h0 h1 w htab

theorem cat (a b : ByteArray) (h : a.size + b.size ≤ 1000) : Op.stringOp .add a b = pure (.string (a ++ b)) := by
  unfold Op.stringOp
  simp only []
  rw [if_neg]
  simp [IntKind.max, IntKind.signed, IntKind.bits]
  omega

set_option maxHeartbeats 2000000 in
theorem nearest_any (M E S : Int) (m0 : -9223372036854775808 ≤ M) (m1 : M ≤ 9223372036854775807) (e0 : -9223372036854775808 ≤ E) (e1 : E ≤ 9223372036854775807) (t1 t2 : ByteArray) (ht1 : Hid (t1 = ⟨(Lib.itoa M).toArray⟩)) (ht2 : Hid (t2 = ⟨(Lib.itoa E).toArray⟩)) (l1 : t1.size ≤ 100) (l2 : t2.size ≤ 100) (tb : ByteArray) (htb : Hid (tb = t1 ++ ⟨#[101]⟩ ++ t2)) (w : World) (G : Nat)
    (htab : ∀ w', Below w.heap.size w w' → Lib.TabIs Tryz.prog w' "internal/strconv.uint64pow10" .u64 Lib.pow10Tab)
    (hP : ∀ w', Below w.heap.size w w' → Calls Tryz.prog 28 #[.string tb, .int .i64 64] w' fun e w'' => e = .returned (.tuple #[.float .f64 G, .nilIface]) ∧ Below w'.heap.size w' w'') :
    Calls Tryz.prog 20 #[val M E S] w fun e w' => e = .returned (.float .f64 G) ∧ Below w.heap.size w w' := by
  have bl : Below w.heap.size w (w.alloc (.cells #[.int .i64 M, .int .i64 E, .int .i64 S] 23)) := (Below.refl _ _).alloc (Nat.le_refl _) _
  obtain ⟨ta, hta⟩ : ∃ ta, Hid (ta = t1 ++ ⟨#[101]⟩) := ⟨_, rfl⟩
  have k1 : Op.stringOp .add t1 ⟨#[101]⟩ = pure (.string ta) := by rw [hta.out]; exact cat _ _ (by show t1.size + 1 ≤ _; omega)
  have k2 : Op.stringOp .add ta t2 = pure (.string tb) := by rw [htb.out, hta.out]; exact cat _ _ (by rw [ByteArray.size_append]; show t1.size + 1 + _ ≤ _; omega)
  go_enter Tryz.func20, Tryz.ntmps20
  go_wp2_with fail
  have T0 : ∀ w', Below w.heap.size w w' → ∀ n, Lib.TabIs Tryz.prog (w'.drewN n) "internal/strconv.uint64pow10" .u64 Lib.pow10Tab := fun w' h n => htab _ (h.trans ⟨rfl, rfl, rfl, Nat.le_refl _, fun _ _ => rfl⟩)
  have C0 : ∀ (W : World) (k : Nat) (os : Array Obj), W = Sort.grow ((w.alloc (.cells #[.int .i64 M, .int .i64 E, .int .i64 S] 23)).drew.drewN k) os → Below w.heap.size w W ∧ W.cell? ⟨w.heap.size, 1, none⟩ = some (.int .i64 E) := fun W k os h => by
    have hb : Below (w.heap.size + 1) (w.alloc (.cells #[.int .i64 M, .int .i64 E, .int .i64 S] 23)) W := by
      rw [h]; exact (Below.refl _ _).drew.trans (below_grow (by simp) k os)
    refine ⟨bl.trans (hb.mono (by omega)), ?_⟩
    rw [hb.cell (by simp)]; simp
  go_region_with (first
    | (go_at_call 26; refine (fmtint_any M m0 m1 t1 ht1 _ (T0 _ bl 1)).mono ?_; rintro e w' ⟨rfl, k1, os1, hw1⟩; obtain ⟨b1, c1⟩ := C0 _ _ _ hw1; clear hw1)
    | (go_at_call 27; refine (itoa_any E e0 e1 t2 ht2 _ (htab _ b1)).mono ?_; rintro e w'' ⟨rfl, k2, os2, hw2⟩))
  all_goals (
    go_wp2_with fail
    have b2 := b1.trans (below_grow b1.size k2 os2)
    refine (hP _ b2).mono ?_
    rintro e w3 ⟨rfl, b3⟩
    go_wp2_with fail
    go_ret
    exact ⟨rfl, b2.trans (b3.mono b2.size)⟩)

theorem bits_run (n : Nat) (w : World) : (callFunc 19 #[.float .f64 n]).run Tryz.prog w = .ok (.value (.int .u64 (n : Int))) w := by
  rw [run_callFunc_extern (e := Extern.MathFloatBits.float64bits) Tryz.func19 (by kernel_rfl) (by kernel_rfl) (by kernel_rfl) (by kernel_rfl)]
  rfl
attribute [local go_sem] bits_run

theorem bits_not (M E S : Int) (hn : mayBe M E S = false) (w : World) :
    Calls Tryz.prog 10 #[val M E S] w fun e w' => e = .returned (.tuple #[.int .u64 0, .int .i64 20]) ∧ Below w.heap.size w w' := by
  go_enter Tryz.func10, Tryz.ntmps10
  go_wp2_with fail
  refine (right_any M E S false hn.symm _).mono ?_
  rintro e w' ⟨rfl, hw'⟩; rw [hw']; clear hw' w'
  go_wp2_with fail
  go_ret2
  exact ⟨rfl, ((Below.refl _ _).alloc (Nat.le_refl _) _).alloc (by simp) _⟩

theorem bits_mark (S : Int) (k : Nat) (h0 : 1 ≤ S) (h1 : S ≤ 4) (w : World) (h9 : 9 < w.heap.size) (hc : w.cell? ⟨0, S.toNat, none⟩ = some (.int .u64 (k : Int))) :
    Calls Tryz.prog 10 #[val 0 0 S] w fun e w' => e = .returned (.tuple #[.int .u64 (k : Int), .int .i64 0]) ∧ Below w.heap.size w w' := by
  have s0 : ¬ S = 0 := by omega
  have hm : mayBe 0 0 S = true := by simp [mayBe, s0, h0, h1]
  have z : 0 < w.heap.size := by omega
  have z' : 0 < w.heap.size + 1 := by omega
  have s5 : S < 5 := by omega
  go_enter Tryz.func10, Tryz.ntmps10
  go_wp2_with fail
  refine (right_any 0 0 S true hm.symm _).mono ?_
  rintro e w' ⟨rfl, hw'⟩; rw [hw']; clear hw' w'
  go_wp2_with fail
  go_ret2
  exact ⟨rfl, ((Below.refl _ _).alloc (Nat.le_refl _) _).alloc (by simp) _⟩

theorem bits_num (M E : Int) (G : Nat) (hm : mayBe M E 0 = true) (w : World)
    (hN : ∀ w', Below w.heap.size w w' → Calls Tryz.prog 20 #[val M E 0] w' fun e w'' => e = .returned (.float .f64 G) ∧ Below w'.heap.size w' w'') :
    Calls Tryz.prog 10 #[val M E 0] w fun e w' => e = .returned (.tuple #[.int .u64 (G : Int), .int .i64 0]) ∧ Below w.heap.size w w' := by
  have bl : Below w.heap.size w ((w.alloc (.cells #[.int .i64 M, .int .i64 E, .int .i64 0] 23)).alloc (.cells #[.int .i64 M, .int .i64 E, .int .i64 0] 23)) := ((Below.refl _ _).alloc (Nat.le_refl _) _).alloc (by simp) _
  go_enter Tryz.func10, Tryz.ntmps10
  go_wp2_with fail
  refine (right_any M E 0 true hm.symm _).mono ?_
  rintro e w' ⟨rfl, hw'⟩; rw [hw']; clear hw' w'
  go_wp2_with fail
  refine (hN _ bl).mono ?_
  rintro e w' ⟨rfl, hb⟩
  go_wp2_with fail
  go_ret2
  exact ⟨rfl, bl.trans (hb.mono bl.size)⟩
end Go.Proofs.YtmeimofnmpmaoaaGreatDoor
