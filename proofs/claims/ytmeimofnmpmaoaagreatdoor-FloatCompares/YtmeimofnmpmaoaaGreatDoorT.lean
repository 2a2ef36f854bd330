/- The contracts of atof64, ParseFloat and nearest's road, out of those of their callees. -/
import Derived.Test.YtmeimofnmpmaoaaGreatDoorRn
import Derived.Test.YtmeimofnmpmaoaaGreatDoorQ
namespace Go.Proofs.YtmeimofnmpmaoaaGreatDoor
open Go.RowKit Go.Shelf
attribute [local go_sem] frombits_run

def SpecialNo (s : ByteArray) : Prop := ∀ w, Calls Tryz.prog 107 #[.string s] w fun e w' => e = .returned (.tuple #[.float .f64 0, .int .i64 0, .bool false]) ∧ w' = w
def Reads (s : ByteArray) (d : Nat) (p : Int) (neg : Bool) : Prop := ∀ w, Calls Tryz.prog 108 #[.string s] w fun e w' =>
  e = .returned (.tuple #[.int .u64 (d : Int), .int .i64 p, .bool neg, .bool false, .bool false, .int .i64 (s.size : Int), .bool true]) ∧ w' = w

theorem shl63 (neg : Bool) (k sw : Nat) (hk : Hid (k = if neg then 1 else 0)) (hsw : Hid (sw = (if neg then 1 else 0) * 9223372036854775808)) : IntKind.u64.wrap ((k : Int) * 9223372036854775808) = (sw : Int) := by
  rw [hk.out, hsw.out, IntKind.wrap_u64]; cases neg <;> rfl

set_option maxRecDepth 20000 in
theorem atof_ex (s : ByteArray) (d : Nat) (p : Int) (neg : Bool) (G : Nat) (w : World) (hS : SpecialNo s) (hR : Reads s d p neg) (d0 : d ≠ 0) (p0 : -345 ≤ p) (p1 : p ≤ 310)
    (c2 : w.cell? ⟨2, 0, none⟩ = some (.bool true))
    (hX : Calls Tryz.prog 118 #[.int .u64 (d : Int), .int .i64 p, .bool neg] w fun e w' => e = .returned (.tuple #[.float .f64 G, .bool true]) ∧ w' = w) :
    Calls Tryz.prog 78 #[.string s] w fun e w' => e = .returned (.tuple #[.float .f64 G, .int .i64 (s.size : Int), .nilIface]) ∧ w' = w := by
  obtain ⟨k, hk⟩ : ∃ k : Nat, Hid (k = if neg then 1 else 0) := ⟨_, rfl⟩
  obtain ⟨sw, hsw⟩ : ∃ k : Nat, Hid (k = (if neg then 1 else 0) * 9223372036854775808) := ⟨_, rfl⟩
  have h63 := shl63 neg k sw hk hsw
  have d1 : ¬ (d : Int) = 0 := by omega
  have p2 : ¬ p > 310 := by omega
  have p3 : ¬ p < -345 := by omega
  clear p0 p1
  go_enter Tryz.func78, Tryz.ntmps78
  go_wp2_with fail
  refine (hS _).mono ?_
  rintro e w' ⟨rfl, hw'⟩; rw [hw']; clear hw' w'
  go_wp2_with fail
  refine (hR _).mono ?_
  rintro e w' ⟨rfl, hw'⟩; rw [hw']; clear hw' w'
  go_wp2_with fail
  refine (bool64_v neg k hk _).mono ?_
  rintro e w' ⟨rfl, hw'⟩; rw [hw']; clear hw' w'
  go_wp2_with fail
  refine hX.mono ?_
  rintro e w' ⟨rfl, hw'⟩; rw [hw']; clear hw' w'
  go_wp2_with fail
  go_ret3
  exact ⟨rfl, rfl⟩

set_option maxRecDepth 20000 in
theorem atof_sc (s : ByteArray) (d : Nat) (p : Int) (neg : Bool) (F G : Nat) (w : World) (hS : SpecialNo s) (hR : Reads s d p neg) (d0 : d ≠ 0) (p0 : -345 ≤ p) (p1 : p ≤ 310)
    (c2 : w.cell? ⟨2, 0, none⟩ = some (.bool true))
    (hX : Calls Tryz.prog 118 #[.int .u64 (d : Int), .int .i64 p, .bool neg] w fun e w' => e = .returned (.tuple #[.float .f64 F, .bool false]) ∧ w' = w)
    (hP : Calls Tryz.prog 119 #[.int .u64 (d : Int), .int .i64 p, .int .u64 (((if neg then 1 else 0) * 9223372036854775808 : Nat) : Int)] w fun e w' => e = .returned (.tuple #[.float .f64 G, .nilIface]) ∧ Below w.heap.size w w') :
    Calls Tryz.prog 78 #[.string s] w fun e w' => e = .returned (.tuple #[.float .f64 G, .int .i64 (s.size : Int), .nilIface]) ∧ Below w.heap.size w w' := by
  obtain ⟨k, hk⟩ : ∃ k : Nat, Hid (k = if neg then 1 else 0) := ⟨_, rfl⟩
  obtain ⟨sw, hsw⟩ : ∃ k : Nat, Hid (k = (if neg then 1 else 0) * 9223372036854775808) := ⟨_, rfl⟩
  rw [← hsw.out] at hP
  have h63 := shl63 neg k sw hk hsw
  have d1 : ¬ (d : Int) = 0 := by omega
  have p2 : ¬ p > 310 := by omega
  have p3 : ¬ p < -345 := by omega
  clear p0 p1
  go_enter Tryz.func78, Tryz.ntmps78
  go_wp2_with fail
  refine (hS _).mono ?_
  rintro e w' ⟨rfl, hw'⟩; rw [hw']; clear hw' w'
  go_wp2_with fail
  refine (hR _).mono ?_
  rintro e w' ⟨rfl, hw'⟩; rw [hw']; clear hw' w'
  go_wp2_with fail
  refine (bool64_v neg k hk _).mono ?_
  rintro e w' ⟨rfl, hw'⟩; rw [hw']; clear hw' w'
  go_wp2_with fail
  refine hX.mono ?_
  rintro e w' ⟨rfl, hw'⟩; rw [hw']; clear hw' w'
  go_wp2_with fail
  refine hP.mono ?_
  rintro e w' ⟨rfl, hw'⟩
  go_wp2_with fail
  go_ret3
  exact ⟨rfl, hw'⟩

set_option maxRecDepth 20000 in
theorem parsefloat (s : ByteArray) (G : Nat) (w : World) (hA : Calls Tryz.prog 78 #[.string s] w fun e w' => e = .returned (.tuple #[.float .f64 G, .int .i64 (s.size : Int), .nilIface]) ∧ Below w.heap.size w w') :
    Calls Tryz.prog 28 #[.string s, .int .i64 64] w fun e w' => e = .returned (.tuple #[.float .f64 G, .nilIface]) ∧ Below w.heap.size w w' := by
  have h52 : Calls Tryz.prog 52 #[.string s, .int .i64 64] w fun e w' => e = .returned (.tuple #[.float .f64 G, .int .i64 (s.size : Int), .nilIface]) ∧ Below w.heap.size w w' := by
    go_enter Tryz.func52, Tryz.ntmps52
    go_wp2_with fail
    refine hA.mono ?_
    rintro e w' ⟨rfl, hw'⟩
    go_wp2_with fail
    go_ret3
    exact ⟨rfl, hw'⟩
  have h40 : Calls Tryz.prog 40 #[.string s, .int .i64 64] w fun e w' => e = .returned (.tuple #[.float .f64 G, .nilIface]) ∧ Below w.heap.size w w' := by
    go_enter Tryz.func40, Tryz.ntmps40
    go_wp2_with fail
    refine h52.mono ?_
    rintro e w' ⟨rfl, hw'⟩
    go_wp2_with fail
    go_ret2
    exact ⟨rfl, hw'⟩
  go_enter Tryz.func28, Tryz.ntmps28
  go_wp2_with fail
  refine h40.mono ?_
  rintro e w' ⟨rfl, hw'⟩
  go_wp2_with fail
  go_ret2
  exact ⟨rfl, hw'⟩
end Go.Proofs.YtmeimofnmpmaoaaGreatDoor
