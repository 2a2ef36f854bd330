/- The contract of atof64exact, road by road. Conditions: the mantissa has at most fifty two binary digits, the table of powers lies in memory. -/
import Derived.Test.YtmeimofnmpmaoaaGreatDoorX
import Derived.Laws.FloatArith
import Derived.WalkLawsBesides
namespace Go.Proofs.YtmeimofnmpmaoaaGreatDoor
open Go.RowKit Go.Shelf

/-- The bits of a whole number with a sign. -/
def fbits (d : Nat) (neg : Bool) : Nat := if neg then floatOfInt .f64 (d : Int) + 9223372036854775808 else floatOfInt .f64 (d : Int)

theorem run_negf (b : Nat) (w : World) : (Op.unary .neg (.float .f64 b)).run Tryz.prog w = .ok (.float .f64 (Op.negFloat .f64 b)) w := rfl
attribute [local go_sem] run_negf

theorem run_mul {F T G : Nat} (h : floatBits .mul .f64 F T = some G) : ∀ w, (binOp .mul 40 (.float .f64 F) (.float .f64 T)).run Tryz.prog w = .ok (.float .f64 G) w := fun w => run_float_arith w _ _ _ _ _ _ h
theorem run_quo {F T G : Nat} (h : floatBits .quo .f64 F T = some G) : ∀ w, (binOp .quo 40 (.float .f64 F) (.float .f64 T)).run Tryz.prog w = .ok (.float .f64 G) w := fun w => run_float_arith w _ _ _ _ _ _ h

set_option maxRecDepth 20000 in
theorem exact_zero (d : Nat) (p : Int) (neg : Bool) (F0 F  : Nat) (w : World) (hd : d < 4503599627370496)
    (c8 : w.cell? ⟨8, 0, none⟩ = some (.int .u64 52))
    (hF0 : floatOfInt .f64 (d : Int) = F0) (hN : Op.negFloat .f64 F0 = F0 + 9223372036854775808) (hF : F = if neg then F0 + 9223372036854775808 else F0)
    (hp : p = 0) :
    Calls Tryz.prog 118 #[.int .u64 (d : Int), .int .i64 p, .bool neg] w fun e w' => e = .returned (.tuple #[.float .f64 F, .bool true]) ∧ w' = w := by
  have f1 : (d : Int) / 4503599627370496 = 0 := by omega

  cases neg
  · obtain rfl : F = F0 := hF
    go_enter Tryz.func118, Tryz.ntmps118
    go_wp2_with fail
    go_ret2
    exact ⟨rfl, rfl⟩
  · replace hN : Op.negFloat .f64 F0 = F := by rw [hN]; exact hF.symm
    clear hF
    go_enter Tryz.func118, Tryz.ntmps118
    go_wp2_with fail
    go_ret2
    exact ⟨rfl, rfl⟩

set_option maxRecDepth 20000 in
theorem exact_div (d : Nat) (p : Int) (neg : Bool) (F0 F k T G : Nat) (w : World) (hd : d < 4503599627370496) (tb to tc : Nat)
    (c8 : w.cell? ⟨8, 0, none⟩ = some (.int .u64 52)) (c15 : w.cell? ⟨15, 0, none⟩ = some (.slice (some ⟨tb, to, none⟩) 23 tc))
    (hF0 : floatOfInt .f64 (d : Int) = F0) (hN : Op.negFloat .f64 F0 = F0 + 9223372036854775808) (hF : F = if neg then F0 + 9223372036854775808 else F0)
    (hk : p = -(k : Int)) (k1 : 1 ≤ k) (k2 : k ≤ 22) (ck : w.cell? ⟨tb, to + k, none⟩ = some (.float .f64 T)) (hG : floatBits .quo .f64 F T = some G) :
    Calls Tryz.prog 118 #[.int .u64 (d : Int), .int .i64 p, .bool neg] w fun e w' => e = .returned (.tuple #[.float .f64 G, .bool true]) ∧ w' = w := by
  have f1 : (d : Int) / 4503599627370496 = 0 := by omega
  have p1 : p < 0 := by omega
  have p2 : ¬ p = 0 := by omega
  have p3 : ¬ p > 0 := by omega
  have p4 : p ≥ -22 := by omega
  have hq := run_quo hG
  clear hG
  cases neg
  · obtain rfl : F = F0 := hF
    go_enter Tryz.func118, Tryz.ntmps118
    go_wp2_with fail
    go_ret2
    exact ⟨rfl, rfl⟩
  · replace hN : Op.negFloat .f64 F0 = F := by rw [hN]; exact hF.symm
    clear hF
    go_enter Tryz.func118, Tryz.ntmps118
    go_wp2_with fail
    go_ret2
    exact ⟨rfl, rfl⟩

set_option maxRecDepth 20000 in
theorem exact_mul (d : Nat) (p : Int) (neg : Bool) (F0 F k T G : Nat) (w : World) (hd : d < 4503599627370496) (tb to tc : Nat)
    (c8 : w.cell? ⟨8, 0, none⟩ = some (.int .u64 52)) (c15 : w.cell? ⟨15, 0, none⟩ = some (.slice (some ⟨tb, to, none⟩) 23 tc))
    (hF0 : floatOfInt .f64 (d : Int) = F0) (hN : Op.negFloat .f64 F0 = F0 + 9223372036854775808) (hF : F = if neg then F0 + 9223372036854775808 else F0)
    (hk : p = (k : Int)) (k1 : 1 ≤ k) (k2 : k ≤ 22) (ck : w.cell? ⟨tb, to + k, none⟩ = some (.float .f64 T)) (hG : floatBits .mul .f64 F T = some G)
    (h15 : (FloatKind.f64.format.order F 4831355200913801216 == some .gt) = false) (h16 : (FloatKind.f64.format.order F 14054727237768577024 == some .lt) = false) :
    Calls Tryz.prog 118 #[.int .u64 (d : Int), .int .i64 p, .bool neg] w fun e w' => e = .returned (.tuple #[.float .f64 G, .bool true]) ∧ w' = w := by
  have f1 : (d : Int) / 4503599627370496 = 0 := by omega
  have p2 : ¬ p = 0 := by omega
  have p3 : p > 0 := by omega
  have p4 : p ≤ 37 := by omega
  have p5 : ¬ p > 22 := by omega
  have hq := run_mul hG
  clear hG
  cases neg
  · obtain rfl : F = F0 := hF
    go_enter Tryz.func118, Tryz.ntmps118
    go_wp2_with fail
    go_ret2
    exact ⟨rfl, rfl⟩
  · replace hN : Op.negFloat .f64 F0 = F := by rw [hN]; exact hF.symm
    clear hF
    go_enter Tryz.func118, Tryz.ntmps118
    go_wp2_with fail
    go_ret2
    exact ⟨rfl, rfl⟩

set_option maxRecDepth 20000 in
theorem exact_far (d : Nat) (p : Int) (neg : Bool) (F0 F  : Nat) (w : World) (hd : d < 4503599627370496)
    (c8 : w.cell? ⟨8, 0, none⟩ = some (.int .u64 52))
    (hF0 : floatOfInt .f64 (d : Int) = F0) (hN : Op.negFloat .f64 F0 = F0 + 9223372036854775808) (hF : F = if neg then F0 + 9223372036854775808 else F0)
    (hk : p < -22 ∨ 37 < p) :
    Calls Tryz.prog 118 #[.int .u64 (d : Int), .int .i64 p, .bool neg] w fun e w' => e = .returned (.tuple #[.float .f64 F, .bool false]) ∧ w' = w := by
  have f1 : (d : Int) / 4503599627370496 = 0 := by omega
  have p2 : ¬ p = 0 := by omega
  rcases hk with hk | hk
  all_goals cases neg
  · obtain rfl : F = F0 := hF
    have p3 : ¬ p > 0 := by omega
    have p4 : p < 0 := by omega
    have p5 : ¬ p ≥ -22 := by omega
    go_enter Tryz.func118, Tryz.ntmps118
    go_wp2_with fail
    go_ret2
    exact ⟨rfl, rfl⟩
  · replace hN : Op.negFloat .f64 F0 = F := by rw [hN]; exact hF.symm
    clear hF
    go_enter Tryz.func118, Tryz.ntmps118
    go_wp2_with fail
    go_ret2
    exact ⟨rfl, rfl⟩
  · obtain rfl : F = F0 := hF
    have p3 : p > 0 := by omega
    have p4 : ¬ p < 0 := by omega
    have p5 : ¬ p ≤ 37 := by omega
    go_enter Tryz.func118, Tryz.ntmps118
    go_wp2_with fail
    go_ret2
    exact ⟨rfl, rfl⟩
  · replace hN : Op.negFloat .f64 F0 = F := by rw [hN]; exact hF.symm
    clear hF
    go_enter Tryz.func118, Tryz.ntmps118
    go_wp2_with fail
    go_ret2
    exact ⟨rfl, rfl⟩

set_option maxRecDepth 20000 in
theorem exact_big (d : Nat) (p : Int) (neg : Bool) (F0 F k T1 T2 F2 G : Nat) (w : World) (hd : d < 4503599627370496) (tb to tc : Nat)
    (c8 : w.cell? ⟨8, 0, none⟩ = some (.int .u64 52)) (c15 : w.cell? ⟨15, 0, none⟩ = some (.slice (some ⟨tb, to, none⟩) 23 tc))
    (hF0 : floatOfInt .f64 (d : Int) = F0) (hN : Op.negFloat .f64 F0 = F0 + 9223372036854775808) (hF : F = if neg then F0 + 9223372036854775808 else F0)
    (hk : p = (k : Int) + 22) (k1 : 1 ≤ k) (k2 : k ≤ 15) (ck : w.cell? ⟨tb, to + k, none⟩ = some (.float .f64 T1)) (c22 : w.cell? ⟨tb, to + 22, none⟩ = some (.float .f64 T2)) (hF2 : floatBits .mul .f64 F T1 = some F2) (hG : floatBits .mul .f64 F2 T2 = some G)
    (h15 : (FloatKind.f64.format.order F2 4831355200913801216 == some .gt) = false) (h16 : (FloatKind.f64.format.order F2 14054727237768577024 == some .lt) = false) :
    Calls Tryz.prog 118 #[.int .u64 (d : Int), .int .i64 p, .bool neg] w fun e w' => e = .returned (.tuple #[.float .f64 G, .bool true]) ∧ w' = w := by
  have f1 : (d : Int) / 4503599627370496 = 0 := by omega
  have p2 : ¬ p = 0 := by omega
  have p3 : p > 0 := by omega
  have p4 : p ≤ 37 := by omega
  have p5 : p > 22 := by omega
  have hq := run_mul hG
  have hq2 := run_mul hF2
  clear hG hF2
  cases neg
  · obtain rfl : F = F0 := hF
    go_enter Tryz.func118, Tryz.ntmps118
    go_wp2_with fail
    go_ret2
    exact ⟨rfl, rfl⟩
  · replace hN : Op.negFloat .f64 F0 = F := by rw [hN]; exact hF.symm
    clear hF
    go_enter Tryz.func118, Tryz.ntmps118
    go_wp2_with fail
    go_ret2
    exact ⟨rfl, rfl⟩

set_option maxRecDepth 20000 in
theorem exact_off (d : Nat) (p : Int) (neg : Bool) (F0 F k T1 F2 : Nat) (w : World) (hd : d < 4503599627370496) (tb to tc : Nat)
    (c8 : w.cell? ⟨8, 0, none⟩ = some (.int .u64 52)) (c15 : w.cell? ⟨15, 0, none⟩ = some (.slice (some ⟨tb, to, none⟩) 23 tc))
    (hF0 : floatOfInt .f64 (d : Int) = F0) (hN : Op.negFloat .f64 F0 = F0 + 9223372036854775808) (hF : F = if neg then F0 + 9223372036854775808 else F0)
    (hk : p = (k : Int) + 22) (k1 : 1 ≤ k) (k2 : k ≤ 15) (ck : w.cell? ⟨tb, to + k, none⟩ = some (.float .f64 T1)) (hF2 : floatBits .mul .f64 F T1 = some F2)
    (h15 : neg = false → (FloatKind.f64.format.order F2 4831355200913801216 == some .gt) = true) (h16 : neg = true → (FloatKind.f64.format.order F2 4831355200913801216 == some .gt) = false ∧ (FloatKind.f64.format.order F2 14054727237768577024 == some .lt) = true) :
    Calls Tryz.prog 118 #[.int .u64 (d : Int), .int .i64 p, .bool neg] w fun e w' => e = .returned (.tuple #[.float .f64 F2, .bool false]) ∧ w' = w := by
  have f1 : (d : Int) / 4503599627370496 = 0 := by omega
  have p2 : ¬ p = 0 := by omega
  have p3 : p > 0 := by omega
  have p4 : p ≤ 37 := by omega
  have p5 : p > 22 := by omega
  have hq2 := run_mul hF2
  clear hF2
  cases neg
  · obtain rfl : F = F0 := hF
    have g := h15 rfl
    clear h15 h16
    go_enter Tryz.func118, Tryz.ntmps118
    go_wp2_with fail
    go_ret2
    exact ⟨rfl, rfl⟩
  · replace hN : Op.negFloat .f64 F0 = F := by rw [hN]; exact hF.symm
    clear hF
    go_enter Tryz.func118, Tryz.ntmps118
    go_wp2_with fail
    go_ret2
    exact ⟨rfl, rfl⟩

end Go.Proofs.YtmeimofnmpmaoaaGreatDoor
