/- Numbers compared; the contract of Ints. Conditions: how the rows lie; sizes. -/
import Derived.Test.YtkojbpifcflgfaaMoi
import Derived.Test.YtkojbpifcflgfaaPi
namespace Go.Proofs.Ytkojbpifcflgfaa
open Go.RowKit Go.Shelf
attribute [local go_sem] Oper.semAt_some

def ltI (x y : Int) : Bool := decide (x < y)
theorem stoI : STO ltI := ⟨fun x => by simp [ltI], fun x y z h1 h2 => by simp [ltI] at *; omega, fun x y h1 h2 => by simp [ltI] at *; omega⟩
/-- cmp.Compare of numbers. -/
def cfI (x y : Int) : Int := if x < y then -1 else if y < x then 1 else 0
theorem cfI_lt (x y : Int) : decide (cfI x y < 0) = ltI x y := by
  unfold cfI ltI
  by_cases h : x < y
  · simp [h]
  · by_cases h2 : y < x <;> simp [h, h2]
theorem cfI_zero {x y : Int} : cfI x y = 0 ↔ x = y := by
  unfold cfI
  by_cases h : x < y
  · simp [h]; omega
  · by_cases h2 : y < x
    · simp [h, h2]; omega
    · simp [h, h2]; omega
def kI (w : World) : I.Ks Int := ⟨Value.int .i64, 29, cfI, w.heap.size, w⟩
theorem kI_lt (w : World) (x y : Int) : (kI w).lt x y = ltI x y := cfI_lt x y

theorem isNaN_any (x : Int) (w : World) : Calls Try.prog 44 #[.int .i64 x] w fun e w' => e = .returned (.bool false) ∧ w' = w := by
  go_enter Try.func44, Try.ntmps44
  go_wp2
  go_ret
  simp
theorem cmpI_any (x y : Int) (w : World) : Calls Try.prog 29 #[.int .i64 x, .int .i64 y] w fun e w' => e = .returned (.int .i64 (cfI x y)) ∧ w' = w := by
  have hn : ∀ z, Hid (∀ w, Calls Try.prog 44 #[.int .i64 z] w fun e w' => e = .returned (.bool false) ∧ w' = w) := fun z => fun w => isNaN_any z w
  have HX := hn x
  have HY := hn y
  clear hn
  unfold cfI
  by_cases h : x < y
  · rw [if_pos h]
    go_enter Try.func29, Try.ntmps29
    go_wp2_with fail
    refine Calls.mono (HX.out _) ?_
    rintro e w1 ⟨rfl, e1⟩; rw [e1]; clear e1 w1
    go_wp2_with fail
    refine Calls.mono (HY.out _) ?_
    rintro e w1 ⟨rfl, e1⟩; rw [e1]; clear e1 w1
    go_wp2
    go_ret
    exact ⟨rfl, rfl⟩
  · rw [if_neg h]
    by_cases h2 : y < x
    · rw [if_pos h2]
      go_enter Try.func29, Try.ntmps29
      go_wp2_with fail
      refine Calls.mono (HX.out _) ?_
      rintro e w1 ⟨rfl, e1⟩; rw [e1]; clear e1 w1
      go_wp2_with fail
      refine Calls.mono (HY.out _) ?_
      rintro e w1 ⟨rfl, e1⟩; rw [e1]; clear e1 w1
      go_wp2
      go_ret
      exact ⟨rfl, rfl⟩
    · rw [if_neg h2]
      go_enter Try.func29, Try.ntmps29
      go_wp2_with fail
      refine Calls.mono (HX.out _) ?_
      rintro e w1 ⟨rfl, e1⟩; rw [e1]; clear e1 w1
      go_wp2_with fail
      refine Calls.mono (HY.out _) ?_
      rintro e w1 ⟨rfl, e1⟩; rw [e1]; clear e1 w1
      go_wp2
      go_ret
      exact ⟨rfl, rfl⟩
theorem okI (w : World) : I.Ok (kI w) where
  shp x := ⟨x, rfl⟩
  one _ := rfl
  one' _ := rfl
  swo := ⟨fun x => by rw [kI_lt]; exact stoI.irr x, fun x y z h1 h2 => by rw [kI_lt] at *; exact stoI.tr _ _ _ h1 h2, fun x y z h1 h2 => by rw [kI_lt] at *; simp [ltI] at *; omega⟩
  cmp x y W _ := (cmpI_any x y W).mono fun _ _ ⟨h1, h2⟩ => ⟨h1, 0, h2⟩
  enters := enters_of Try.func29 (by kernel_rfl) rfl
theorem totI (w : World) : I.Tot (kI w) where
  refl x := cfI_zero.2 rfl
  symm x y h := cfI_zero.2 (cfI_zero.1 h).symm
  eqt x y z h1 h2 := cfI_zero.2 ((cfI_zero.1 h1).trans (cfI_zero.1 h2))
  lte x y z h1 h2 := by rw [← cfI_zero.1 h2]; exact h1
  elt x y z h1 h2 := by rw [cfI_zero.1 h1]; exact h2
  tot x y h1 h2 := by
    rw [kI_lt] at *
    exact stoI.tt x y (fun e => h2 (cfI_zero.2 e)) h1
end Go.Proofs.Ytkojbpifcflgfaa
