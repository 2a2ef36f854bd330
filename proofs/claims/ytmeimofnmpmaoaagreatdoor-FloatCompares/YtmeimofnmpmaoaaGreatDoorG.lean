/- The contracts of Right, of the program and of the document. Conditions: the three numbers fit. -/
import Derived.Test.YtmeimofnmpmaoaaGreatDoorX
namespace Go.Proofs.YtmeimofnmpmaoaaGreatDoor
open Go.RowKit Go.Shelf

abbrev val (M E S : Int) : Value := .agg #[.int .i64 M, .int .i64 E, .int .i64 S]

/-- May a value be? -/
def mayBe (M E S : Int) : Bool :=
  if S = 0 then (if M = 0 then decide (E = 0) else decide (-1000000000000000 < M ∧ M < 1000000000000000 ∧ ¬ M.tmod 10 = 0 ∧ -300 ≤ E ∧ E ≤ 290))
  else decide (1 ≤ S ∧ S ≤ 4 ∧ M = 0 ∧ E = 0)

theorem right_any (M E S : Int) (b : Bool) (hb : Hid (b = mayBe M E S)) (w : World) :
    Calls Tryz.prog 12 #[val M E S] w fun e w' => e = .returned (.bool b) ∧ w' = w.alloc (.cells #[.int .i64 M, .int .i64 E, .int .i64 S] 23) := by
  have hb' := hb.out
  go_enter Tryz.func12, Tryz.ntmps12
  by_cases hS : S = 0
  · by_cases hM : M = 0
    · subst hS; subst hM
      obtain rfl : b = decide (E = 0) := by rw [hb']; simp [mayBe]
      clear hb hb'
      go_wp2
      go_ret
      exact ⟨by first | rfl | (simp_all; done), by first | rfl | (simp_all; done)⟩
    · have g : b = decide (-1000000000000000 < M ∧ M < 1000000000000000 ∧ ¬ M.tmod 10 = 0 ∧ -300 ≤ E ∧ E ≤ 290) := by rw [hb']; simp [mayBe, hS, hM]
      subst hS
      clear hb hb'
      by_cases h1 : -1000000000000000 < M
      · by_cases h2 : M < 1000000000000000
        · by_cases h3 : M.tmod 10 = 0
          · obtain rfl : b = false := by rw [g]; simp [h3]
            clear g
            go_wp2
            go_ret
            exact ⟨by first | rfl | (simp_all; done), by first | rfl | (simp_all; done)⟩
          · by_cases h4 : -300 ≤ E
            · by_cases h5 : E ≤ 290
              · obtain rfl : b = true := by rw [g]; simp [h1, h2, h3, h4, h5]
                clear g
                go_wp2
                go_ret
                exact ⟨by first | rfl | (simp_all; done), by first | rfl | (simp_all; done)⟩
              · obtain rfl : b = false := by rw [g]; simp [h5]
                clear g
                go_wp2
                go_ret
                exact ⟨by first | rfl | (simp_all; done), by first | rfl | (simp_all; done)⟩
            · obtain rfl : b = false := by rw [g]; simp [h4]
              clear g
              go_wp2
              go_ret
              exact ⟨by first | rfl | (simp_all; done), by first | rfl | (simp_all; done)⟩
        · obtain rfl : b = false := by rw [g]; simp [h2]
          clear g
          go_wp2
          go_ret
          exact ⟨by first | rfl | (simp_all; done), by first | rfl | (simp_all; done)⟩
      · obtain rfl : b = false := by rw [g]; simp [h1]
        clear g
        go_wp2
        go_ret
        exact ⟨by first | rfl | (simp_all; done), by first | rfl | (simp_all; done)⟩
  · have g : b = decide (1 ≤ S ∧ S ≤ 4 ∧ M = 0 ∧ E = 0) := by rw [hb']; simp [mayBe, hS]
    clear hb hb'
    by_cases h1 : 1 ≤ S
    · by_cases h2 : S ≤ 4
      · by_cases h3 : M = 0
        · by_cases h4 : E = 0
          · obtain rfl : b = true := by rw [g]; simp [h1, h2, h3, h4]
            clear g
            go_wp2
            go_ret
            exact ⟨by first | rfl | (simp_all; done), by first | rfl | (simp_all; done)⟩
          · obtain rfl : b = false := by rw [g]; simp [h4]
            clear g
            go_wp2
            go_ret
            exact ⟨by first | rfl | (simp_all; done), by first | rfl | (simp_all; done)⟩
        · obtain rfl : b = false := by rw [g]; simp [h3]
          clear g
          go_wp2
          go_ret
          exact ⟨by first | rfl | (simp_all; done), by first | rfl | (simp_all; done)⟩
      · obtain rfl : b = false := by rw [g]; simp [h2]
        clear g
        go_wp2
        go_ret
        exact ⟨by first | rfl | (simp_all; done), by first | rfl | (simp_all; done)⟩
    · obtain rfl : b = false := by rw [g]; simp [h1]
      clear g
      go_wp2
      go_ret
      exact ⟨by first | rfl | (simp_all; done), by first | rfl | (simp_all; done)⟩
theorem refright_any (M E S : Int) (b : Bool) (hb : Hid (b = mayBe M E S)) (w : World) :
    Calls Tryz.prog 13 #[val M E S] w fun e w' => e = .returned (.bool b) ∧ w' = w.alloc (.cells #[.int .i64 M, .int .i64 E, .int .i64 S] 23) := by
  have hb' := hb.out
  go_enter Tryz.func13, Tryz.ntmps13
  by_cases hS : S = 0
  · by_cases hM : M = 0
    · subst hS; subst hM
      obtain rfl : b = decide (E = 0) := by rw [hb']; simp [mayBe]
      clear hb hb'
      go_wp2
      go_ret
      exact ⟨by first | rfl | (simp_all; done), by first | rfl | (simp_all; done)⟩
    · have g : b = decide (-1000000000000000 < M ∧ M < 1000000000000000 ∧ ¬ M.tmod 10 = 0 ∧ -300 ≤ E ∧ E ≤ 290) := by rw [hb']; simp [mayBe, hS, hM]
      subst hS
      clear hb hb'
      by_cases h1 : -1000000000000000 < M
      · by_cases h2 : M < 1000000000000000
        · by_cases h3 : M.tmod 10 = 0
          · obtain rfl : b = false := by rw [g]; simp [h3]
            clear g
            go_wp2
            go_ret
            exact ⟨by first | rfl | (simp_all; done), by first | rfl | (simp_all; done)⟩
          · by_cases h4 : -300 ≤ E
            · by_cases h5 : E ≤ 290
              · obtain rfl : b = true := by rw [g]; simp [h1, h2, h3, h4, h5]
                clear g
                go_wp2
                go_ret
                exact ⟨by first | rfl | (simp_all; done), by first | rfl | (simp_all; done)⟩
              · obtain rfl : b = false := by rw [g]; simp [h5]
                clear g
                go_wp2
                go_ret
                exact ⟨by first | rfl | (simp_all; done), by first | rfl | (simp_all; done)⟩
            · obtain rfl : b = false := by rw [g]; simp [h4]
              clear g
              go_wp2
              go_ret
              exact ⟨by first | rfl | (simp_all; done), by first | rfl | (simp_all; done)⟩
        · obtain rfl : b = false := by rw [g]; simp [h2]
          clear g
          go_wp2
          go_ret
          exact ⟨by first | rfl | (simp_all; done), by first | rfl | (simp_all; done)⟩
      · obtain rfl : b = false := by rw [g]; simp [h1]
        clear g
        go_wp2
        go_ret
        exact ⟨by first | rfl | (simp_all; done), by first | rfl | (simp_all; done)⟩
  · have g : b = decide (1 ≤ S ∧ S ≤ 4 ∧ M = 0 ∧ E = 0) := by rw [hb']; simp [mayBe, hS]
    clear hb hb'
    by_cases h1 : 1 ≤ S
    · by_cases h2 : S ≤ 4
      · by_cases h3 : M = 0
        · by_cases h4 : E = 0
          · obtain rfl : b = true := by rw [g]; simp [h1, h2, h3, h4]
            clear g
            go_wp2
            go_ret
            exact ⟨by first | rfl | (simp_all; done), by first | rfl | (simp_all; done)⟩
          · obtain rfl : b = false := by rw [g]; simp [h4]
            clear g
            go_wp2
            go_ret
            exact ⟨by first | rfl | (simp_all; done), by first | rfl | (simp_all; done)⟩
        · obtain rfl : b = false := by rw [g]; simp [h3]
          clear g
          go_wp2
          go_ret
          exact ⟨by first | rfl | (simp_all; done), by first | rfl | (simp_all; done)⟩
      · obtain rfl : b = false := by rw [g]; simp [h2]
        clear g
        go_wp2
        go_ret
        exact ⟨by first | rfl | (simp_all; done), by first | rfl | (simp_all; done)⟩
    · obtain rfl : b = false := by rw [g]; simp [h1]
      clear g
      go_wp2
      go_ret
      exact ⟨by first | rfl | (simp_all; done), by first | rfl | (simp_all; done)⟩
end Go.Proofs.YtmeimofnmpmaoaaGreatDoor
