/- For every two values: those that are not the same have other bits, and twice a whole number has one step more of the exponent: FloatOne returns true, and its arguments read as before. Conditions: the listed package variables start as the program's text lays them (the card ties them). -/
import Derived.Test.YtmeimofnmpmaoaaGreatDoorRows
import Derived.Test.YtmeimofnmpmaoaaGreatDoorCards
import Derived.Test.YtmeimofnmpmaoaaGreatDoorTie
import Derived.Test.YtmeimofnmpmaoaaGreatDoorOb
import Derived.WalkKit
import Derived.ProofKit
import Derived.OpenShut
import Derived.Lay
import Derived.LaidOnce
import Derived.SevenTiedAt
namespace Go.Proofs.YtmeimofnmpmaoaaGreatDoor
open Go.ChangeShapes Go.WideShapes Go.ChangeAt Go.RowKit Go.Lib Go.Shelf Fl

theorem bv_same {q : Nat} {M E S : Int} {x y : Nat} (h : Bv q M E S x) (h' : Bv q M E S y) : x = y := by
  rcases h with ⟨hS, rfl⟩ | ⟨rfl, rfl, rfl⟩ | ⟨rfl, hM, R, hN, _, _, rfl⟩
  · rcases h' with ⟨_, rfl⟩ | ⟨h, _⟩ | ⟨h, _⟩
    · rfl
    · exact absurd h hS
    · exact absurd h hS
  · rcases h' with ⟨h, _⟩ | ⟨_, _, rfl⟩ | ⟨_, h, _⟩
    · exact absurd rfl h
    · rfl
    · exact absurd rfl h
  · rcases h' with ⟨h, _⟩ | ⟨_, h, _⟩ | ⟨_, _, R', hN', _, _, rfl⟩
    · exact absurd rfl h
    · exact absurd h hM
    · rw [near_unique hN hN']
theorem may_two {M : Int} (h0 : 0 < M) (h1 : M < 400000000000000) (h5 : ¬ M % 5 = 0) : mayBe (2 * M) 0 0 = true := by
  have hn : ¬ 2 * M = 0 := by omega
  have ht : ¬ (2 * M).tmod 10 = 0 := by rw [Int.tmod_eq_emod_of_nonneg (by omega)]; omega
  simp only [mayBe, hn, if_true, if_false, decide_eq_true_eq]
  exact ⟨by omega, by omega, ht, by decide, by decide⟩

abbrev ce (M E S : Int) : Obj := .cells #[.int .i64 M, .int .i64 E, .int .i64 S] 23
theorem ce_at {w w' : World} {M E S : Int} (h : Below (w.heap.size + 1) (w.alloc (ce M E S)) w') : w'.cell? ⟨w.heap.size, 0, none⟩ = some (.int .i64 M) ∧ w'.cell? ⟨w.heap.size, 1, none⟩ = some (.int .i64 E) ∧ w'.cell? ⟨w.heap.size, 2, none⟩ = some (.int .i64 S) := by
  rw [h.cell (p := ⟨w.heap.size, 0, none⟩) (by simp), h.cell (p := ⟨w.heap.size, 1, none⟩) (by simp), h.cell (p := ⟨w.heap.size, 2, none⟩) (by simp)]
  simp

set_option maxRecDepth 20000 in
set_option maxHeartbeats 4000000 in
theorem one_walk (M E S M' E' S' : Int) (hM0 : -9223372036854775808 ≤ M ∧ M ≤ 9223372036854775807) (w : World) (hG : Ground w) :
    Calls Tryz.prog 8 #[val M E S, val M' E' S'] w fun r w' => r = .returned (.bool true) ∧ Below w.heap.size w w' := by
  have HQ : Hid (∃ q : Nat, 300 ≤ q) := ⟨300, Nat.le_refl _⟩
  obtain ⟨q, hq⟩ := HQ.out
  have A1 : Below w.heap.size w ((w.alloc (ce M E S)).alloc (ce M' E' S')) := ((Below.refl _ _).alloc (Nat.le_refl _) _).alloc (by simp) _
  have HA : Hid _ := A1
  have HGa : Hid (Ground ((w.alloc (ce M E S)).alloc (ce M' E' S'))) := hG.below A1
  clear A1
  go_enter Tryz.func8, Tryz.ntmps8
  go_wp2_with fail
  refine (awake_any _ HGa.out).mono ?_
  rintro r w1 ⟨rfl, b1⟩
  have s1 := b1.size
  simp only [World.size_alloc] at s1
  have a2 : Below (w.alloc (ce M E S)).heap.size (w.alloc (ce M E S)) ((w.alloc (ce M E S)).alloc (ce M' E' S')) := (Below.refl _ _).alloc (Nat.le_refl _) _
  have d1 : Hid (Below (w.heap.size + 1) (w.alloc (ce M E S)) w1) := (a2.mono (by simp)).trans (b1.mono (by simp))
  have d2 : Hid (Below (w.heap.size + 1 + 1) ((w.alloc (ce M E S)).alloc (ce M' E' S')) w1) := b1.mono (by simp)
  have B1 : Hid (Below w.heap.size w w1) := HA.out.trans (b1.mono (by simp; omega))
  have G1 : Hid (Ground w1) := hG.below B1.out
  clear b1 HGa HA a2
  have HX : ∃ (x : Nat) (e : Int), (∀ w, Ground w → Calls Tryz.prog 10 #[val M E S] w fun r w' => r = .returned (.tuple #[.int .u64 (x : Int), .int .i64 e]) ∧ Below w.heap.size w w') ∧ ((mayBe M E S = true ∧ e = 0 ∧ x < 18446744073709551616 ∧ Bv q M E S x) ∨ (mayBe M E S = false ∧ e = 20)) := by
    cases hm : mayBe M E S with
    | true => obtain ⟨x, h1, h2, h3⟩ := bits_all q hq M E S hm w1 G1.out; exact ⟨x, 0, h2, .inl ⟨rfl, rfl, h1, h3⟩⟩
    | false => exact ⟨0, 20, fun w _ => bits_not M E S hm w, .inr ⟨rfl, rfl⟩⟩
  have HY : ∃ (y : Nat) (e : Int), (∀ w, Ground w → Calls Tryz.prog 10 #[val M' E' S'] w fun r w' => r = .returned (.tuple #[.int .u64 (y : Int), .int .i64 e]) ∧ Below w.heap.size w w') ∧ ((mayBe M' E' S' = true ∧ e = 0 ∧ y < 18446744073709551616 ∧ Bv q M' E' S' y) ∨ (mayBe M' E' S' = false ∧ e = 20)) := by
    cases hm : mayBe M' E' S' with
    | true => obtain ⟨x, h1, h2, h3⟩ := bits_all q hq M' E' S' hm w1 G1.out; exact ⟨x, 0, h2, .inl ⟨rfl, rfl, h1, h3⟩⟩
    | false => exact ⟨0, 20, fun w _ => bits_not M' E' S' hm w, .inr ⟨rfl, rfl⟩⟩
  obtain ⟨x, e, cx, hx⟩ := HX
  obtain ⟨y, e', cy, hy⟩ := HY
  have CX : Hid _ := cx
  have CY : Hid _ := cy
  have HXb : Hid _ := hx
  have HYb : Hid _ := hy
  clear cx cy hx hy
  obtain ⟨x0, x1, x2⟩ := ce_at d1.out
  obtain ⟨y0, y1, y2⟩ := ce_at (w := w.alloc (ce M E S)) (by have := d2.out; simpa using this)
  simp only [World.size_alloc] at y0 y1 y2
  go_wp2_with fail
  refine (CX.out _ G1.out).mono ?_
  rintro r w2 ⟨rfl, b2⟩
  have s2 := b2.size
  have D1 : Hid (Below (w.heap.size + 1) (w.alloc (ce M E S)) w2) := d1.out.trans (b2.mono (by omega))
  have D2 : Hid (Below (w.heap.size + 1 + 1) ((w.alloc (ce M E S)).alloc (ce M' E' S')) w2) := d2.out.trans (b2.mono (by omega))
  have B2 : Hid (Below w.heap.size w w2) := B1.out.trans (b2.mono (by omega))
  have G2 : Hid (Ground w2) := G1.out.below b2
  clear x0 x1 x2 y0 y1 y2 b2 d1 d2
  obtain ⟨x0, x1, x2⟩ := ce_at D1.out
  obtain ⟨y0, y1, y2⟩ := ce_at (w := w.alloc (ce M E S)) (by have := D2.out; simpa using this)
  simp only [World.size_alloc] at y0 y1 y2
  go_wp2_with fail
  refine (CY.out _ G2.out).mono ?_
  rintro r w3 ⟨rfl, b3⟩
  have s3 := b3.size
  have d1 : Hid (Below (w.heap.size + 1) (w.alloc (ce M E S)) w3) := D1.out.trans (b3.mono (by omega))
  have d2 : Hid (Below (w.heap.size + 1 + 1) ((w.alloc (ce M E S)).alloc (ce M' E' S')) w3) := D2.out.trans (b3.mono (by omega))
  have B3 : Hid (Below w.heap.size w w3) := B2.out.trans (b3.mono (by omega))
  have G3 : Hid (Ground w3) := G2.out.below b3
  clear x0 x1 x2 y0 y1 y2 b3 D1 D2 CX CY
  obtain ⟨x0, x1, x2⟩ := ce_at d1.out
  obtain ⟨y0, y1, y2⟩ := ce_at (w := w.alloc (ce M E S)) (by have := d2.out; simpa using this)
  simp only [World.size_alloc] at y0 y1 y2
  have z0 : w.heap.size < w3.heap.size := by omega
  have z1 : w.heap.size + 1 < w3.heap.size := by omega
  rcases HXb.out with ⟨ma, rfl, lx, bx⟩ | ⟨ma, rfl⟩
  · rcases HYb.out with ⟨mb, rfl, ly, by'⟩ | ⟨mb, rfl⟩
    · clear HXb HYb
      have HM : Hid (mayBe M E S = true ∧ mayBe M' E' S' = true ∧ Bv q M E S x ∧ Bv q M' E' S' y) := ⟨ma, mb, bx, by'⟩
      clear ma mb bx by'
      by_cases hM : M = M'
      · subst hM
        by_cases hE0 : E = E'
        · subst hE0
          by_cases hS0 : S = S'
          · subst hS0
            obtain rfl : x = y := bv_same HM.out.2.2.1 HM.out.2.2.2
            by_cases hS : S = 0
            · by_cases hE : E = 0
              · by_cases hp : M ≤ 0
                · go_wp2_with fail
                  go_ret
                  exact ⟨rfl, B3.out⟩
                · by_cases hbig : 400000000000000 ≤ M
                  · go_wp2_with fail
                    go_ret
                    exact ⟨rfl, B3.out⟩
                  · by_cases h5 : M % 5 = 0
                    · have h5b : (M % 5 == 0) = true := by simp [h5]
                      go_wp2_with fail
                      go_ret
                      exact ⟨rfl, B3.out⟩
                    · have h5b : (M % 5 == 0) = false := by simp [h5]
                      have hm2 : Hid (mayBe (2 * M) 0 0 = true) := may_two (by omega) (by omega) h5
                      obtain ⟨z, zl, cz, bz⟩ := bits_all q hq (2 * M) 0 0 hm2.out w3 G3.out
                      have hz : Hid (z = x + 4503599627370496) := bv_double (q := q) (M := M) (by omega) (by have h := HM.out.2.2.1; rw [hS, hE] at h; exact h) bz
                      have hz2 : (z : Int) = (x : Int) + 4503599627370496 := by have := hz.out; omega
                      have CZ : Hid _ := cz
                      clear cz bz
                      go_wp2_with fail
                      refine (CZ.out _ G3.out).mono ?_
                      rintro r w4 ⟨rfl, b4⟩
                      have hw : IntKind.u64.wrap ((x : Int) + 4503599627370496) = (x : Int) + 4503599627370496 := by rw [IntKind.wrap_u64]; omega
                      go_wp2_with fail
                      go_ret
                      exact ⟨rfl, B3.out.trans (b4.mono B3.out.size)⟩
              · go_wp2_with fail
                go_ret
                exact ⟨rfl, B3.out⟩
            · go_wp2_with fail
              go_ret
              exact ⟨rfl, B3.out⟩
          · have hxy : ¬ (x : Int) = (y : Int) := fun h => hS0 (bv_one hq HM.out.1 HM.out.2.1 HM.out.2.2.1 (by rw [show x = y by omega]; exact HM.out.2.2.2)).2.2
            by_cases hS : S = 0
            · by_cases hE : E = 0
              · by_cases hp : M ≤ 0
                · go_wp2_with fail
                  go_ret
                  exact ⟨rfl, B3.out⟩
                · by_cases hbig : 400000000000000 ≤ M
                  · go_wp2_with fail
                    go_ret
                    exact ⟨rfl, B3.out⟩
                  · by_cases h5 : M % 5 = 0
                    · have h5b : (M % 5 == 0) = true := by simp [h5]
                      go_wp2_with fail
                      go_ret
                      exact ⟨rfl, B3.out⟩
                    · have h5b : (M % 5 == 0) = false := by simp [h5]
                      have hm2 : Hid (mayBe (2 * M) 0 0 = true) := may_two (by omega) (by omega) h5
                      obtain ⟨z, zl, cz, bz⟩ := bits_all q hq (2 * M) 0 0 hm2.out w3 G3.out
                      have hz : Hid (z = x + 4503599627370496) := bv_double (q := q) (M := M) (by omega) (by have h := HM.out.2.2.1; rw [hS, hE] at h; exact h) bz
                      have hz2 : (z : Int) = (x : Int) + 4503599627370496 := by have := hz.out; omega
                      have CZ : Hid _ := cz
                      clear cz bz
                      go_wp2_with fail
                      refine (CZ.out _ G3.out).mono ?_
                      rintro r w4 ⟨rfl, b4⟩
                      have hw : IntKind.u64.wrap ((x : Int) + 4503599627370496) = (x : Int) + 4503599627370496 := by rw [IntKind.wrap_u64]; omega
                      go_wp2_with fail
                      go_ret
                      exact ⟨rfl, B3.out.trans (b4.mono B3.out.size)⟩
              · go_wp2_with fail
                go_ret
                exact ⟨rfl, B3.out⟩
            · go_wp2_with fail
              go_ret
              exact ⟨rfl, B3.out⟩
        · have hxy : ¬ (x : Int) = (y : Int) := fun h => hE0 (bv_one hq HM.out.1 HM.out.2.1 HM.out.2.2.1 (by rw [show x = y by omega]; exact HM.out.2.2.2)).2.1
          by_cases hS : S = 0
          · by_cases hE : E = 0
            · by_cases hp : M ≤ 0
              · go_wp2_with fail
                go_ret
                exact ⟨rfl, B3.out⟩
              · by_cases hbig : 400000000000000 ≤ M
                · go_wp2_with fail
                  go_ret
                  exact ⟨rfl, B3.out⟩
                · by_cases h5 : M % 5 = 0
                  · have h5b : (M % 5 == 0) = true := by simp [h5]
                    go_wp2_with fail
                    go_ret
                    exact ⟨rfl, B3.out⟩
                  · have h5b : (M % 5 == 0) = false := by simp [h5]
                    have hm2 : Hid (mayBe (2 * M) 0 0 = true) := may_two (by omega) (by omega) h5
                    obtain ⟨z, zl, cz, bz⟩ := bits_all q hq (2 * M) 0 0 hm2.out w3 G3.out
                    have hz : Hid (z = x + 4503599627370496) := bv_double (q := q) (M := M) (by omega) (by have h := HM.out.2.2.1; rw [hS, hE] at h; exact h) bz
                    have hz2 : (z : Int) = (x : Int) + 4503599627370496 := by have := hz.out; omega
                    have CZ : Hid _ := cz
                    clear cz bz
                    go_wp2_with fail
                    refine (CZ.out _ G3.out).mono ?_
                    rintro r w4 ⟨rfl, b4⟩
                    have hw : IntKind.u64.wrap ((x : Int) + 4503599627370496) = (x : Int) + 4503599627370496 := by rw [IntKind.wrap_u64]; omega
                    go_wp2_with fail
                    go_ret
                    exact ⟨rfl, B3.out.trans (b4.mono B3.out.size)⟩
            · go_wp2_with fail
              go_ret
              exact ⟨rfl, B3.out⟩
          · go_wp2_with fail
            go_ret
            exact ⟨rfl, B3.out⟩
      · have hxy : ¬ (x : Int) = (y : Int) := fun h => hM (bv_one hq HM.out.1 HM.out.2.1 HM.out.2.2.1 (by rw [show x = y by omega]; exact HM.out.2.2.2)).1
        by_cases hS : S = 0
        · by_cases hE : E = 0
          · by_cases hp : M ≤ 0
            · go_wp2_with fail
              go_ret
              exact ⟨rfl, B3.out⟩
            · by_cases hbig : 400000000000000 ≤ M
              · go_wp2_with fail
                go_ret
                exact ⟨rfl, B3.out⟩
              · by_cases h5 : M % 5 = 0
                · have h5b : (M % 5 == 0) = true := by simp [h5]
                  go_wp2_with fail
                  go_ret
                  exact ⟨rfl, B3.out⟩
                · have h5b : (M % 5 == 0) = false := by simp [h5]
                  have hm2 : Hid (mayBe (2 * M) 0 0 = true) := may_two (by omega) (by omega) h5
                  obtain ⟨z, zl, cz, bz⟩ := bits_all q hq (2 * M) 0 0 hm2.out w3 G3.out
                  have hz : Hid (z = x + 4503599627370496) := bv_double (q := q) (M := M) (by omega) (by have h := HM.out.2.2.1; rw [hS, hE] at h; exact h) bz
                  have hz2 : (z : Int) = (x : Int) + 4503599627370496 := by have := hz.out; omega
                  have CZ : Hid _ := cz
                  clear cz bz
                  go_wp2_with fail
                  refine (CZ.out _ G3.out).mono ?_
                  rintro r w4 ⟨rfl, b4⟩
                  have hw : IntKind.u64.wrap ((x : Int) + 4503599627370496) = (x : Int) + 4503599627370496 := by rw [IntKind.wrap_u64]; omega
                  go_wp2_with fail
                  go_ret
                  exact ⟨rfl, B3.out.trans (b4.mono B3.out.size)⟩
          · go_wp2_with fail
            go_ret
            exact ⟨rfl, B3.out⟩
        · go_wp2_with fail
          go_ret
          exact ⟨rfl, B3.out⟩
    · have ma' : Hid (true = mayBe M E S) := ma.symm
      have mb' : Hid (false = mayBe M' E' S') := mb.symm
      clear HXb HYb ma mb bx
      go_wp2_with fail
      refine (right_any M E S true ma' _).mono ?_
      rintro r w' ⟨rfl, hw'⟩; rw [hw']; clear hw' w'
      go_wp2_with fail
      refine (right_any M' E' S' false mb' _).mono ?_
      rintro r w' ⟨rfl, hw'⟩; rw [hw']; clear hw' w'
      go_wp2_with fail
      go_ret
      exact ⟨rfl, (B3.out.alloc B3.out.size _).alloc (by have := B3.out.size; simp; omega) _⟩
  · rcases HYb.out with ⟨mb, rfl, ly, by'⟩ | ⟨mb, rfl⟩
    · have ma' : Hid (false = mayBe M E S) := ma.symm
      have mb' : Hid (true = mayBe M' E' S') := mb.symm
      clear HXb HYb ma mb by'
      go_wp2_with fail
      refine (right_any M E S false ma' _).mono ?_
      rintro r w' ⟨rfl, hw'⟩; rw [hw']; clear hw' w'
      go_wp2_with fail
      refine (right_any M' E' S' true mb' _).mono ?_
      rintro r w' ⟨rfl, hw'⟩; rw [hw']; clear hw' w'
      go_wp2_with fail
      go_ret
      exact ⟨rfl, (B3.out.alloc B3.out.size _).alloc (by have := B3.out.size; simp; omega) _⟩
    · have ma' : Hid (false = mayBe M E S) := ma.symm
      have mb' : Hid (false = mayBe M' E' S') := mb.symm
      clear HXb HYb ma mb
      go_wp2_with fail
      refine (right_any M E S false ma' _).mono ?_
      rintro r w' ⟨rfl, hw'⟩; rw [hw']; clear hw' w'
      go_wp2_with fail
      refine (right_any M' E' S' false mb' _).mono ?_
      rintro r w' ⟨rfl, hw'⟩; rw [hw']; clear hw' w'
      go_wp2_with fail
      go_ret
      exact ⟨rfl, (B3.out.alloc B3.out.size _).alloc (by have := B3.out.size; simp; omega) _⟩
end Go.Proofs.YtmeimofnmpmaoaaGreatDoor
