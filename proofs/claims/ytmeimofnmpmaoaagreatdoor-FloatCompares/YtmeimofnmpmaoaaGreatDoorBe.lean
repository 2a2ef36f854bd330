/- The contract of the document's own Bits: it tells the bits that the program's tells. Conditions: none but those named. -/
import Derived.Test.YtmeimofnmpmaoaaGreatDoorBd
import Derived.Test.YtmeimofnmpmaoaaGreatDoorOb
namespace Go.Proofs.YtmeimofnmpmaoaaGreatDoor
open Go.RowKit Go.Shelf Fl

theorem bv_same {q : Nat} {M E S : Int} {x y : Nat} (h : Bv q M E S x) (h' : Bv q M E S y) : x = y := by
  rcases h with ⟨hS, rfl⟩ | ⟨rfl, rfl, rfl⟩ | ⟨rfl, hM, R, hN, _, _, rfl⟩
  · rcases h' with ⟨_, rfl⟩ | ⟨h, _⟩ | ⟨h, _⟩
    · rfl
    · exact absurd h hS
    · exact absurd h hS
  · rcases h' with ⟨h, _⟩ | ⟨_, _, rfl⟩ | ⟨_, h, _⟩
    · exact absurd rfl h
    · rfl
    · exact absurd rfl h
  · rcases h' with ⟨h, _⟩ | ⟨_, h, _⟩ | ⟨_, _, R', hN', _, _, rfl⟩
    · exact absurd rfl h
    · exact absurd h hM
    · rw [near_unique hN hN']

theorem near_num {q m R : Nat} {e : Int} (hq : 300 ≤ q) (e0 : -300 ≤ e) (h : Near (m * 10 ^ e.toNat) (10 ^ (-e).toNat) R) : Near (num q m e) (10 ^ q) R := by
  rcases Int.le_total 0 e with h0 | h0
  · rw [show (-e).toNat = 0 by omega, Nat.pow_zero] at h
    have := near_num_pos (q := q) h
    rwa [show ((e.toNat : Nat) : Int) = e by omega] at this
  · rw [show e.toNat = 0 by omega, Nat.pow_zero, Nat.mul_one] at h
    have := near_num_neg (q := q) (n := (-e).toNat) (by omega) h
    rwa [show -(((-e).toNat : Nat) : Int) = e by omega] at this

theorem refbits_not (M E S : Int) (hn : mayBe M E S = false) (w : World) :
    Calls Tryz.prog 11 #[val M E S] w fun e w' => e = .returned (.tuple #[.int .u64 0, .int .i64 20]) ∧ Below w.heap.size w w' := by
  go_enter Tryz.func11, Tryz.ntmps11
  go_wp2_with fail
  refine (refright_any M E S false hn.symm _).mono ?_
  rintro e w' ⟨rfl, hw'⟩; rw [hw']; clear hw' w'
  go_wp2_with fail
  go_ret2
  exact ⟨rfl, ((Below.refl _ _).alloc (Nat.le_refl _) _).alloc (by simp) _⟩

set_option maxRecDepth 20000 in
set_option maxHeartbeats 1600000 in
theorem refbits_is (q : Nat) (hq : 300 ≤ q) (M E S : Int) (hm : mayBe M E S = true) (x : Nat) (hx : Bv q M E S x) (w : World) :
    Calls Tryz.prog 11 #[val M E S] w fun e w' => e = .returned (.tuple #[.int .u64 (x : Int), .int .i64 0]) ∧ Below w.heap.size w w' := by
  have hmr : Hid (true = mayBe M E S) := hm.symm
  have HX : Hid (Bv q M E S x) := hx
  have bl : Hid (Below w.heap.size w ((w.alloc (.cells #[.int .i64 M, .int .i64 E, .int .i64 S] 23)).alloc (.cells #[.int .i64 M, .int .i64 E, .int .i64 S] 23))) := ((Below.refl _ _).alloc (Nat.le_refl _) _).alloc (by simp) _
  by_cases hS : S = 0
  · subst hS
    by_cases hM : M = 0
    · subst hM
      have hx0 : x = 0 := by
        rcases HX.out with ⟨h, _⟩ | ⟨_, _, h⟩ | ⟨_, h, _⟩
        · exact absurd rfl h
        · exact h
        · exact absurd rfl h
      subst hx0
      clear hx hm
      go_enter Tryz.func11, Tryz.ntmps11
      go_wp2_with fail
      refine (refright_any _ _ _ true hmr _).mono ?_
      rintro e w' ⟨rfl, hw'⟩; rw [hw']; clear hw' w'
      go_wp2_with fail
      go_ret2
      exact ⟨rfl, bl.out⟩
    · have hb := may_lt hm hM
      obtain ⟨R, hN, r1, r2, hxe⟩ : ∃ R, Near (num q M.natAbs E) (10 ^ q) R ∧ 4503599627370496 ≤ R ∧ R < 9218868437227405312 ∧ x = (if M < 0 then 9223372036854775808 else 0) + R := by
        rcases HX.out with ⟨h, _⟩ | ⟨_, h, _⟩ | ⟨_, _, R, h⟩
        · exact absurd rfl h
        · exact absurd h hM
        · exact ⟨R, h⟩
      have HN : Hid (Near (num q M.natAbs E) (10 ^ q) R) := hN
      have hr := Bn.refnear_any M.natAbs E (by omega) hb.1 hb.2.1 hb.2.2
      have HRf : Hid _ := hr
      by_cases hneg : M < 0
      · rw [if_pos hneg] at hxe
        have HXE : Hid _ := hxe
        have e1 : ((M.natAbs : Nat) : Int) = -M := by omega
        rw [e1] at HRf
        clear hx hm hN hr hxe
        go_enter Tryz.func11, Tryz.ntmps11
        go_wp2_with fail
        refine (refright_any _ _ _ true hmr _).mono ?_
        rintro e w' ⟨rfl, hw'⟩; rw [hw']; clear hw' w'
        go_wp2_with fail
        refine (HRf.out _).mono ?_
        rintro e w2 ⟨R', rfl, hN', b2⟩
        obtain rfl : R = R' := near_unique HN.out (near_num hq hb.2.1 hN')
        clear hN'
        go_wp2_with fail
        go_ret2
        refine ⟨?_, bl.out.trans (b2.mono (by simp; omega))⟩
        rw [HXE.out]
        first | rfl | (push_cast; rfl)
      · rw [if_neg hneg] at hxe
        have HXE : Hid _ := hxe
        have e1 : ((M.natAbs : Nat) : Int) = M := by omega
        rw [e1] at HRf
        clear hx hm hN hr hxe
        go_enter Tryz.func11, Tryz.ntmps11
        go_wp2_with fail
        refine (refright_any _ _ _ true hmr _).mono ?_
        rintro e w' ⟨rfl, hw'⟩; rw [hw']; clear hw' w'
        go_wp2_with fail
        refine (HRf.out _).mono ?_
        rintro e w2 ⟨R', rfl, hN', b2⟩
        obtain rfl : R = R' := near_unique HN.out (near_num hq hb.2.1 hN')
        clear hN'
        go_wp2_with fail
        go_ret2
        refine ⟨?_, bl.out.trans (b2.mono (by simp; omega))⟩
        rw [HXE.out, Nat.zero_add]
        rfl
  · have hxm : x = mark S := by
      rcases HX.out with ⟨_, h⟩ | ⟨h, _⟩ | ⟨h, _⟩
      · exact h
      · exact absurd h hS
      · exact absurd h hS
    have hk := may_kind hm hS
    have h4 : S = 1 ∨ S = 2 ∨ S = 3 ∨ S = 4 := by omega
    clear hx hm hk HX
    rcases h4 with rfl | rfl | rfl | rfl
    · obtain rfl : x = 9218868437227405314 := hxm
      go_enter Tryz.func11, Tryz.ntmps11
      go_wp2_with fail
      refine (refright_any _ _ _ true hmr _).mono ?_
      rintro e w' ⟨rfl, hw'⟩; rw [hw']; clear hw' w'
      go_wp2_with fail
      go_ret2
      exact ⟨rfl, bl.out⟩
    · obtain rfl : x = 9218868437227405312 := hxm
      go_enter Tryz.func11, Tryz.ntmps11
      go_wp2_with fail
      refine (refright_any _ _ _ true hmr _).mono ?_
      rintro e w' ⟨rfl, hw'⟩; rw [hw']; clear hw' w'
      go_wp2_with fail
      go_ret2
      exact ⟨rfl, bl.out⟩
    · obtain rfl : x = 18442240474082181120 := hxm
      go_enter Tryz.func11, Tryz.ntmps11
      go_wp2_with fail
      refine (refright_any _ _ _ true hmr _).mono ?_
      rintro e w' ⟨rfl, hw'⟩; rw [hw']; clear hw' w'
      go_wp2_with fail
      go_ret2
      exact ⟨rfl, bl.out⟩
    · obtain rfl : x = 9223372036854775808 := hxm
      go_enter Tryz.func11, Tryz.ntmps11
      go_wp2_with fail
      refine (refright_any _ _ _ true hmr _).mono ?_
      rintro e w' ⟨rfl, hw'⟩; rw [hw']; clear hw' w'
      go_wp2_with fail
      go_ret2
      exact ⟨rfl, bl.out⟩
end Go.Proofs.YtmeimofnmpmaoaaGreatDoor
