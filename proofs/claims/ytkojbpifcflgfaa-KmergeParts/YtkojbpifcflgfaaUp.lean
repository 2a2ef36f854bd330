/- What the library's heap does upward and downward, over any values with Less and Swap. Conditions: what Less and Swap do. -/
import Derived.Test.YtkojbpifcflgfaaRows
import Derived.Test.YtkojbpifcflgfaaHp
import Derived.Test.YtkojbpifcflgfaaVa
import Derived.Shelf.Abstract
import Derived.Sort.WalkB2
import Derived.Deep.LoopGhost
import Derived.Deep.RegionWith
import Derived.WalkMore
namespace Go.Proofs.Ytkojbpifcflgfaa
open Go.RowKit Go.Shelf
open Go.Sort (swp SWO PermIn size_swp swp_permIn permIn_refl permIn_trans)

/-- How a method of an interface's value is found: by its name, of that type, it is function f. -/
structure Finds (T : TypeId) (rv : Value) (name : String) (f : Nat) : Prop where
  finds : ∀ w, (method 233 T rv name).run Try.prog w = .ok (f, rv) w
  enters : ∀ args w, (callFunc f args).run Try.prog w = .ok (.enter f args) w

/-- What is asked of Less and Swap. -/
structure HIf {R : Type} [Inhabited R] (lt : R → R → Bool) (T : TypeId) (rv : Value) (gl gs : Nat) (H : Array R → World → Prop) (K : World → World → Prop) : Prop where
  fl : Finds T rv "Less" gl
  fs : Finds T rv "Swap" gs
  kr : ∀ w, K w w
  kt : ∀ {x y z}, K x y → K y z → K x z
  less : ∀ d w (i j : Nat), H d w → i < d.size → j < d.size → Calls Try.prog gl #[rv, .int .i64 i, .int .i64 j] w fun e w' => e = .returned (.bool (lt d[i]! d[j]!)) ∧ H d w' ∧ K w w'
  swap : ∀ d w (i j : Nat), H d w → i < d.size → j < d.size → Calls Try.prog gs #[rv, .int .i64 i, .int .i64 j] w fun e w' => e = .returned (.tuple #[]) ∧ H (swp d i j) w' ∧ K w w'

set_option maxRecDepth 100000 in
set_option maxHeartbeats 2000000 in
theorem up_any {R : Type} [Inhabited R] (lt : R → R → Bool) (hO : SWO lt) (T : TypeId) (rv : Value) (gl gs : Nat) (H : Array R → World → Prop) (K : World → World → Prop) (hI : HIf lt T rv gl gs H K) (d : Array R) (j : Nat) (w : World) (hH : H d w) (hj : j < d.size) (hsz : d.size ≤ 1000000) :
    Calls Try.prog 45 #[.iface T rv, .int .i64 j] w fun e w' => e = .returned (.tuple #[]) ∧ ∃ d', H d' w' ∧ K w w' ∧ PermIn 0 d.size d d' ∧ (HpUp lt d.size j d → Hp lt d.size d') := by
  have mL : ∀ w, Sem.run Try.prog (method 233 T rv "Less") w = .ok (gl, rv) w := hI.fl.finds
  have mS : ∀ w, Sem.run Try.prog (method 233 T rv "Swap") w = .ok (gs, rv) w := hI.fs.finds
  have eL := hI.fl.enters; have eS := hI.fs.enters
  have H0 : Hid (H d w) := hH
  have HI : Hid (HIf lt T rv gl gs H K) := hI
  clear hH hI
  go_enter Try.func45, Try.ntmps45
  go_wp2
  go_loopg [1, 4] j (fun kx s1 _ wr => ∃ (k : Nat) (dk : Array R), s1 = .int .i64 k ∧ k < d.size ∧ k ≤ kx ∧ dk.size = d.size ∧ Hid (H dk wr ∧ K w wr ∧ PermIn 0 d.size d dk ∧ (HpUp lt d.size j d → HpUp lt d.size k dk)))
  case atStart => exact ⟨j, d, rfl, hj, Nat.le_refl _, rfl, H0.out, HI.out.kr _, permIn_refl _ _ _, id⟩
  case round =>
    obtain ⟨k, dk, rfl, hk, hkx, hds, HD⟩ := hrel
    rcases Nat.eq_zero_or_pos k with rfl | hk0
    · go_wp2
      go_end0
      refine ⟨rfl, dk, HD.out.1, HD.out.2.1, HD.out.2.2.1, fun h => up_stop0 (HD.out.2.2.2 h)⟩
    · have ep : (((k - 1) / 2 : Nat) : Int) = ((k : Int) - 1) / 2 := by omega
      have hl : Calls Try.prog gl #[rv, .int .i64 k, .int .i64 (((k : Int) - 1) / 2)] wr fun e w' => e = .returned (.bool (lt dk[k]! dk[(k - 1) / 2]!)) ∧ Hid (H dk w' ∧ K wr w') := by
        have h := HI.out.less dk wr k ((k - 1) / 2) HD.out.1 (by omega) (by omega)
        rw [ep] at h; exact h
      have hs : ∀ w1, H dk w1 → Calls Try.prog gs #[rv, .int .i64 (((k : Int) - 1) / 2), .int .i64 k] w1 fun e w' => e = .returned (.tuple #[]) ∧ Hid (H (swp dk ((k - 1) / 2) k) w' ∧ K w1 w') := fun w1 h1 => by
        have h := HI.out.swap dk w1 ((k - 1) / 2) k h1 (by omega) (by omega)
        rw [ep] at h; exact h
      have HS : Hid _ := hs
      have hpk : ¬ (((k : Int) - 1) / 2 = (k : Int)) := by omega
      clear hs
      cases hlt : lt dk[k]! dk[(k - 1) / 2]! with
      | false =>
        rw [hlt] at hl
        have HL : Hid (lt dk[k]! dk[(k - 1) / 2]! = false) := hlt
        clear hlt
        go_wp2_with (first | (go_at_fn gl; refine hl.mono ?_; rintro e w1 ⟨rfl, H1⟩))
        go_end0
        exact ⟨rfl, dk, H1.out.1, HI.out.kt HD.out.2.1 H1.out.2, HD.out.2.2.1, fun h => up_stop (HD.out.2.2.2 h) HL.out⟩
      | true =>
        rw [hlt] at hl
        have HL : Hid (lt dk[k]! dk[(k - 1) / 2]! = true) := hlt
        clear hlt
        go_wp2_with (first | (go_at_fn gl; refine hl.mono ?_; rintro e w1 ⟨rfl, H1⟩) | (go_at_fn gs; refine (HS.out _ H1.out.1).mono ?_; rintro e w2 ⟨rfl, H2⟩))
        go_roundg ((k - 1) / 2)
        case measure => omega
        case rel =>
          refine ⟨(k - 1) / 2, swp dk ((k - 1) / 2) k, by rw [ep], by omega, Nat.le_refl _, by rw [size_swp]; exact hds, H2.out.1, HI.out.kt (HI.out.kt HD.out.2.1 H1.out.2) H2.out.2, ?_, fun h => ?_⟩
          · exact permIn_trans _ _ _ _ _ HD.out.2.2.1 (by rw [← hds]; exact swp_permIn dk 0 dk.size _ _ (by omega) (by omega) (by omega) (by omega) (Nat.le_refl _))
          · exact up_go hO (by omega) hk hk0 (HD.out.2.2.2 h) HL.out
end Go.Proofs.Ytkojbpifcflgfaa
