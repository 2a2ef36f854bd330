/- The contracts of the library's Clone of labels, of the closure that compares names, and of the library's sort by it. Conditions: those of each theorem. -/
import Derived.Test.YthklkhdcmoonkaaE
import Derived.Test.YthklkhdcmoonkaaL
import Derived.Lib.OwnBridge
import Derived.Sort.LotA
import Derived.WalkSpells
namespace Go.Proofs.Ythklkhdcmoonkaa
open Go.RowKit

set_option maxHeartbeats 1600000 in
theorem clone_any (a : Option Addr) (len cap : Nat) (ls : List Lb) (w : World) (hI : IsL w a len cap ls) (hlen : len ≤ 100000) :
    Calls Try.prog 28 #[.slice a len cap] w fun e w' => ∃ v', e = .returned v' ∧ w'.ownsRow w.heap.size 44 2 v' len (cls ls) ∧ Below w.heap.size w w' := by
  obtain ⟨i0, hi, hz0, hz1, hz2⟩ := info_parts Try.info44
  have HI : Hid (IsL w a len cap ls) := hI
  clear hI
  cases a with
  | none =>
    obtain ⟨rfl, rfl⟩ := HI.out.none rfl
    have hnil : ∀ W, (binOp .eql 22 (.slice none 0 0) (.slice none 0 0)).run Try.prog W = .ok (.bool true) W := fun W => run_eql_nil_slice W _ _ none 0 0 0 0 Try.underlying22
    go_enter Try.func28, Try.ntmps28
    go_wp2
    go_ret
    refine ⟨_, rfl, ?_, Below.refl _ _⟩
    have : ls = [] := List.eq_nil_of_length_eq_zero HI.out.hl
    subst this
    exact World.ownsRow_nil _ _ _ _
  | some ad =>
    have hnil : ∀ W, (binOp .eql 22 (.slice (some ad) len cap) (.slice none 0 0)).run Try.prog W = .ok (.bool false) W := fun W => by
      simp only [binOp]
      simp [Op.equal, Op.maxDepth, Lib.run_equalIn_slice_nil W 9999 22 44 (some ad) len cap 0 0 Try.underlying22]
    go_enter Try.func28, Try.ntmps28
    go_wp2_with (at_builtin; refine wpList_append_any _ rfl (.tmp 5) (.tmp 6) 22 rfl w.heap.size 44 i0 _ 2 32 Try.underlying22 hi hz0 hz1 hz2 rfl (by decide) _ 0 _ rfl (own_empty44 w _ (Nat.le_refl _)) (some ad) len cap (cls ls) rfl (by rw [cls_len, HI.out.hl]) HI.out.none (rdL_news (HI.out.rd.below ((Below.refl _ _).alloc (Nat.le_refl _) _))) (cls_one _) (by unfold maxLen; omega) (by omega) (by simp) ?_; intro v' w1 hown' hgrow)
    go_ret
    refine ⟨v', rfl, ?_, ?_⟩
    · rw [Nat.zero_add] at hown'; exact hown'
    · exact ((Below.refl w.heap.size w).alloc (Nat.le_refl _) _).grown hgrow (by simp) (fun j hj => ((own_empty44 w _ (Nat.le_refl _)).lt j hj).1)

/-- A label's cells. -/
def enl (x : Lb) : List Value := [.string x.1, .string x.2]
noncomputable def svT : TypeInfo := (Try.prog.info? 22).get (by kernel_rfl)
noncomputable def svE : TypeInfo := (Try.prog.info? 44).get (by kernel_rfl)
theorem svK (n : Nat) (h2 : 2 ≤ n) : Lib.swapperK n svE 25 = 9 := by
  have a : svE.hasPointers = true := by kernel_rfl
  have b : svE.bytes = 32 := by kernel_rfl
  have c : (n == 0) = false := by simp; omega
  have d : (n == 1) = false := by simp; omega
  simp [Lib.swapperK, a, b, c, d]
theorem swo_ltl : Go.Sort.SWO ltl where
  irrefl := ltl_irr
  trans := fun x y z h1 h2 => ltl_trans h1 h2
  ntrans := fun x y z h1 h2 => by
    cases h : ltl x z with
    | false => rfl
    | true =>
      by_cases e : z.1 = y.1
      · have : ltl x y = true := by unfold ltl at *; rw [← e]; exact h
        rw [this] at h1; cases h1
      · have hzy := ltl_total (x := y) (y := z) (Ne.symm e) h2
        rw [ltl_trans h hzy] at h1; cases h1

set_option maxHeartbeats 2000000 in
/-- The closure that compares names. -/
theorem less_any (blk off c Bs size : Nat) (W : World) (G : Nat → ByteArray) (hs : W.cell? ⟨Bs, 0, none⟩ = some (.slice (some ⟨blk, off, none⟩) size c))
    (hc : ∀ t, t < size → W.cell? ⟨blk, off + t * 2, none⟩ = some (.string (G t))) (i j : Nat) (hi : i < size) (hj : j < size) :
    Calls Try.prog 30 #[.int .i64 i, .int .i64 j, .pointer (some ⟨Bs, 0, none⟩)] W fun e w' => e = .returned (.bool (li (nums (G i)) (nums (G j)))) ∧ ∃ q, w' = W.drewN q := by
  rw [← bl_eq]
  have ci := hc i hi
  have cj := hc j hj
  go_enter Try.func30, Try.ntmps30
  go_wp2
  go_quiet (fail)
  go_wp2
  go_ret
  exact ⟨rfl, nq, rfl⟩
end Go.Proofs.Ythklkhdcmoonkaa
