/- Plain: frames of two bodies or of two kinds are other bytes; how long they are; bytes and their strings. Conditions: those of each theorem. -/
import Derived.Test.YtifkpimglmncdaaDoorFr
import Derived.Laws.Bits128
namespace Go.Proofs.YtifkpimglmncdaaDoor
open Go.RowKit

theorem u8_inj {x y : Int} (hx : 0 ≤ x ∧ x ≤ 255) (hy : 0 ≤ y ∧ y ≤ 255) (h : UInt8.ofNat x.toNat = UInt8.ofNat y.toNat) : x = y := by
  have := congrArg UInt8.toNat h
  simp only [UInt8.toNat_ofNat'] at this
  omega
theorem map_inj : ∀ {xs ys : List Int}, Bytes xs → Bytes ys → xs.map (fun n => UInt8.ofNat n.toNat) = ys.map (fun n => UInt8.ofNat n.toNat) → xs = ys
  | [], [], _, _, _ => rfl
  | [], _ :: _, _, _, h => by simp at h
  | _ :: _, [], _, _, h => by simp at h
  | x :: xs, y :: ys, hx, hy, h => by
    simp only [List.map_cons, List.cons.injEq] at h
    rw [u8_inj (hx x (List.mem_cons_self ..)) (hy y (List.mem_cons_self ..)) h.1, map_inj (fun z hz => hx z (List.mem_cons_of_mem _ hz)) (fun z hz => hy z (List.mem_cons_of_mem _ hz)) h.2]
theorem str_inj {xs ys : List Int} (hx : Bytes xs) (hy : Bytes ys) (h : strOfNums xs = strOfNums ys) : xs = ys := by
  refine map_inj hx hy ?_
  unfold strOfNums at h
  simpa using h
theorem str_ne {xs ys : List Int} (hx : Bytes xs) (hy : Bytes ys) (h : xs ≠ ys) : strOfNums xs ≠ strOfNums ys := fun e => h (str_inj hx hy e)
theorem str_beq {xs ys : List Int} (hx : Bytes xs) (hy : Bytes ys) : ((strOfNums xs).toList == (strOfNums ys).toList) = decide (xs = ys) := by
  rw [Lib.toList_data, Lib.toList_data]
  by_cases h : xs = ys
  · subst h; simp
  · rw [decide_eq_false h]
    have : (strOfNums xs).data.toList ≠ (strOfNums ys).data.toList := fun e => h (map_inj hx hy e)
    simpa using this
theorem frm_inj {k : Nat} {xs ys : List Int} (hx : xs.length ≤ 65535) (hy : ys.length ≤ 65535) (h : frm k xs = frm k ys) : xs = ys := by
  have hl := congrArg List.length h
  rw [frm_length, frm_length] at hl
  have hn : xs.length = ys.length := by
    rcases Nat.lt_trichotomy xs.length ys.length with hlt | he | hlt
    · have := bs_mono64 (a := xs.length) (b := ys.length) (by omega) (by omega); omega
    · exact he
    · have := bs_mono64 (a := ys.length) (b := xs.length) (by omega) (by omega); omega
  simp only [frm, hd, hn, List.cons_append, List.append_assoc, List.cons.injEq, true_and, List.append_cancel_left_eq] at h
  exact (List.append_inj h hn).1
theorem frm_kind {k k' : Nat} {xs ys : List Int} (hk : k ≠ k') : frm k xs ≠ frm k' ys := by
  intro h
  simp only [frm, hd, List.cons_append, List.cons.injEq] at h
  omega
theorem bs_two {n : Nat} (h1 : 127 < n) (h2 : n ≤ 500) : (bs n).length = 2 := by
  rw [bs_big (by omega), List.length_cons, bs_small (by omega)]; rfl
theorem i64_and255 (n : Int) : bits .and .i64 n 255 = n % 256 := by
  have h127 : (BitVec.ofInt 64 255).toNat = 2 ^ 8 - 1 := by decide
  have key : (BitVec.ofInt 64 n &&& BitVec.ofInt 64 255).toNat = (n % ((2 ^ 64 : Nat) : Int)).toNat % 2 ^ 8 := by
    rw [BitVec.toNat_and, BitVec.toNat_ofInt, h127, Nat.and_two_pow_sub_one_eq_mod]
  show IntKind.i64.wrap ((BitVec.ofInt 64 n &&& BitVec.ofInt 64 255).toNat : Nat) = n % 256
  rw [key, IntKind.wrap_i64]
  omega
theorem i64_and65535 (n : Int) : bits .and .i64 n 65535 = n % 65536 := by
  have h127 : (BitVec.ofInt 64 65535).toNat = 2 ^ 16 - 1 := by decide
  have key : (BitVec.ofInt 64 n &&& BitVec.ofInt 64 65535).toNat = (n % ((2 ^ 64 : Nat) : Int)).toNat % 2 ^ 16 := by
    rw [BitVec.toNat_and, BitVec.toNat_ofInt, h127, Nat.and_two_pow_sub_one_eq_mod]
  show IntKind.i64.wrap ((BitVec.ofInt 64 n &&& BitVec.ofInt 64 65535).toNat : Nat) = n % 65536
  rw [key, IntKind.wrap_i64]
  omega
theorem and255_nat (n : Int) : ∃ k : Nat, bits .and .i64 n 255 = (k : Int) ∧ k ≤ 255 ∧ (k : Int) = n % 256 := ⟨(n % 256).toNat, by rw [i64_and255]; omega, by omega, by omega⟩
theorem wrap_mod256 (n : Int) : wrap64 n % 256 = n % 256 := by rw [← IntWalk.i64_left, IntKind.wrap_i64]; omega
end Go.Proofs.YtifkpimglmncdaaDoor
