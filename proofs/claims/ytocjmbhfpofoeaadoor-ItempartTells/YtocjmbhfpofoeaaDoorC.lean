/- The contracts of grown and add: the bytes of a slice in new memory; the bytes of a number behind a row of the call's own. Conditions: sizes far below what a slice may take. -/
import Derived.Test.YtocjmbhfpofoeaaDoorB
import Derived.Laws.CopyOwn
import Derived.Deep.RegionWith
namespace Go.Proofs.YtocjmbhfpofoeaaDoor
open Go.RowKit

/-- A slice of that address reads as these numbers. -/
def Rd (k : IntKind) (w : World) (a : Option Addr) (zs : List Int) : Prop :=
  zs = [] ∨ ∃ b off, a = some ⟨b, off, none⟩ ∧ b < w.heap.size ∧ ∀ i, i < zs.length → w.cell? ⟨b, off + i, none⟩ = some (.int k (zs.getD i 0))

theorem Rd.below {k : IntKind} {w w' : World} {a : Option Addr} {zs : List Int} (h : Rd k w a zs) (hb : Below w.heap.size w w') : Rd k w' a zs := by
  rcases h with h | ⟨b, off, h1, h2, h3⟩
  · exact .inl h
  · exact .inr ⟨b, off, h1, Nat.lt_of_lt_of_le h2 hb.size, fun i hi => (hb.cell (p := ⟨b, off + i, none⟩) h2).trans (h3 i hi)⟩

theorem Rd.at {k : IntKind} {w : World} {a : Option Addr} {zs : List Int} (h : Rd k w a zs) : 0 < (zs.map (Value.int k)).length →
    ∃ ad, a = some ad ∧ ∀ j v, (zs.map (Value.int k))[j]? = some v → w.cell? (ad.add j) = some v := by
  intro hp
  rcases h with h | ⟨b, off, h1, h2, h3⟩
  · subst h; simp at hp
  · refine ⟨_, h1, fun j v hv => ?_⟩
    have hj : j < zs.length := by simpa using (List.getElem?_eq_some_iff.1 hv).1
    rw [Addr.add_lit, h3 j hj]
    have e : (zs.map (Value.int k))[j]? = some (.int k (zs.getD j 0)) := by simp [List.getD, hj]
    rw [e] at hv
    exact hv

def zeros (n : Nat) : List Value := List.replicate n (.int .u8 0)
theorem zeros_made (n : Nat) : madeCells (Value.int IntKind.u8 0).cells (n * 1) = (zeros n).toArray := by
  unfold madeCells zeros
  apply Array.ext
  · simp
  · intro i h1 h2; simp [Value.cells, Nat.mod_one]

theorem wpList_make_any {P : Program} (w : World) {ops : Array Oper} {rest : List Oper} {o : Oper} {a : Act} {Q : Exit → Act → World → Prop}
    (hg : o.guard = none) (l c : Operand) (t : TypeId) (hop : o.op = Op.makeSlice t l c)
    (e : TypeId) (i : TypeInfo) (z : Value) (h1 : P.underlying t = some (.slice e)) (h2 : P.info? e = some i) (h3 : i.zero = some z)
    (kl kc : IntKind) (L C : Int) (n m : Nat) (hl : a.eval l = .int kl L) (hc : a.eval c = .int kc C) (hL : L = (n : Int)) (hC : C = (m : Int)) (hnm : n ≤ m) (b2 : i.bytes * m ≤ 281474976710656) (b3 : m ≤ maxLen)
    (cur : Array Value) (hcur : cur = madeCells z.cells (m * i.size))
    (hK : wpList P ops Q rest (a.put o.dst (.slice (some ⟨w.heap.size, 0, none⟩) n m)) (w.alloc (.cells cur e))) :
    wpList P ops Q (o :: rest) a w := by
  refine wpList_plain hg fun K hK' => ?_
  have b3' : (m : Int) ≤ 9223372036854775807 := by simp [maxLen] at b3; omega
  have b2' : (i.bytes : Int) * (m : Int) ≤ 281474976710656 := by
    have h : ((i.bytes * m : Nat) : Int) ≤ 281474976710656 := by omega
    rwa [Int.natCast_mul] at h
  have hrun := run_make (P := P) w t e i z h1 h2 h3 kl kc n m (by omega) (by omega) b2' b3'
  simp only [Int.toNat_natCast] at hrun
  subst hL; subst hC; subst hcur
  unfold Oper.wp
  simp [execOp, hop, hl, hc, hrun, Result.andThen]
  exact hK' _ _ hK

theorem Tryd.info5 : (Tryd.prog.info? 5).map (fun i => (i.zero, i.size, i.bytes)) = some (some (.int .u8 0), 1, 1) := by kernel_rfl
theorem Tryd.size5 : (Tryd.prog.info? 5).map (·.size) = some 1 := by kernel_rfl

theorem own_of {w : World} {base g n m : Nat} {xs : List Value} (hb : base ≤ g) (hm : n + m ≤ maxLen) (hx : xs.length = n)
    (h : w.heap[g]? = some (.cells (splice (zeros (n + m)) 0 xs).toArray 5 (0, 0))) : w.ownsRow base 5 1 (.slice (some ⟨g, 0, none⟩) n (n + m)) n xs := by
  refine ⟨by omega, .inr ⟨g, n + m, _, rfl, hb, h, by omega, hm, ?_, ?_⟩⟩
  · simp only [List.size_toArray]; rw [length_splice]; · simp [zeros]
    · simp [zeros]; omega
  · simp only [splice]; simp [hx]

set_option maxHeartbeats 400000 in
theorem grown_any (a : Option Addr) (len cap room : Nat) (zs : List Int) (w : World) (hz : zs.length = len) (hrd : Rd .u8 w a zs) (hs : len + room ≤ 140737488355328) :
    Calls Tryd.prog 71 #[.slice a len cap, .int .i64 (room : Int)] w fun e w' => e = .returned (.slice (some ⟨w.heap.size, 0, none⟩) len (len + room)) ∧
      w'.ownsRow w.heap.size 5 1 (.slice (some ⟨w.heap.size, 0, none⟩) len (len + room)) len (zs.map (Value.int .u8)) ∧ Below w.heap.size w w' := by
  obtain ⟨i0, hi, hz0, hz1, hz2⟩ := info_parts Tryd.info5
  have hml : len + room ≤ maxLen := by unfold maxLen; omega
  have HR : Hid (Rd .u8 w a zs) := hrd
  have HZ : Hid (zs.length = len) := hz
  clear hrd hz
  go_enter Tryd.func71, Tryd.ntmps71
  go_wp2_with (first
    | (at_make; (refine wpList_make_any _ rfl (.tmp 7) (.tmp 11) 23 rfl 5 i0 (.int .u8 0) Tryd.underlying23 hi hz0 .i64 .i64 _ _ len (len + room) rfl rfl (by omega) (by omega) (by omega) (by rw [hz2]; omega) hml (zeros (len + room)).toArray (by rw [hz1, zeros_made]) ?_))
    | ((refine wpList_copy_splice rfl (.tmp 13) (.tmp 14) 23 23 rfl 5 Tryd.underlying23 Tryd.size5 _ _ len (len + room) len cap rfl rfl w.heap.size 0 (zeros (len + room)) 5 (heap_alloc_new w _) (zs.map (Value.int .u8)) (by simp [HZ.out]) (fun hp => ⟨rfl, (HR.out.below ((Below.refl _ _).alloc (Nat.le_refl _) _)).at hp⟩) (by simp [zeros, HZ.out]) (ints_oneCell _ _) w.heap.size w ((Below.refl _ _).alloc (Nat.le_refl _) _) (Nat.le_refl _) ?_); intro w' hg' hb'))
  go_ret
  exact ⟨rfl, own_of (Nat.le_refl _) hml (by simp [HZ.out]) hg'.out, hb'⟩


theorem num_u8 (x : Nat) : Value.int .u8 ((x : Int) % 128 + 128) = .int .u8 ((x % 128 + 128 : Nat) : Int) := by congr 1

theorem one_at (w : World) (x : Value) (t : TypeId) : ∀ j u, [x][j]? = some u → (w.alloc (.cells #[x] t)).cell? ((⟨w.heap.size, 0, none⟩ : Addr).add j) = some u := by
  intro j u hj
  match j, hj with
  | 0, hj => simp at hj; subst hj; simp [Addr.add]
theorem one_one {k : IntKind} (n : Int) : ∀ u ∈ [Value.int k n], u.oneCell' = true := by
  intro u hu; simp at hu; subst hu; rfl

set_option maxHeartbeats 800000 in
theorem add_any (base : Nat) (v : Value) (n : Nat) (xs : List Value) (u : Nat) (w : World) (hu : u < 18446744073709551616) (hown : w.ownsRow base 5 1 v n xs) (hb : base ≤ w.heap.size) (hn : n ≤ 140737488000000) :
    Calls Tryd.prog 70 #[v, .int .u64 (u : Int)] w fun e w' => ∃ v', e = .returned v' ∧ w'.ownsRow base 5 1 v' (n + (bs u).length) (xs ++ (bs u).map (Value.int .u8)) ∧ Below base w w' := by
  obtain ⟨i0, hi, hz0, hz1, hz2⟩ := info_parts Tryd.info5
  have hl := bs_le10 hu
  go_enter Tryd.func70, Tryd.ntmps70
  go_wp2
  go_loopw [0, 1] (fun s a wr => ∃ x k : Nat, ∃ ys : List Int, a = .int .u64 (x : Int) ∧ x < 18446744073709551616 ∧ wr.ownsRow base 5 1 s (n + k) (xs ++ ys.map (Value.int .u8)) ∧ ys.length = k ∧ ys ++ bs x = bs u ∧ Below base w wr) (fun _ a _ => (intOf a).toNat)
  case atStart => exact ⟨u, 0, [], rfl, hu, by simpa using hown, rfl, rfl, Below.refl _ _⟩
  case round =>
    obtain ⟨x, k, ys, rfl, hx, ho, hk, hy, hbel⟩ := hrel
    have hkl : k ≤ 10 := by rw [← hy] at hl; simp at hl; omega
    have HY : Hid (ys ++ bs x = bs u ∧ ys.length = k) := ⟨hy, hk⟩
    clear hy hk
    have hbase : base ≤ wr.heap.size := Nat.le_trans hb hbel.size
    by_cases hlt : x < 128
    · have hlt' : ¬ (128 : Int) ≤ (x : Int) := by omega
      go_wp2_with (at_builtin; refine wpList_append_own _ rfl (.tmp 16) (.tmp 19) 23 rfl base 5 i0 (.int .u8 0) 1 1 Tryd.underlying23 hi hz0 hz1 hz2 rfl (by decide) _ (n + k) _ rfl (ho.alloc _) ⟨wr.heap.size, 0, none⟩ 1 1 [.int .u8 (x : Int)] rfl rfl (one_at wr _ _) (one_one _) (by unfold maxLen; omega) (by omega) (by simp; omega) ?_; intro v' w1 hown' hgrow _)
      go_ret
      refine ⟨v', rfl, ?_, ?_⟩
      · have e : bs x = [(x : Int)] := bs_small hlt
        obtain ⟨h1, h2⟩ := HY.out
        rw [e] at h1
        rw [← h1, List.length_append, h2, List.map_append, ← List.append_assoc, ← Nat.add_assoc]
        exact hown'
      · exact (hbel.alloc hbase _).grown hgrow (by simp; omega) (fun j hj => (ho.lt j hj).1)
    · have hlt' : (128 : Int) ≤ (x : Int) := by omega
      go_wp2_with (at_builtin; refine wpList_append_own _ rfl (.tmp 7) (.tmp 12) 23 rfl base 5 i0 (.int .u8 0) 1 1 Tryd.underlying23 hi hz0 hz1 hz2 rfl (by decide) _ (n + k) _ rfl (ho.alloc _) ⟨wr.heap.size, 0, none⟩ 1 1 [.int .u8 ((x : Int) % 128 + 128)] rfl rfl (one_at wr _ _) (one_one _) (by unfold maxLen; omega) (by omega) (by simp; omega) ?_; intro v' w1 hown' hgrow _)
      go_roundw
      case rel =>
        obtain ⟨h1, h2⟩ := HY.out
        refine ⟨x / 128, k + 1, ys ++ [((x % 128 + 128 : Nat) : Int)], num_div x, by omega, ?_, by simp [h2], ?_, ?_⟩
        · rw [List.map_append, ← List.append_assoc, ← Nat.add_assoc]
          exact hown'
        · rw [← h1, bs_big (u := x) (by omega), List.append_assoc]; rfl
        · exact (hbel.alloc hbase _).grown hgrow (by simp; omega) (fun j hj => (ho.lt j hj).1)
      case measure => simp [intOf]; omega
end Go.Proofs.YtocjmbhfpofoeaaDoor
