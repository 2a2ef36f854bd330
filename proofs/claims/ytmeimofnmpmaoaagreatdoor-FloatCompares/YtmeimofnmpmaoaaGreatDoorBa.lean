/- Long numbers, the document's own: rows of digits to the base of 2^16, the lowest first: plain facts, and what they are in memory. -/
import Derived.Test.YtmeimofnmpmaoaaGreatDoorRows
import Derived.WalkKit
import Derived.ProofKit
import Derived.WalkSpells
import Derived.Handy
import Derived.Deep.QuietTactic
import Derived.BigQuiet
import Derived.Laws.AppendOwn
namespace Go.Proofs.YtmeimofnmpmaoaaGreatDoor
open Go.RowKit
namespace Bn

/-- The number that digits tell. -/
def vl : List Nat → Nat
  | [] => 0
  | d :: r => d + 65536 * vl r
def AllD (ds : List Nat) : Prop := ∀ i, ds.getD i 0 < 65536
/-- No nought at the end. -/
def Norm (ds : List Nat) : Prop := ∀ n, ds.length = n + 1 → ds.getD n 0 ≠ 0

theorem vl_append : ∀ (a b : List Nat), vl (a ++ b) = vl a + 65536 ^ a.length * vl b
  | [], b => by simp [vl]
  | d :: r, b => by
    simp only [List.cons_append, vl, vl_append r b, List.length_cons, Nat.pow_succ]
    rw [Nat.mul_add, Nat.add_assoc, Nat.mul_comm (65536 ^ r.length) 65536, Nat.mul_assoc]
theorem vl_snoc (a : List Nat) (x : Nat) : vl (a ++ [x]) = vl a + 65536 ^ a.length * x := by rw [vl_append]; simp [vl]
theorem allD_cons {d : Nat} {r : List Nat} (h : AllD (d :: r)) : d < 65536 ∧ AllD r := ⟨h 0, fun i => h (i + 1)⟩
theorem allD_nil : AllD [] := fun i => by simp
theorem getD_snoc (l : List Nat) (x j : Nat) : (l ++ [x]).getD j 0 = if j = l.length then x else l.getD j 0 := by
  by_cases h : j = l.length
  · subst h; simp [List.getD]
  · rw [if_neg h]
    rcases Nat.lt_or_gt_of_ne h with h' | h'
    · simp [List.getD, List.getElem?_append_left h']
    · simp [List.getD, List.getElem?_eq_none (show (l ++ [x]).length ≤ j by simp; omega), List.getElem?_eq_none (show l.length ≤ j by omega)]
theorem allD_snoc {l : List Nat} {x : Nat} (h : AllD l) (hx : x < 65536) : AllD (l ++ [x]) := fun i => by
  rw [getD_snoc]; split
  · exact hx
  · exact h i
theorem allD_take {l : List Nat} (n : Nat) (h : AllD l) : AllD (l.take n) := fun i => by
  by_cases hi : i < n
  · have : (l.take n).getD i 0 = l.getD i 0 := by simp [List.getD, hi]
    rw [this]; exact h i
  · have : (l.take n).getD i 0 = 0 := by simp [List.getD, List.getElem?_eq_none (show (l.take n).length ≤ i by simp; omega)]
    rw [this]; decide
theorem allD_drop {l : List Nat} (n : Nat) (h : AllD l) : AllD (l.drop n) := fun i => by
  have : (l.drop n).getD i 0 = l.getD (n + i) 0 := by simp [List.getD]
  rw [this]; exact h _
theorem vl_lt : ∀ (l : List Nat), AllD l → vl l < 65536 ^ l.length
  | [], _ => by simp [vl]
  | d :: r, h => by
    obtain ⟨h1, h2⟩ := allD_cons h
    have := vl_lt r h2
    simp only [vl, List.length_cons, Nat.pow_succ]
    omega
theorem take_snoc (l : List Nat) (k : Nat) (h : k < l.length) : l.take (k + 1) = l.take k ++ [l.getD k 0] := by
  rw [List.take_succ_eq_append_getElem h]
  simp [List.getD, h]
theorem vl_take_succ (l : List Nat) (k : Nat) (h : k < l.length) : vl (l.take (k + 1)) = vl (l.take k) + 65536 ^ k * l.getD k 0 := by
  rw [take_snoc l k h, vl_snoc]; simp; rw [Nat.min_eq_left (by omega)]
theorem vl_split (l : List Nat) (k : Nat) (h : k < l.length) : vl l = vl (l.take k) + 65536 ^ k * (l.getD k 0 + 65536 * vl (l.drop (k + 1))) := by
  have e : l = l.take k ++ (l.getD k 0 :: l.drop (k + 1)) := by
    conv => lhs; rw [← List.take_append_drop k l]
    congr 1
    rw [List.drop_eq_getElem_cons h]
    simp [List.getD, h]
  have h1 := congrArg vl e
  rw [vl_append] at h1
  simp only [vl, List.length_take] at h1
  rwa [Nat.min_eq_left (by omega)] at h1
theorem norm_ge {l : List Nat} {n : Nat} (h : Norm l) (hl : l.length = n + 1) : 65536 ^ n ≤ vl l := by
  have h0 := h n hl
  have := vl_take_succ l n (by omega)
  rw [List.take_of_length_le (by omega)] at this
  rw [this]
  have : 65536 ^ n * 1 ≤ 65536 ^ n * l.getD n 0 := Nat.mul_le_mul_left _ (by omega)
  omega
theorem norm_nil : Norm [] := fun n h => by simp at h
theorem len_le {l : List Nat} {L : Nat} (h : Norm l) (hl : vl l < 65536 ^ L) : l.length ≤ L := by
  rcases Nat.lt_or_ge L l.length with h1 | h1
  · have h2 := norm_ge (n := l.length - 1) h (by omega)
    have h3 := (Nat.pow_lt_pow_iff_right (by decide : 1 < 65536)).1 (Nat.lt_of_le_of_lt h2 hl)
    omega
  · exact h1
theorem lt_of_len {a b : List Nat} (ha : AllD a) (hb : Norm b) (h : a.length < b.length) : vl a < vl b := by
  have h1 := vl_lt a ha
  have h2 := norm_ge (n := b.length - 1) hb (by omega)
  have h3 : 65536 ^ a.length ≤ 65536 ^ (b.length - 1) := Nat.pow_le_pow_right (by decide) (by omega)
  omega
/-- Two numbers of one length that are alike above a place, and not there. -/
theorem cmp_at {a b : List Nat} {k : Nat} (ha : AllD a) (hka : k < a.length) (hkb : k < b.length) (hd : a.drop (k + 1) = b.drop (k + 1)) (h : a.getD k 0 < b.getD k 0) : vl a < vl b := by
  rw [vl_split a k hka, vl_split b k hkb, hd]
  have h1 := vl_lt (a.take k) (allD_take k ha)
  rw [List.length_take, Nat.min_eq_left (by omega)] at h1
  generalize vl (b.drop (k + 1)) = z
  generalize vl (a.take k) = x at *
  generalize vl (b.take k) = y at *
  have : 65536 ^ k * (a.getD k 0 + 65536 * z + 1) ≤ 65536 ^ k * (b.getD k 0 + 65536 * z) := Nat.mul_le_mul_left _ (by omega)
  rw [Nat.mul_add _ _ 1] at this
  omega

/-- A slice of that address reads as these digits. -/
def RdN (w : World) (a : Option Addr) (ds : List Nat) : Prop :=
  ds = [] ∨ ∃ b off, a = some ⟨b, off, none⟩ ∧ (∃ cur f, w.heap[b]? = some (.cells cur 3 f)) ∧ ∀ i, i < ds.length → w.cell? ⟨b, off + i, none⟩ = some (.int .i64 ((ds.getD i 0 : Nat) : Int))
theorem blk_lt {w : World} {b : Nat} {o : Obj} (h : w.heap[b]? = some o) : b < w.heap.size := (Array.getElem?_eq_some_iff.1 h).1
theorem RdN.below {w w' : World} {a : Option Addr} {ds : List Nat} (h : RdN w a ds) (hb : Below w.heap.size w w') : RdN w' a ds := by
  rcases h with h | ⟨b, off, h1, h2, h3⟩
  · exact .inl h
  · obtain ⟨cur, f, h2⟩ := h2
    exact .inr ⟨b, off, h1, ⟨cur, f, (hb.block b (blk_lt h2)).trans h2⟩, fun i hi => (hb.cell (p := ⟨b, off + i, none⟩) (blk_lt h2)).trans (h3 i hi)⟩
/-- Digits stay where a row of another kind is written to. -/
theorem RdN.grown {w w' : World} {a : Option Addr} {ds : List Nat} {row : Option Nat} {t : TypeId} (h : RdN w a ds) (hg : w.grownBy w' row) (ht : t ≠ 3) (hr : ∀ g, row = some g → ∃ cur f, w.heap[g]? = some (.cells cur t f)) : RdN w' a ds := by
  rcases h with h | ⟨b, off, h1, ⟨cur, f, h2⟩, h3⟩
  · exact .inl h
  · have hne : some b ≠ row := fun e => by
      obtain ⟨cur', f', h4⟩ := hr b e.symm
      rw [h2] at h4
      cases h4
      exact ht rfl
    exact .inr ⟨b, off, h1, ⟨cur, f, (hg.block b (blk_lt h2) hne).trans h2⟩, fun i hi => hg.cell (h3 i hi) hne⟩
theorem RdN.at {w : World} {a : Option Addr} {ds : List Nat} (h : RdN w a ds) {k : Nat} (hk : k < ds.length) : ∃ b off, a = some ⟨b, off, none⟩ ∧ b < w.heap.size ∧ w.cell? ⟨b, off + k, none⟩ = some (.int .i64 ((ds.getD k 0 : Nat) : Int)) := by
  rcases h with h | ⟨b, off, h1, h2, h3⟩
  · subst h; simp at hk
  · obtain ⟨cur, f, h2⟩ := h2
    exact ⟨b, off, h1, blk_lt h2, h3 k hk⟩
theorem RdN.take {w : World} {a : Option Addr} {ds : List Nat} (h : RdN w a ds) (n : Nat) : RdN w a (ds.take n) := by
  rcases h with rfl | ⟨b, off, h1, h2, h3⟩
  · exact .inl (by simp)
  · refine .inr ⟨b, off, h1, h2, fun i hi => ?_⟩
    simp only [List.length_take] at hi
    have e : (ds.take n).getD i 0 = ds.getD i 0 := by simp [List.getD, show i < n by omega]
    rw [e]; exact h3 i (by omega)

/-- This value is the number N, as digits without a nought at the end. -/
structure Big (L : Nat) (w : World) (v : Value) (N : Nat) : Prop where
  ex : ∃ a n c ds, v = .slice a n c ∧ n ≤ c ∧ c ≤ maxLen ∧ ds.length = n ∧ AllD ds ∧ Norm ds ∧ vl ds = N ∧ RdN w a ds
  lt : N < 65536 ^ L
theorem Big.below {L : Nat} {w w' : World} {v : Value} {N : Nat} (h : Big L w v N) (hb : Below w.heap.size w w') : Big L w' v N := by
  obtain ⟨⟨a, n, c, ds, h1, h2, h3, h4, h5, h6, h7, h8⟩, hl⟩ := h
  exact ⟨⟨a, n, c, ds, h1, h2, h3, h4, h5, h6, h7, h8.below hb⟩, hl⟩

theorem Big.grown {L : Nat} {w w' : World} {v : Value} {N : Nat} {row : Option Nat} {t : TypeId} (h : Big L w v N) (hg : w.grownBy w' row) (ht : t ≠ 3) (hr : ∀ g, row = some g → ∃ cur f, w.heap[g]? = some (.cells cur t f)) : Big L w' v N := by
  obtain ⟨⟨a, n, c, ds, h1, h2, h3, h4, h5, h6, h7, h8⟩, hl⟩ := h
  exact ⟨⟨a, n, c, ds, h1, h2, h3, h4, h5, h6, h7, h8.grown hg ht hr⟩, hl⟩
theorem own_tag {w : World} {base n size : Nat} {v : Value} {e : TypeId} {xs : List Value} (h : w.ownsRow base e size v n xs) : ∀ g, v.ownBlock = some g → ∃ cur f, w.heap[g]? = some (.cells cur e f) := by
  intro g hg
  rcases h.2 with ⟨rfl, _⟩ | ⟨g', cap, cur, rfl, _, h3, _⟩
  · simp [Value.ownBlock] at hg
  · simp [Value.ownBlock] at hg
    subst hg
    exact ⟨cur, _, h3⟩

theorem below_drewN (w : World) (n : Nat) : Below w.heap.size w (w.drewN n) := by
  induction n with
  | zero => exact Below.refl _ _
  | succ n ih => exact ih.drew

set_option maxRecDepth 20000 in
theorem Tryz.info3 : (Tryz.prog.info? 3).map (fun i => (i.zero, i.size, i.bytes)) = some (some (.int .i64 0), 1, 8) := by kernel_rfl
theorem info3_parts : ∃ i, Tryz.prog.info? 3 = some i ∧ i.zero = some (.int .i64 0) ∧ i.size = 1 ∧ i.bytes = 8 := by
  obtain ⟨i, hi, hzz⟩ := Option.map_eq_some_iff.1 Tryz.info3
  simp only [Prod.mk.injEq] at hzz
  exact ⟨i, hi, hzz.1, hzz.2.1, hzz.2.2⟩
abbrev cs (ds : List Nat) : List Value := ds.map fun d => Value.int .i64 ((d : Nat) : Int)
theorem cs_snoc (ds : List Nat) (x : Nat) : cs (ds ++ [x]) = cs ds ++ [.int .i64 ((x : Nat) : Int)] := by simp [cs]
theorem below_more {B : Nat} {w w' : World} (h : Below B w w') (n : Nat) : Below B w (w'.drewN n) := by
  induction n with
  | zero => exact h
  | succ n ih => exact ih.drew
theorem own_rdN {w : World} {base n : Nat} {v : Value} {ds : List Nat} (h : w.ownsRow base 3 1 v n (cs ds)) : ∃ a c, v = .slice a n c ∧ n ≤ c ∧ c ≤ maxLen ∧ RdN w a ds := by
  have hl := h.1
  simp only [List.length_map, Nat.mul_one] at hl
  rcases h.2 with ⟨h1, h2⟩ | ⟨g, cap, cur, h1, h2, h3, h4, h5, h6, h7⟩
  · exact ⟨none, 0, by rw [h2]; exact h1, by omega, Nat.zero_le _, .inl (List.eq_nil_of_length_eq_zero (by omega))⟩
  · refine ⟨_, cap, h1, h4, h5, .inr ⟨g, 0, rfl, ⟨cur, _, h3⟩, fun i hi => ?_⟩⟩
    have hx : (cs ds)[i]? = some (.int .i64 ((ds.getD i 0 : Nat) : Int)) := by simp [List.getD, hi]
    rw [← h7, List.getElem?_take, if_pos (by omega)] at hx
    simp [World.cell?, h3]
    simpa using hx
theorem own_below {w w' : World} {base n size : Nat} {v : Value} {e : TypeId} {xs : List Value} (h : w.ownsRow base e size v n xs) (hb : Below w.heap.size w w') : w'.ownsRow base e size v n xs := by
  refine ⟨h.1, ?_⟩
  rcases h.2 with h0 | ⟨g, cap, cur, h1, h2, h3, h4⟩
  · exact .inl h0
  · exact .inr ⟨g, cap, cur, h1, h2, (hb.block g (Array.getElem?_eq_some_iff.1 h3).1).trans h3, h4⟩
theorem one_at (w : World) (x : Value) (t : TypeId) : ∀ j u, [x][j]? = some u → (w.alloc (.cells #[x] t)).cell? ((⟨w.heap.size, 0, none⟩ : Addr).add j) = some u := by
  intro j u hj
  match j, hj with
  | 0, hj => simp at hj; subst hj; simp [Addr.add]
theorem one_one {k : IntKind} (n : Int) : ∀ u ∈ [Value.int k n], u.oneCell' = true := by
  intro u hu; simp at hu; subst hu; rfl

set_option maxHeartbeats 1600000 in
theorem trim_any (a : Option Addr) (n c : Nat) (ds : List Nat) (w : World) (hl : ds.length = n) (hc : n ≤ c) (hm : c ≤ maxLen) (hrd : RdN w a ds) :
    Calls Tryz.prog 42 #[.slice a n c] w fun r w' => ∃ m, m ≤ n ∧ r = .returned (.slice a m c) ∧ Norm (ds.take m) ∧ vl (ds.take m) = vl ds ∧ w' = w := by
  unfold maxLen at hm
  have HR : Hid (RdN w a ds ∧ ds.length = n) := ⟨hrd, hl⟩
  clear hrd hl
  go_enter Tryz.func42, Tryz.ntmps42
  go_wp2
  go_loop [3] (fun i => ∃ k : Nat, i = .int .i64 (k : Int) ∧ k ≤ n ∧ Hid (vl (ds.take k) = vl ds)) (fun i => (intOf i).toNat)
  case atStart => exact ⟨n, rfl, Nat.le_refl _, by show _ = _; rw [List.take_of_length_le (by rw [HR.out.2]; exact Nat.le_refl _)]⟩
  case round =>
    obtain ⟨k, rfl, hk, hv⟩ := hrel
    by_cases h0 : 0 < k
    · have h0' : (0 : Int) < (k : Int) := by omega
      obtain ⟨j, hj⟩ : ∃ j, k = j + 1 := ⟨k - 1, by omega⟩
      subst hj
      obtain ⟨b, off, rfl, hbb, c0⟩ := HR.out.1.at (k := j) (by rw [HR.out.2]; omega)
      obtain ⟨x, hx⟩ : ∃ x, Hid (x = ds.getD j 0) := ⟨_, rfl⟩
      rw [← hx.out] at c0
      have HT : Hid (vl (ds.take (j + 1)) = vl (ds.take j) + 65536 ^ j * x) := by show _ = _; rw [hx.out]; exact vl_take_succ ds j (by rw [HR.out.2]; omega)
      have e1 : ((j + 1 : Nat) : Int) - 1 = (j : Int) := by omega
      by_cases hz : x = 0
      · subst hz
        go_wp2_with fail
        go_round
        case rel =>
          refine ⟨j, rfl, by omega, ?_⟩
          show _ = _
          rw [← hv.out, HT.out, Nat.mul_zero, Nat.add_zero]
        case measure => simp [intOf]
      · have hz' : ¬ (x : Int) = 0 := by omega
        have hkc : ((j + 1 : Nat) : Int) ≤ (c : Int) := by omega
        have hkc0 : (0 : Int) ≤ ((j + 1 : Nat) : Int) := by omega
        go_wp2_with fail
        go_ret
        refine ⟨j + 1, hk, rfl, fun m hm' => ?_, hv.out, rfl⟩
        rw [List.length_take, HR.out.2, Nat.min_eq_left hk] at hm'
        obtain rfl : m = j := by omega
        have : (ds.take (m + 1)).getD m 0 = ds.getD m 0 := by simp [List.getD]
        rw [this, ← hx.out]; exact hz
    · obtain rfl : k = 0 := by omega
      have hkc : (0 : Int) ≤ (c : Int) := by omega
      go_wp2_with fail
      go_ret
      exact ⟨0, Nat.zero_le _, rfl, fun m hm' => by simp at hm', hv.out, rfl⟩
end Bn
end Go.Proofs.YtmeimofnmpmaoaaGreatDoor
