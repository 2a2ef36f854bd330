/- The document's examples: awake answers true. Conditions: the table of powers holds what it is laid with. -/
import Derived.Test.YtpjimckbpabakaaDoorH
namespace Go.Proofs.YtpjimckbpabakaaDoor
open Go.RowKit

/-- The mantissas of the first n values. -/
def mants (vs : List Vl) (n : Nat) (e : Int) : List Int := (vs.take n).map fun v => mant v e
theorem mants_len {vs : List Vl} {n : Nat} {e : Int} (h : n ≤ vs.length) : (mants vs n e).length = n := by simp [mants]; omega
theorem mants_getD {vs : List Vl} {n : Nat} {e : Int} (h : n ≤ vs.length) {i : Nat} (hi : i < n) : (mants vs n e).getD i 0 = mant (vs.getD i v0) e := by
  have h1 : i < vs.length := by omega
  simp [mants, List.getD, hi, h1]
theorem rdI_of_row {w : World} {g n : Nat} {vs : List Vl} {e : Int} (h : w.rowIs g 2 n (fun i => .int .i64 (mant (vs.getD i v0) e))) (hn : n ≤ vs.length) : RdI w (some ⟨g, 0, none⟩) (mants vs n e) := by
  refine .inr ⟨g, 0, rfl, h.lt, fun i hi => ?_⟩
  rw [mants_len hn] at hi
  rw [Nat.zero_add, h.cell hi, mants_getD hn hi]
theorem mants_64 {vs : List Vl} {n : Nat} (h : Longest vs n) : All64 (mants vs n (st (vs.take n)).1) := by
  intro k
  rcases Nat.lt_or_ge k n with hk | hk
  · rw [mants_getD h.1 hk]
    exact mant_bd ((good_iff _).1 h.2.1 _ (mem_take_getD hk h.1))
  · have e : (mants vs n (st (vs.take n)).1).getD k 0 = 0 := by
      simp [List.getD, List.getElem?_eq_none (show (mants vs n (st (vs.take n)).1).length ≤ k by rw [mants_len h.1]; exact hk)]
    rw [e]; decide
/-- What is packed is unpacked. -/
theorem unl_mants {vs : List Vl} {n : Nat} (h : Longest vs n) : unl (mants vs n (st (vs.take n)).1) (st (vs.take n)).1 = some (vs.take n) := by
  have hb := low_bd h.2.1.1
  unfold unl mants
  rw [if_neg (by omega)]
  have hf := (good_iff _).1 h.2.1
  generalize (st (vs.take n)).1 = e at *
  generalize vs.take n = l at *
  have hh : ∀ v ∈ l, fits v e := hf
  clear hf h
  induction l with
  | nil => rfl
  | cons v l ih =>
    simp only [List.map_cons, uns]
    rw [unv_mant (hh v (by simp)) (by omega) (by omega), ih fun x hx => hh x (by simp [hx])]

/-- A row of cells just made reads as these values. -/
theorem isV_lit (w : World) (vs : List Vl) (c : Array Value) (n : Nat) (hn : vs.length = n) (h0 : n ≤ 100) (hc : ∀ i, i < n → c[i * 3]? = some (.int .i64 (vs.getD i v0).M) ∧ c[i * 3 + 1]? = some (.int .i64 (vs.getD i v0).E) ∧ c[i * 3 + 2]? = some (.int .i64 (vs.getD i v0).S)) :
    IsV (w.alloc (.cells c 36)) (some ⟨w.heap.size, 0, none⟩) n n vs := by
  refine ⟨hn, Nat.le_refl _, by unfold maxLen; omega, .inr ⟨w.heap.size, 0, rfl, by simp, fun i hi => ?_⟩, fun h => by cases h⟩
  obtain ⟨h1, h2, h3⟩ := hc i (by omega)
  have hr := World.rowIs_alloc w c 36 (fun i => c.getD i undef) (fun i hi => by simp [hi])
  have key : ∀ j x, c[j]? = some x → (w.alloc (.cells c 36)).cell? ⟨w.heap.size, j, none⟩ = some x := fun j x hx => by
    rw [hr.cell (Array.getElem?_eq_some_iff.1 hx).1]
    simp [hx]
  rw [Nat.zero_add]
  exact ⟨key _ _ h1, key _ _ h2, key _ _ h3⟩

def ex1 : List Vl := [⟨15, -1, 0⟩, ⟨2, 0, 0⟩, ⟨0, 0, 4⟩, ⟨0, 0, 0⟩]
def ex2 : List Vl := [⟨1, 20, 0⟩, ⟨1, 0, 0⟩]
def ex3 : List Vl := [⟨15, -1, 0⟩, ⟨2, 0, 0⟩]
theorem ex1_long : Longest ex1 4 := by
  refine longest_of (by decide) ⟨?_, by decide⟩ (.inl rfl)
  intro v hv
  simp [ex1] at hv
  rcases hv with rfl | rfl | rfl | rfl <;> rfl
theorem ex2_long : Longest ex2 1 := by
  refine longest_of (by decide) ⟨?_, by decide⟩ (.inr fun h => absurd h.2 (by decide))
  intro v hv
  simp [ex2] at hv
  subst hv; rfl
theorem ex1_st : (st (ex1.take 4)).1 = -1 := by decide
theorem ex2_st : (st (ex2.take 1)).1 = 20 := by decide
theorem ex1_mants : mants ex1 4 (-1) = [15, 20, -9223372036854775804, 0] := by decide
theorem ex3_unl : unl [15, 20] (-1) = some ex3 := by rfl

set_option maxHeartbeats 1600000 in
theorem awake_any (w : World) (hP : Pw w) : Calls Tryd.prog 9 #[] w fun e w' => e = .returned (.bool true) ∧ Below w.heap.size w w' := by
  go_enter Tryd.func9, Tryd.ntmps9
  go_wp2_with fail
  have v1 := isV_lit w ex1 #[.int .i64 15, .int .i64 (-1), .int .i64 0, .int .i64 2, .int .i64 0, .int .i64 0, .int .i64 0, .int .i64 0, .int .i64 4, .int .i64 0, .int .i64 0, .int .i64 0] 4 rfl (by decide) (fun i hi => by
    match i, hi with
    | 0, _ => exact ⟨rfl, rfl, rfl⟩
    | 1, _ => exact ⟨rfl, rfl, rfl⟩
    | 2, _ => exact ⟨rfl, rfl, rfl⟩
    | 3, _ => exact ⟨rfl, rfl, rfl⟩)
  have a1 : Below w.heap.size w (w.alloc (.cells #[.int .i64 15, .int .i64 (-1), .int .i64 0, .int .i64 2, .int .i64 0, .int .i64 0, .int .i64 0, .int .i64 0, .int .i64 4, .int .i64 0, .int .i64 0, .int .i64 0] 36)) := (Below.refl _ _).alloc (Nat.le_refl _) _
  refine (pack_any _ 4 4 ex1 _ v1 (by decide) (hP.below a1)).mono ?_
  rintro r w1 ⟨n1, g1, L1, rfl, hg1, r1, b1⟩
  obtain rfl := L1.uniq ex1_long
  rw [ex1_st] at r1 ⊢
  have B1 : Below w.heap.size w w1 := a1.trans (b1.mono (by simp))
  clear a1 b1 v1
  have a2 : Below w1.heap.size w1 (w1.alloc (.cells #[.int .i64 15, .int .i64 20] 2)) := (Below.refl _ _).alloc (Nat.le_refl _) _
  have rd2 : RdI (w1.alloc (.cells #[.int .i64 15, .int .i64 20] 2)) (some ⟨w1.heap.size, 0, none⟩) [15, 20] := .inr ⟨w1.heap.size, 0, rfl, by simp, fun i hi => by
    match i, hi with
    | 0, _ => simp
    | 1, _ => simp⟩
  go_wp2_with fail
  refine (unpack_any _ 2 2 [15, 20] (-1) _ rfl (by decide) rd2 (fun k => by match k with | 0 => decide | 1 => decide | k + 2 => simp) ((hP.below B1).below a2)).mono ?_
  rintro r w2 ⟨b2, h2⟩
  rcases h2 with ⟨vs, a, c, hu, rfl, v2⟩ | ⟨hu, _⟩
  · obtain rfl : ex3 = vs := Option.some.inj (ex3_unl.symm.trans hu)
    clear hu rd2
    have B2 : Below w1.heap.size w1 w2 := a2.trans (b2.mono (by simp))
    clear a2 b2
    have m1 := (rdI_of_row r1 (by decide)).below B2
    rw [ex1_mants] at m1
    have BW2 : Below w.heap.size w w2 := B1.trans (B2.mono B1.size)
    have v3 := isV_lit w2 ex2 #[.int .i64 1, .int .i64 20, .int .i64 0, .int .i64 1, .int .i64 0, .int .i64 0] 2 rfl (by decide) (fun i hi => by
      match i, hi with
      | 0, _ => exact ⟨rfl, rfl, rfl⟩
      | 1, _ => exact ⟨rfl, rfl, rfl⟩)
    have a3 : Below w2.heap.size w2 (w2.alloc (.cells #[.int .i64 1, .int .i64 20, .int .i64 0, .int .i64 1, .int .i64 0, .int .i64 0] 36)) := (Below.refl _ _).alloc (Nat.le_refl _) _
    have hP3 := (hP.below BW2).below a3
    clear B1 B2 r1
    go_wp2_with fail
    refine (pack_any _ 2 2 ex2 _ v3 (by decide) hP3).mono ?_
    rintro r w3 ⟨n3, g3, L3, rfl, hg3, r3, b3⟩
    obtain rfl := L3.uniq ex2_long
    rw [ex2_st]
    have B3 : Below w2.heap.size w2 w3 := a3.trans (b3.mono (by simp))
    have BW3 : Below w.heap.size w w3 := BW2.trans (B3.mono BW2.size)
    have m3 := m1.below B3
    have v4 := v2.below B3
    clear a3 b3 r3 m1 v2 v3 BW2 hP3 B3
    have a4 : Below w3.heap.size w3 (w3.alloc (.cells #[.int .i64 15, .int .i64 20, .int .i64 (-9223372036854775804), .int .i64 0] 2)) := (Below.refl _ _).alloc (Nat.le_refl _) _
    have rd4 : RdI (w3.alloc (.cells #[.int .i64 15, .int .i64 20, .int .i64 (-9223372036854775804), .int .i64 0] 2)) (some ⟨w3.heap.size, 0, none⟩) [15, 20, -9223372036854775804, 0] := .inr ⟨w3.heap.size, 0, rfl, by simp, fun i hi => by
      match i, hi with
      | 0, _ => simp
      | 1, _ => simp
      | 2, _ => simp
      | 3, _ => simp⟩
    go_wp2_with fail
    refine (sameI_any _ _ 4 4 4 _ _ rfl (by decide) (m3.below a4) rd4).mono ?_
    rintro r w4 ⟨rfl, b4⟩
    have BW4 : Below w.heap.size w w4 := BW3.trans ((a4.trans (b4.mono (by simp))).mono BW3.size)
    have v5 := (v4.below a4).below b4
    clear m3 v4 rd4 b4 a4
    have v6 := isV_lit w4 ex3 #[.int .i64 15, .int .i64 (-1), .int .i64 0, .int .i64 2, .int .i64 0, .int .i64 0] 2 rfl (by decide) (fun i hi => by
      match i, hi with
      | 0, _ => exact ⟨rfl, rfl, rfl⟩
      | 1, _ => exact ⟨rfl, rfl, rfl⟩)
    have a5 : Below w4.heap.size w4 (w4.alloc (.cells #[.int .i64 15, .int .i64 (-1), .int .i64 0, .int .i64 2, .int .i64 0, .int .i64 0] 36)) := (Below.refl _ _).alloc (Nat.le_refl _) _
    have hl3 : ex3.length = 2 := rfl
    go_wp2_with fail
    refine (sameV_any _ _ 2 c 2 ex3 _ rfl (by decide) (v5.below a5).rd v6.rd).mono ?_
    rintro r w5 ⟨rfl, b5⟩
    have BW5 : Below w.heap.size w w5 := BW4.trans ((a5.trans (b5.mono (by simp))).mono BW4.size)
    go_wp2_with fail
    go_ret
    exact ⟨rfl, BW5⟩
  · rw [ex3_unl] at hu; cases hu
end Go.Proofs.YtpjimckbpabakaaDoor
