/- The contracts of value and of Unpack. Conditions: the table of powers holds what it is laid with; at most 100 mantissas. -/
import Derived.Test.YtpjimckbpabakaaDoorE
namespace Go.Proofs.YtpjimckbpabakaaDoor
open Go.RowKit

def ov (o : Option Vl) : Value := match o with | some v => val v.M v.E v.S | none => val 0 0 0

set_option maxHeartbeats 800000 in
theorem value_any (m e : Int) (m0 : -9223372036854775808 ≤ m) (m1 : m ≤ 9223372036854775807) (w : World) (hP : Pw w) :
    Calls Tryd.prog 21 #[.int .i64 m, .int .i64 e] w fun r w' => r = .returned (.tuple #[ov (unv m e), .bool (unv m e).isSome]) ∧ Below w.heap.size w w' := by
  have h0 := hP.1
  have h18 : w.cell? ⟨0, 18, none⟩ = some (.int .i64 1000000000000000000) := hP.2 18 (by decide)
  by_cases hk : -9223372036854775807 ≤ m ∧ m ≤ -9223372036854775804
  · obtain ⟨k0, k1⟩ := hk
    have e1 : unv m e = some ⟨0, 0, m + 9223372036854775808⟩ := by unfold unv; rw [if_pos ⟨k0, k1⟩]
    rw [e1]
    clear e1 hP
    go_enter Tryd.func21, Tryd.ntmps21
    go_wp2_with fail
    go_returns
    refine ⟨?_, (Below.refl _ _).alloc (Nat.le_refl _) _⟩
    rfl
  · by_cases hb : m ≤ -1000000000000000000 ∨ 1000000000000000000 ≤ m
    · have e1 : unv m e = none := by unfold unv; rw [if_neg hk, if_pos hb]
      rw [e1]
      clear e1 hP
      have hf : (decide (-9223372036854775807 ≤ m) && decide (m ≤ -9223372036854775804)) = false := by simp; omega
      by_cases h1 : -9223372036854775807 ≤ m
      · have h2 : ¬ m ≤ -9223372036854775804 := by omega
        by_cases h3 : m ≤ -1000000000000000000
        · clear hk hb hf
          go_enter Tryd.func21, Tryd.ntmps21
          go_wp2_with fail
          go_returns
          exact ⟨rfl, (Below.refl _ _).alloc (Nat.le_refl _) _⟩
        · have h4 : 1000000000000000000 ≤ m := by omega
          clear hk hb hf
          go_enter Tryd.func21, Tryd.ntmps21
          go_wp2_with fail
          go_returns
          exact ⟨rfl, (Below.refl _ _).alloc (Nat.le_refl _) _⟩
      · have h3 : m ≤ -1000000000000000000 := by omega
        clear hk hb hf
        go_enter Tryd.func21, Tryd.ntmps21
        go_wp2_with fail
        go_returns
        exact ⟨rfl, (Below.refl _ _).alloc (Nat.le_refl _) _⟩
    · have e1 : unv m e = cl m e := by unfold unv; rw [if_neg hk, if_neg hb]
      rw [e1]
      have h1 : -9223372036854775807 ≤ m := by omega
      have h2 : ¬ m ≤ -9223372036854775804 := by omega
      have h3 : ¬ m ≤ -1000000000000000000 := by omega
      have h4 : ¬ 1000000000000000000 ≤ m := by omega
      clear hk hb hP e1
      have Hc : Hid _ := cl_any m e m0 m1
      obtain ⟨c, hc⟩ : ∃ c, Hid (c = cl m e) := ⟨_, rfl⟩
      rw [← hc.out] at Hc ⊢
      go_enter Tryd.func21, Tryd.ntmps21
      go_wp2_with fail
      refine (Hc.out _).mono ?_
      rintro r w1 ⟨rfl, b1⟩
      have hs := b1.size
      simp only [World.size_alloc] at hs
      have hf : ∀ i, i < 3 → w1.frozen? ⟨w.heap.size, i, none⟩ = false := fun i hi => by
        rw [b1.frozen (p := ⟨w.heap.size, i, none⟩) (by simp)]
        match i, hi with
        | 0, _ => simp
        | 1, _ => simp
        | 2, _ => simp
      have hcl : ∀ i, i < 3 → w1.cell? ⟨w.heap.size, i, none⟩ = some (.int .i64 0) := fun i hi => by
        rw [b1.cell (p := ⟨w.heap.size, i, none⟩) (by simp)]
        match i, hi with
        | 0, _ => simp
        | 1, _ => simp
        | 2, _ => simp
      have f0 := hf 0 (by decide); have f1 := hf 1 (by decide); have f2 := hf 2 (by decide)
      have c0 := hcl 0 (by decide); have c1 := hcl 1 (by decide); have c2 := hcl 2 (by decide)
      clear hf hcl
      have bb : Hid (Below w.heap.size w w1) := ((Below.refl _ _).alloc (Nat.le_refl _) _).trans (b1.mono (by simp))
      clear hc Hc
      cases c with
      | none =>
        go_wp2_with fail
        exact bodyPost_ret (v := .tuple #[val 0 0 0, .bool false]) (by simp [results, Tryd.results21, go_sem, c0, c1, c2]) rfl ⟨rfl, ((bb.out.setCell (by simp) _).setCell (by simp) _).setCell (by simp) _⟩
      | some v =>
        go_wp2_with fail
        exact bodyPost_ret (v := .tuple #[val v.M v.E v.S, .bool true]) (by simp [results, Tryd.results21, go_sem, c0, c1, c2]) rfl ⟨rfl, ((bb.out.setCell (by simp) _).setCell (by simp) _).setCell (by simp) _⟩

/-- A slice of that address reads as these numbers. -/
def RdI (w : World) (a : Option Addr) (ms : List Int) : Prop :=
  ms = [] ∨ ∃ b off, a = some ⟨b, off, none⟩ ∧ b < w.heap.size ∧ ∀ i, i < ms.length → w.cell? ⟨b, off + i, none⟩ = some (.int .i64 (ms.getD i 0))
theorem RdI.below {w w' : World} {a : Option Addr} {ms : List Int} (h : RdI w a ms) (hb : Below w.heap.size w w') : RdI w' a ms := by
  rcases h with h | ⟨b, off, h1, h2, h3⟩
  · exact .inl h
  · exact .inr ⟨b, off, h1, Nat.lt_of_lt_of_le h2 hb.size, fun i hi => (hb.cell (p := ⟨b, off + i, none⟩) h2).trans (h3 i hi)⟩
theorem RdI.at {w : World} {a : Option Addr} {ms : List Int} (h : RdI w a ms) {k : Nat} (hk : k < ms.length) : ∃ b off, a = some ⟨b, off, none⟩ ∧ b < w.heap.size ∧ w.cell? ⟨b, off + k, none⟩ = some (.int .i64 (ms.getD k 0)) := by
  rcases h with h | ⟨b, off, h1, h2, h3⟩
  · subst h; simp at hk
  · exact ⟨b, off, h1, h2, h3 k hk⟩
def All64 (l : List Int) : Prop := ∀ k, -9223372036854775808 ≤ l.getD k 0 ∧ l.getD k 0 ≤ 9223372036854775807

/-- The values of these mantissas, all of them, or none. -/
def uns : List Int → Int → Option (List Vl)
  | [], _ => some []
  | m :: r, e => match unv m e, uns r e with
    | some v, some l => some (v :: l)
    | _, _ => none
theorem uns_snoc : ∀ (l : List Int) (m e : Int), uns (l ++ [m]) e = match uns l e, unv m e with
    | some l, some v => some (l ++ [v])
    | _, _ => none
  | [], m, e => by simp [uns]; cases unv m e <;> rfl
  | x :: l, m, e => by
    have ih := uns_snoc l m e
    simp only [List.cons_append, uns, ih]
    cases unv x e <;> cases uns l e <;> cases unv m e <;> rfl
theorem uns_append_none : ∀ (l r : List Int) (e : Int), uns l e = none → uns (l ++ r) e = none
  | [], r, e, h => by simp [uns] at h
  | x :: l, r, e, h => by
    have ih := uns_append_none l r e
    simp only [List.cons_append, uns] at *
    cases hx : unv x e with
    | none => rfl
    | some v =>
      rw [hx] at h
      cases hl : uns l e with
      | none => rw [ih hl]
      | some v => rw [hl] at h; cases h
theorem uns_len : ∀ (l : List Int) (e : Int) (vs : List Vl), uns l e = some vs → vs.length = l.length
  | [], e, vs, h => by simp [uns] at h; subst h; rfl
  | x :: l, e, vs, h => by
    simp only [uns] at h
    cases hx : unv x e with
    | none => rw [hx] at h; cases h
    | some v =>
      rw [hx] at h
      cases hl : uns l e with
      | none => rw [hl] at h; cases h
      | some us =>
        rw [hl] at h
        simp at h
        subst h
        simp [uns_len l e us hl]
theorem takeI_snoc (l : List Int) (k : Nat) (h : k < l.length) : l.take (k + 1) = l.take k ++ [l.getD k 0] := by
  rw [List.take_succ_eq_append_getElem h]
  simp [List.getD, h]
/-- What Unpack tells. -/
def unl (ms : List Int) (e : Int) : Option (List Vl) := if e < -1000 ∨ 1000 < e then none else uns ms e

/-- The cells of values, one behind the other; noughts behind them. -/
def cellOf (vs : List Vl) (i : Nat) : Value := if i % 3 = 0 then .int .i64 (vs.getD (i / 3) v0).M else if i % 3 = 1 then .int .i64 (vs.getD (i / 3) v0).E else .int .i64 (vs.getD (i / 3) v0).S
theorem cellOf_nil (i : Nat) : cellOf [] i = .int .i64 0 := by unfold cellOf; split <;> (try split) <;> rfl
theorem getD_snoc (us : List Vl) (v : Vl) (j : Nat) : (us ++ [v]).getD j v0 = if j = us.length then v else us.getD j v0 := by
  by_cases h : j = us.length
  · subst h; simp [List.getD]
  · rw [if_neg h]
    rcases Nat.lt_or_gt_of_ne h with h' | h'
    · simp [List.getD, List.getElem?_append_left h']
    · simp [List.getD, List.getElem?_eq_none (show (us ++ [v]).length ≤ j by simp; omega), List.getElem?_eq_none (show us.length ≤ j by omega)]
theorem cellOf_snoc (us : List Vl) (v : Vl) (k : Nat) (hk : us.length = k) (i : Nat) : cellOf (us ++ [v]) i = if i = k * 3 + 2 then .int .i64 v.S else if i = k * 3 + 1 then .int .i64 v.E else if i = k * 3 then .int .i64 v.M else cellOf us i := by
  unfold cellOf
  rw [getD_snoc, hk]
  by_cases h2 : i = k * 3 + 2
  · rw [if_pos h2, if_neg (by omega), if_neg (by omega), if_pos (by omega)]
  · rw [if_neg h2]
    by_cases h1 : i = k * 3 + 1
    · rw [if_pos h1, if_neg (by omega), if_pos (by omega), if_pos (by omega)]
    · rw [if_neg h1]
      by_cases h0 : i = k * 3
      · rw [if_pos h0, if_pos (by omega), if_pos (by omega)]
      · rw [if_neg h0, if_neg (show ¬ i / 3 = k by omega)]
theorem rdv_of_row {w : World} {g n : Nat} {vs : List Vl} (h : w.rowIs g 36 (n * 3) (cellOf vs)) (hn : vs.length = n) : RdV w (some ⟨g, 0, none⟩) vs := by
  refine .inr ⟨g, 0, rfl, h.lt, fun i hi => ?_⟩
  rw [h.cell (i := 0 + i * 3) (by omega), h.cell (i := 0 + i * 3 + 1) (by omega), h.cell (i := 0 + i * 3 + 2) (by omega)]
  unfold cellOf
  rw [if_pos (by omega), if_neg (by omega), if_pos (by omega), if_neg (by omega), if_neg (by omega)]
  rw [show (0 + i * 3) / 3 = i by omega, show (0 + i * 3 + 1) / 3 = i by omega, show (0 + i * 3 + 2) / 3 = i by omega]
  exact ⟨rfl, rfl, rfl⟩

theorem Tryd.info36 : (Tryd.prog.info? 36).map (fun i => (i.zero, i.size, i.bytes)) = some (some (val 0 0 0), 3, 24) := by kernel_rfl
theorem run_make_vals (n : Nat) (hn : n ≤ 100) (w : World) :
    (Instr.makeSlice 22 (.int .i64 (n : Int)) (.int .i64 (n : Int))).run Tryd.prog w = .ok (.slice (some ⟨w.heap.size, 0, none⟩) n n) (w.alloc (.cells (madeCells #[.int .i64 0, .int .i64 0, .int .i64 0] (n * 3)) 36)) := by
  obtain ⟨i, hi, hzz⟩ := Option.map_eq_some_iff.1 Tryd.info36
  simp only [Prod.mk.injEq] at hzz
  obtain ⟨hz, hs, hb⟩ := hzz
  have hr := run_make (P := Tryd.prog) w 22 36 i _ Tryd.underlying22 hi hz .i64 .i64 n n (by omega) (Int.le_refl _) (by rw [hb]; omega) (by omega)
  simp only [Int.toNat_natCast, hs] at hr
  exact hr
theorem made_row (w : World) (n : Nat) : (w.alloc (.cells (madeCells #[.int .i64 0, .int .i64 0, .int .i64 0] (n * 3)) 36)).rowIs w.heap.size 36 (n * 3) (cellOf []) := by
  have h := World.rowIs_alloc w (madeCells #[.int .i64 0, .int .i64 0, .int .i64 0] (n * 3)) 36 (cellOf []) (fun i hi => by
    rw [size_madeCells] at hi
    rw [cellOf_nil]
    have h3 : i % 3 = 0 ∨ i % 3 = 1 ∨ i % 3 = 2 := by omega
    rcases h3 with h | h | h <;> simp [madeCells, hi, h])
  rwa [size_madeCells] at h
end Go.Proofs.YtpjimckbpabakaaDoor
