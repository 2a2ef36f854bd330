/- The contract of unfolded: the row of which a code has these numbers. Conditions: at most 4096 numbers. -/
import Derived.Test.YtbgipenonngccaaDoorS
namespace Go.Proofs.YtbgipenonngccaaDoor
open Go.RowKit

/-- 'copy' of numbers to the beginning of a row of its own. -/
theorem copy_rd {w : World} {g n m c c2 : Nat} {a : Option Addr} {f : Nat → Value} {zs : List Int} (hr : w.rowIs g 2 n f) (hz : zs.length = m) (ho : m ≤ n) (hs : Rd .i64 w a zs) :
    ∃ w', (∀ ty, (Builtin.copy_ #[22, 22] ty #[.slice (some ⟨g, 0, none⟩) n c, .slice a m c2]).run Tryd.prog w = .ok (.int .i64 (m : Int)) w') ∧
      w'.rowIs g 2 n (fun j => if j < m then .int .i64 (zs.getD j 0) else f j) ∧ Below g w w' := by
  by_cases h0 : m = 0
  · subst h0
    refine ⟨w, fun ty => ?_, hr.congr fun j _ => by simp, Below.refl _ _⟩
    exact run_copy_none (P := Tryd.prog) w 22 22 ty 2 _ _ _ _ _ _ Tryd.underlying22 (by kernel_rfl) (Nat.zero_min n)
  · have hlen : (zs.map (Value.int .i64)).length = m := by simp [hz]
    rcases hs with rfl | ⟨b, off, rfl, _, hs⟩
    · simp at hz; omega
    refine ⟨w.setCells g 0 (zs.map (Value.int .i64)), fun ty => ?_, ?_, ?_⟩
    · have := run_copy_cells (P := Tryd.prog) w 22 22 ty 2 g 0 n c ⟨b, off, none⟩ m c2 (zs.map (Value.int .i64)) Tryd.underlying22 (by kernel_rfl) (by rw [hlen]; exact (Nat.min_eq_left ho).symm) ?_ ?_ ?_ ?_
      · rw [hlen] at this; exact this
      · intro j v hv
        have hj : j < zs.length := by simpa using (List.getElem?_eq_some_iff.1 hv).1
        rw [Addr.add_lit, hs j hj]
        have e : (zs.map (Value.int .i64))[j]? = some (.int .i64 (zs.getD j 0)) := by simp [List.getD, hj]
        rw [e] at hv; exact hv
      · intro j hj
        rw [hlen] at hj
        rw [hr.cell (by omega)]; rfl
      · intro j _; exact hr.frozen _
      · intro v hv
        obtain ⟨x, _, rfl⟩ := List.mem_map.1 hv
        rfl
    · refine (rowIs_setCells _ 0 w f hr).congr fun j hj => ?_
      rw [hlen]
      by_cases hc : j < m
      · rw [if_pos (by omega), if_pos hc]
        have : j < zs.length := by omega
        simp [List.getD, this]
      · rw [if_neg (by omega), if_neg hc]
    · exact below_setCells (Nat.le_refl _) _ _ _ (Below.refl _ _)

/-- The differences of which a code has these numbers. -/
def stepsOf (k n : Nat) (x : List Int) : List Int :=
  match k with
  | 0 => x.take 1 ++ List.replicate (n - 1) 0
  | 1 => x.take 1 ++ List.replicate (n - 1) (x.getD 1 0)
  | 2 => x
  | _ => x.take 1 ++ sms 0 x.tail
/-- What unfolded tells. -/
def UnIs (k n : Nat) (x : List Int) (w : World) (e : Ending) (w' : World) : Prop :=
  ∃ h, e = .returned (.slice (some ⟨h, 0, none⟩) n n) ∧ w'.rowIs h 2 n (fun i => .int .i64 ((sms 0 (stepsOf k n x)).getD i 0)) ∧ Below w.heap.size w w'

set_option maxHeartbeats 1600000 in
theorem unf0 (a : Option Addr) (n cap : Nat) (y : Int) (w : World) (hn : n ≤ 4096) (h1 : 1 ≤ n) (hrd : Rd .i64 w a [y]) :
    Calls Tryd.prog 32 #[.int .i64 0, .int .i64 (n : Int), .slice a 1 cap] w (UnIs 0 n [y] w) := by
  have hmk := run_make_row' (P := Tryd.prog) 22 2 (.int .i64 0) 8 Tryd.underlying22 Tryd.info2 rfl .i64 .i64 n (by omega) (by omega)
  have hrow := World.rowIs_made w (.int .i64 0) n 2
  obtain ⟨o, ho⟩ : ∃ o, Hid (o = Obj.cells (madeCells #[Value.int .i64 0] n) 2) := ⟨_, rfl⟩
  rw [← ho.out] at hrow
  simp only [← ho.out] at hmk
  have hb1 : Below w.heap.size w (w.alloc o) := (Below.refl _ _).alloc (Nat.le_refl _) _
  obtain ⟨w2, hcp, hr2, hb2⟩ := copy_rd (m := 1) (c := n) (c2 := cap) hrow rfl (by omega) (hrd.below hb1)
  have hb02 : Below w.heap.size w w2 := hb1.trans hb2
  have HR : Hid (Rd .i64 w a [y]) := hrd
  have hg : w.heap.size < w2.heap.size := hr2.lt
  have HR2 : Hid (w2.rowIs w.heap.size 2 n (fun j => if j < 1 then .int .i64 (([y]).getD j 0) else .int .i64 0)) := hr2
  clear hrow hrd hb1 hb2 hr2
  go_enter Tryd.func32, Tryd.ntmps32
  go_wp2_with fail
  have hsl : Hid ((stepsOf 0 n [y]).length = n) := by
    show ([y] ++ List.replicate (n - 1) 0).length = n
    rw [List.length_append, List.length_replicate]; simp; omega
  have hr5 : Hid (w2.rowIs w.heap.size 2 n (fun i => .int .i64 ((stepsOf 0 n [y]).getD i 0))) := HR2.out.congr fun i hi => by
    cases i with
    | zero => simp [stepsOf]
    | succ i =>
      have hi' : i < n - 1 := by omega
      simp [stepsOf, List.getD, hi']
  refine (sums_any w2).mono ?_
  rintro r w6 ⟨rfl, rfl⟩
  have hbx : Hid (Boxed (w2.alloc (.cells #[.int .i64 0] 2)) w2.heap.size 2 (.int .i64 0)) := Boxed.new _ _ _
  have hb6 : Below w2.heap.size w2 (w2.alloc (.cells #[.int .i64 0] 2)) := (Below.refl _ _).alloc (Nat.le_refl _) _
  generalize w2.alloc (.cells #[.int .i64 0] 2) = w6 at *
  go_wp2_with fail
  refine (each_any 46 fS cf46 sum_any w2.heap.size 0 (some ⟨w.heap.size, 0, none⟩) n n (stepsOf 0 n [y]) w2 w6 hsl.out (by omega) (.inr ⟨_, 0, rfl, hg, fun i hi => by rw [Nat.zero_add]; exact hr5.out.cell (by rw [← hsl.out]; exact hi)⟩) hb6 (Nat.le_refl _) hbx.out).mono ?_
  rintro r w7 ⟨rfl, hr7, hb7⟩
  have H7 : Hid _ := hr7
  clear hr7
  go_wp2_with fail
  go_ret
  exact ⟨_, rfl, H7.out, hb02.trans ((hb6.trans hb7).mono hb02.size)⟩

set_option maxHeartbeats 1600000 in
theorem unf2 (a : Option Addr) (n cap : Nat) (x : List Int) (w : World) (hx : x.length = n) (hn : n ≤ 4096) (hrd : Rd .i64 w a x) :
    Calls Tryd.prog 32 #[.int .i64 2, .int .i64 (n : Int), .slice a n cap] w (UnIs 2 n x w) := by
  have hmk := run_make_row' (P := Tryd.prog) 22 2 (.int .i64 0) 8 Tryd.underlying22 Tryd.info2 rfl .i64 .i64 n (by omega) (by omega)
  have hrow := World.rowIs_made w (.int .i64 0) n 2
  obtain ⟨o, ho⟩ : ∃ o, Hid (o = Obj.cells (madeCells #[Value.int .i64 0] n) 2) := ⟨_, rfl⟩
  rw [← ho.out] at hrow
  simp only [← ho.out] at hmk
  have hb1 : Below w.heap.size w (w.alloc o) := (Below.refl _ _).alloc (Nat.le_refl _) _
  obtain ⟨w2, hcp, hr2, hb2⟩ := copy_rd (m := n) (c := n) (c2 := cap) hrow hx (by omega) (hrd.below hb1)
  have hb02 : Below w.heap.size w w2 := hb1.trans hb2
  have HR : Hid (Rd .i64 w a x) := hrd
  have hg : w.heap.size < w2.heap.size := hr2.lt
  have HR2 : Hid (w2.rowIs w.heap.size 2 n (fun j => if j < n then .int .i64 ((x).getD j 0) else .int .i64 0)) := hr2
  clear hrow hrd hb1 hb2 hr2
  go_enter Tryd.func32, Tryd.ntmps32
  go_wp2_with fail
  have hsl : Hid ((stepsOf 2 n x).length = n) := hx
  have hr5 : Hid (w2.rowIs w.heap.size 2 n (fun i => .int .i64 ((stepsOf 2 n x).getD i 0))) := HR2.out.congr fun i hi => by
    rw [if_pos (by omega)]; rfl
  refine (sums_any w2).mono ?_
  rintro r w6 ⟨rfl, rfl⟩
  have hbx : Hid (Boxed (w2.alloc (.cells #[.int .i64 0] 2)) w2.heap.size 2 (.int .i64 0)) := Boxed.new _ _ _
  have hb6 : Below w2.heap.size w2 (w2.alloc (.cells #[.int .i64 0] 2)) := (Below.refl _ _).alloc (Nat.le_refl _) _
  generalize w2.alloc (.cells #[.int .i64 0] 2) = w6 at *
  go_wp2_with fail
  refine (each_any 46 fS cf46 sum_any w2.heap.size 0 (some ⟨w.heap.size, 0, none⟩) n n (stepsOf 2 n x) w2 w6 hsl.out (by omega) (.inr ⟨_, 0, rfl, hg, fun i hi => by rw [Nat.zero_add]; exact hr5.out.cell (by rw [← hsl.out]; exact hi)⟩) hb6 (Nat.le_refl _) hbx.out).mono ?_
  rintro r w7 ⟨rfl, hr7, hb7⟩
  have H7 : Hid _ := hr7
  clear hr7
  go_wp2_with fail
  go_ret
  exact ⟨_, rfl, H7.out, hb02.trans ((hb6.trans hb7).mono hb02.size)⟩

set_option maxHeartbeats 1600000 in
theorem unf1 (a : Option Addr) (n cap : Nat) (y z : Int) (w : World) (hn : n ≤ 4096) (h2 : 2 ≤ n) (hrd : Rd .i64 w a [y, z]) :
    Calls Tryd.prog 32 #[.int .i64 1, .int .i64 (n : Int), .slice a 2 cap] w (UnIs 1 n [y, z] w) := by
  have hmk := run_make_row' (P := Tryd.prog) 22 2 (.int .i64 0) 8 Tryd.underlying22 Tryd.info2 rfl .i64 .i64 n (by omega) (by omega)
  have hrow := World.rowIs_made w (.int .i64 0) n 2
  obtain ⟨o, ho⟩ : ∃ o, Hid (o = Obj.cells (madeCells #[Value.int .i64 0] n) 2) := ⟨_, rfl⟩
  rw [← ho.out] at hrow
  simp only [← ho.out] at hmk
  have hb1 : Below w.heap.size w (w.alloc o) := (Below.refl _ _).alloc (Nat.le_refl _) _
  obtain ⟨w2, hcp, hr2, hb2⟩ := copy_rd (m := 2) (c := n) (c2 := cap) hrow rfl (by omega) (hrd.below hb1)
  have hb02 : Below w.heap.size w w2 := hb1.trans hb2
  have HR : Hid (Rd .i64 w a [y, z]) := hrd
  have hg : w.heap.size < w2.heap.size := hr2.lt
  have HR2 : Hid (w2.rowIs w.heap.size 2 n (fun j => if j < 2 then .int .i64 (([y, z]).getD j 0) else .int .i64 0)) := hr2
  clear hrow hrd hb1 hb2 hr2
  have hz : Hid (∃ b off, a = some ⟨b, off, none⟩ ∧ b < w.heap.size ∧ w.cell? ⟨b, off + 1, none⟩ = some (.int .i64 z)) := by
    rcases HR.out with h | ⟨b, off, e, hb, c⟩
    · cases h
    · exact ⟨b, off, e, hb, c 1 (by simp)⟩
  obtain ⟨b, off, rfl, hbb, hcz⟩ := hz.out
  obtain ⟨q, rfl⟩ : ∃ q, n = q + 1 := ⟨n - 1, by omega⟩
  have hq0 : ¬ q = 0 := by omega
  have hq1 : q + 1 - 1 = q := rfl
  have hcast : ((q + 1 : Nat) : Int) = (q : Int) + 1 := by omega
  rw [hcast]
  rw [hcast] at hmk
  clear hz
  go_enter Tryd.func32, Tryd.ntmps32
  go_wp2_with fail
  go_loopw [20] (fun i wr => ∃ j : Nat, i = .int .i64 (j : Int) ∧ j ≤ q ∧ Hid (wr.rowIs w.heap.size 2 (q + 1) (fun i => .int .i64 (if i = 0 then y else if i ≤ j ∨ i = 1 then z else 0))) ∧ Below w.heap.size w wr) (fun i _ => q - (intOf i).toNat)
  case atStart =>
    refine ⟨0, rfl, Nat.zero_le _, HR2.out.congr fun i hi => ?_, hb02⟩
    match i with
    | 0 => simp
    | 1 => simp
    | i + 2 => rw [if_neg (by omega), if_neg (by omega), if_neg (by omega)]
  case round =>
    obtain ⟨j, rfl, hj, hr, hb⟩ := hrel
    by_cases hlt : j < q
    · have hlt' : (j : Int) < (q : Int) := by omega
      have hcz' := (hb.cell (p := ⟨b, off + 1, none⟩) hbb).trans hcz
      have hfz := hr.out.frozen (1 + j)
      have hcl := hr.out.cell (i := 1 + j) (by omega)
      go_wp2_with fail
      go_roundw
      case rel =>
        refine ⟨j + 1, by go_num, by omega, (hr.out.set (1 + j) _).congr fun i hi => ?_, hb.setCell (by simp) _⟩
        by_cases e1 : i = 1 + j
        · rw [if_pos e1, if_neg (by omega), if_pos (by omega)]
        · rw [if_neg e1]
          by_cases e0 : i = 0
          · rw [if_pos e0, if_pos e0]
          · rw [if_neg e0, if_neg e0]
            by_cases e2 : i ≤ j ∨ i = 1
            · rw [if_pos e2, if_pos (by omega)]
            · rw [if_neg e2, if_neg (by omega)]
      case measure => simp [intOf]; omega
    · have hlt' : ¬ (j : Int) < (q : Int) := by omega
      obtain rfl : j = q := by omega
      have hsl : Hid ((stepsOf 1 (j + 1) [y, z]).length = j + 1) := by
        show ([y] ++ List.replicate (j + 1 - 1) _).length = j + 1
        rw [List.length_append, List.length_replicate]; simp; omega
      have hr5 : Hid (wr.rowIs w.heap.size 2 (j + 1) (fun i => .int .i64 ((stepsOf 1 (j + 1) [y, z]).getD i 0))) := hr.out.congr fun i hi => by
        cases i with
        | zero => simp [stepsOf]
        | succ i =>
          have hi' : i < j := by omega
          rw [if_neg (by omega), if_pos (by omega)]
          simp [stepsOf, List.getD, hi']
      have hgw := hr.out.lt
      go_wp2_with fail
      refine (sums_any wr).mono ?_
      rintro r w6 ⟨rfl, rfl⟩
      have hbx : Hid (Boxed (wr.alloc (.cells #[.int .i64 0] 2)) wr.heap.size 2 (.int .i64 0)) := Boxed.new _ _ _
      have hb6 : Below wr.heap.size wr (wr.alloc (.cells #[.int .i64 0] 2)) := (Below.refl _ _).alloc (Nat.le_refl _) _
      generalize wr.alloc (.cells #[.int .i64 0] 2) = w6 at *
      go_wp2_with fail
      refine (each_any 46 fS cf46 sum_any wr.heap.size 0 (some ⟨w.heap.size, 0, none⟩) (j + 1) (j + 1) (stepsOf 1 (j + 1) [y, z]) wr w6 hsl.out (by omega) (.inr ⟨_, 0, rfl, hgw, fun i hi => by rw [Nat.zero_add]; exact hr5.out.cell (by rw [← hsl.out]; exact hi)⟩) hb6 (Nat.le_refl _) hbx.out).mono ?_
      rintro r w7 ⟨rfl, hr7, hb7⟩
      have H7 : Hid _ := hr7
      clear hr7
      go_wp2_with fail
      go_ret
      exact ⟨_, rfl, H7.out, hb.trans ((hb6.trans hb7).mono hb.size)⟩

set_option maxHeartbeats 1600000 in
theorem unf3 (a : Option Addr) (n cap : Nat) (x : List Int) (w : World) (hx : x.length = n) (hn : n ≤ 4096) (h2 : 2 ≤ n) (hcap : n ≤ cap) (hrd : Rd .i64 w a x) :
    Calls Tryd.prog 32 #[.int .i64 3, .int .i64 (n : Int), .slice a n cap] w (UnIs 3 n x w) := by
  have hmk := run_make_row' (P := Tryd.prog) 22 2 (.int .i64 0) 8 Tryd.underlying22 Tryd.info2 rfl .i64 .i64 n (by omega) (by omega)
  have hrow := World.rowIs_made w (.int .i64 0) n 2
  obtain ⟨o, ho⟩ : ∃ o, Hid (o = Obj.cells (madeCells #[Value.int .i64 0] n) 2) := ⟨_, rfl⟩
  rw [← ho.out] at hrow
  simp only [← ho.out] at hmk
  have hb1 : Below w.heap.size w (w.alloc o) := (Below.refl _ _).alloc (Nat.le_refl _) _
  obtain ⟨w2, hcp, hr2, hb2⟩ := copy_rd (m := n) (c := n) (c2 := cap) hrow hx (by omega) (hrd.below hb1)
  have hb02 : Below w.heap.size w w2 := hb1.trans hb2
  have HR : Hid (Rd .i64 w a x) := hrd
  have hg : w.heap.size < w2.heap.size := hr2.lt
  have HR2 : Hid (w2.rowIs w.heap.size 2 n (fun j => if j < n then .int .i64 ((x).getD j 0) else .int .i64 0)) := hr2
  clear hrow hrd hb1 hb2 hr2
  have hz : Hid (∃ b off, a = some ⟨b, off, none⟩ ∧ b < w.heap.size ∧ ∀ i, i < x.length → w.cell? ⟨b, off + i, none⟩ = some (.int .i64 (x.getD i 0))) := by
    rcases HR.out with h | h
    · rw [h] at hx; simp at hx; omega
    · exact h
  obtain ⟨b, off, rfl, hbb, hcx⟩ := hz.out
  have HCX : Hid _ := hcx
  clear hcx
  obtain ⟨m, rfl⟩ : ∃ q, n = q + 1 := ⟨n - 1, by omega⟩
  have hm0 : ¬ m = 0 := by omega
  have hc1 : ¬ cap = 1 := by omega
  have hcast : ((m + 1 : Nat) : Int) = (m : Int) + 1 := by omega
  have hzl : (sms 0 x.tail).length = m := by rw [sms_length, List.length_tail, hx]; rfl
  have HX : Hid (x.length = m + 1 ∧ (sms 0 x.tail).length = m) := ⟨hx, hzl⟩
  clear hzl hx
  rw [hcast]
  rw [hcast] at hmk
  clear hz
  go_enter Tryd.func32, Tryd.ntmps32
  go_wp2_with fail
  refine wp_region_M (by kernel_rfl) (by kernel_rfl) (Sb w.heap.size w2.heap.size w.heap.size (m + 1) w w2 (sms 0 x.tail) (x.take 1 ++ sms 0 x.tail)) (Tb w2.heap.size w.heap.size (m + 1) m 46 (.slice (some ⟨b, off, none⟩) (m + 1) cap) (.slice (some ⟨b, off + 1, none⟩) m (cap - 1)))
    ⟨hb02.drew, fun _ => (Below.refl _ _).drew, (fun h => (by cases h)), fun _ _ => rfl, (fun h => (by cases h)), (fun h => (by cases h)), (fun h => (by cases h))⟩
    (allL_cons ?_ (allL_cons ?_ (allL_cons ?_ (allL_cons ?_ (allL_cons ?_ (allL_cons ?_ (allL_cons ?_ allL_nil))))))) ?_
  · intro L a u hS ha
    have t7 := (ev_tmp a 7).symm.trans ((ha.fix 7 (by kernel_rfl)).trans rfl)
    rw [if_pos (wanted_none rfl)]
    refine does_val (v := .slice (some ⟨w.heap.size, 0, none⟩) (m + 1) (m + 1)) (w' := u) ?_ (stay (hS.same 0 (by decide) (by decide) (by decide)) rfl)
    simp [execOp, go_sem, t7]
  · intro L a u hS ha
    have t33 := (ev_tmp a 33).symm.trans (show a.eval (.tmp 33) = .slice (some ⟨w.heap.size, 0, none⟩) (m + 1) (m + 1) from ha.slot 0 0 33 rfl rfl)
    rw [if_pos (wanted_none rfl)]
    refine does_val (v := .slice (some ⟨w.heap.size, 1, none⟩) m m) (w' := u) ?_ (stay (hS.same 1 (by decide) (by decide) (by decide)) rfl)
    simp [execOp, go_sem, t33, hm0]
    intro h; omega
  · intro L a u hS ha
    rw [if_pos (wanted_none rfl)]
    refine does_call (f := 43) (args := #[]) (w' := u) (by simp [go_sem]) ?_
    refine (sums_any u).mono ?_
    rintro e u' ⟨rfl, rfl⟩
    have h5 := ha.off 5 (by kernel_rfl)
    have h6 : L 6 = false := by
      cases h : L 6
      · rfl
      · rw [hS.c6 h] at h5; cases h5
    have hsz := hS.none ha.un h6
    refine ⟨_, rfl, by rw [hsz]; rfl, ⟨?_, ?_, ?_, ?_, ?_, ?_, ?_⟩, fun j v _ h => Tb.stay j v h⟩
    · exact hS.bel.alloc hS.bel.size _
    · intro _
      exact (hS.old h6).alloc (by omega) _
    · rw [upd_ne (by decide), upd_ne (by decide)]; exact hS.c6
    · intro h; rw [upd_same] at h; cases h
    · intro _ _
      refine ⟨?_, by rw [World.size_alloc, hsz]⟩
      have := Boxed.new u 2 (.int .i64 0)
      rw [hsz] at this; exact this
    · intro h
      rw [upd_ne (by decide), h5] at h; cases h
    · intro h
      rw [upd_ne (by decide), h6] at h; cases h
  · intro L a u hS ha
    have t2 := (ev_tmp a 2).symm.trans ((ha.fix 2 (by kernel_rfl)).trans rfl)
    rw [if_pos (wanted_none rfl)]
    refine does_val (v := .slice (some ⟨b, off, none⟩) (m + 1) cap) (w' := u) ?_ (stay (hS.same 3 (by decide) (by decide) (by decide)) rfl)
    simp [execOp, go_sem, t2]
  · intro L a u hS ha
    have t36 := (ev_tmp a 36).symm.trans (show a.eval (.tmp 36) = .slice (some ⟨b, off, none⟩) (m + 1) cap from ha.slot 0 3 36 rfl rfl)
    rw [if_pos (wanted_none rfl)]
    refine does_val (v := .slice (some ⟨b, off + 1, none⟩) m (cap - 1)) (w' := u) ?_ (stay (hS.same 4 (by decide) (by decide) (by decide)) rfl)
    simp [execOp, go_sem, t36, hc1]
    intro h; omega
  · intro L a u hS ha
    have t35 := (ev_tmp a 35).symm.trans (show a.eval (.tmp 35) = .func (.func 46) #[] #[.pointer (some ⟨w2.heap.size, 0, none⟩)] from ha.slot 0 2 35 rfl rfl)
    have t37 := (ev_tmp a 37).symm.trans (show a.eval (.tmp 37) = .slice (some ⟨b, off + 1, none⟩) m (cap - 1) from ha.slot 1 4 37 rfl rfl)
    have h2 := ha.on 0 2 rfl
    have h6 := ha.off 6 (by kernel_rfl)
    obtain ⟨hbx, hsz⟩ := hS.box h2 ha.un
    rw [if_pos (wanted_none rfl)]
    refine does_call (f := 34) (args := #[.func (.func 46) #[] #[.pointer (some ⟨w2.heap.size, 0, none⟩)], .slice (some ⟨b, off + 1, none⟩) m (cap - 1)]) (w' := u) (by simp [go_sem, t35, t37]) ?_
    refine (each_any 46 fS cf46 sum_any w2.heap.size 0 (some ⟨b, off + 1, none⟩) m (cap - 1) x.tail w2 u (by rw [List.length_tail, HX.out.1]; rfl) (by omega) (.inr ⟨b, off + 1, rfl, Nat.lt_trans hbb hg, fun i hi => ?_⟩) (hS.old h6) (Nat.le_refl _) hbx).mono ?_
    · rw [List.length_tail, HX.out.1] at hi
      rw [getD_tail, show off + 1 + i = off + (i + 1) by omega]; exact (hb02.cell (p := ⟨b, off + (i + 1), none⟩) hbb).trans (HCX.out (i + 1) (by rw [HX.out.1]; omega))
    rintro e u' ⟨rfl, hr', hb'⟩
    refine ⟨_, rfl, by rw [hsz]; rfl, ⟨?_, ?_, ?_, ?_, ?_, ?_, ?_⟩, fun j v _ h => Tb.stay j v h⟩
    · exact hS.bel.trans (hb'.mono hb02.size)
    · intro _; exact (hS.old h6).trans hb'
    · intro _; rw [upd_same]
    · intro h; rw [upd_ne (by decide), h2] at h; cases h
    · intro _ h; rw [upd_same] at h; cases h
    · intro _ _
      rw [hsz, ← HX.out.2] at hr'
      exact hr'
    · intro h; rw [upd_ne (by decide), h6] at h; cases h
  · intro L a u hS ha
    have t34 : a.eval (.tmp 34) = .slice (some ⟨w.heap.size, 1, none⟩) m m := ha.slot 0 1 34 rfl rfl
    have t38 : a.eval (.tmp 38) = .slice (some ⟨w2.heap.size + 1, 0, none⟩) m m := ha.slot 1 5 38 rfl rfl
    have h5 := ha.on 1 5 rfl
    have hrow := hS.row h5 ha.un
    have hr3 := HR2.out.of_block ((hS.old ha.un).block w.heap.size hg)
    obtain ⟨u', hrun, hr4, hb4⟩ := copy_row (c := m) (c2 := m) (h := w2.heap.size + 1) (h0 := 0) (o := 1) (m := m) hr3 HX.out.2 (by omega) (fun i hi => by rw [Nat.zero_add]; exact hrow.cell (by rw [HX.out.2]; exact hi)) 3
    rw [if_pos (wanted_none rfl)]
    refine does_val (v := .int .i64 (m : Int)) (w' := u') ?_ ⟨trivial, ⟨?_, ?_, ?_, ?_, ?_, ?_, ?_⟩, fun j v _ h => Tb.stay j v h⟩
    · simp only [execOp, resolve, invoke, builtin, Sem.run_bind, Sem.run_pure, Result.andThen_ok, List.map_toArray, List.map_cons, List.map_nil, t34, t38, hrun]
    · exact hS.bel.trans hb4
    · intro h; rw [upd_same] at h; cases h
    · intro _; rw [upd_ne (by decide)]; exact h5
    · intro _ h; rw [upd_same] at h; cases h
    · intro _ h; rw [upd_ne (by decide), h5] at h; cases h
    · intro _ h; rw [upd_same] at h; cases h
    · intro _
      refine hr4.congr fun i hi => ?_
      have := bent_at x (sms 0 x.tail) (by rw [HX.out.1, HX.out.2]) i (by rw [HX.out.1]; exact hi)
      rw [HX.out.2] at this
      rw [← this, if_pos hi]
  · intro a u L hS hL hts hd hdone hfree
    have hnew := hS.new (hL 6 (by decide))
    have hbel := hS.bel
    obtain ⟨x33, e33⟩ : ∃ x, a.eval (.tmp 33) = x := ⟨_, rfl⟩
    obtain ⟨x34, e34⟩ : ∃ x, a.eval (.tmp 34) = x := ⟨_, rfl⟩
    obtain ⟨x35, e35⟩ : ∃ x, a.eval (.tmp 35) = x := ⟨_, rfl⟩
    obtain ⟨x36, e36⟩ : ∃ x, a.eval (.tmp 36) = x := ⟨_, rfl⟩
    obtain ⟨x37, e37⟩ : ∃ x, a.eval (.tmp 37) = x := ⟨_, rfl⟩
    obtain ⟨x38, e38⟩ : ∃ x, a.eval (.tmp 38) = x := ⟨_, rfl⟩
    obtain ⟨x39, e39⟩ : ∃ x, a.eval (.tmp 39) = x := ⟨_, rfl⟩
    have hact := act_puts hts hd hfree
    simp only [putAll, List.foldl_cons, List.foldl_nil, e33, e34, e35, e36, e37, e38, e39, Act.put] at hact
    simp at hact
    clear e33 e34 e35 e36 e37 e38 e39 hts hd hdone hfree hS
    subst hact
    have hr5 : Hid (u.rowIs w.heap.size 2 (m + 1) (fun i => .int .i64 ((stepsOf 3 (m + 1) x).getD i 0))) := hnew
    have hsl : Hid ((stepsOf 3 (m + 1) x).length = m + 1) := by
      show (x.take 1 ++ sms 0 x.tail).length = m + 1
      rw [List.length_append, List.length_take, HX.out.1, HX.out.2]; omega
    have hgu := hr5.out.lt
    clear hnew
    go_wp2_with fail
    refine (sums_any u).mono ?_
    rintro r w6 ⟨rfl, rfl⟩
    have hbx : Hid (Boxed (u.alloc (.cells #[.int .i64 0] 2)) u.heap.size 2 (.int .i64 0)) := Boxed.new _ _ _
    have hb6 : Below u.heap.size u (u.alloc (.cells #[.int .i64 0] 2)) := (Below.refl _ _).alloc (Nat.le_refl _) _
    generalize u.alloc (.cells #[.int .i64 0] 2) = w6 at *
    go_wp2_with fail
    refine (each_any 46 fS cf46 sum_any u.heap.size 0 (some ⟨w.heap.size, 0, none⟩) (m + 1) (m + 1) (stepsOf 3 (m + 1) x) u w6 hsl.out (by omega) (.inr ⟨_, 0, rfl, hgu, fun i hi => by rw [Nat.zero_add]; exact hr5.out.cell (by rw [← hsl.out]; exact hi)⟩) hb6 (Nat.le_refl _) hbx.out).mono ?_
    rintro r w7 ⟨rfl, hr7, hb7⟩
    have H7 : Hid _ := hr7
    clear hr7
    go_wp2_with fail
    go_ret
    exact ⟨_, rfl, H7.out, hbel.trans ((hb6.trans hb7).mono hbel.size)⟩
end Go.Proofs.YtbgipenonngccaaDoor
