/- The contract of the document's own As. Conditions: at most 5000 numbers. -/
import Derived.Test.YtbgipenonngccaaDoorRs
namespace Go.Proofs.YtbgipenonngccaaDoor
open Go.RowKit

theorem own_one (w : World) (x : Int) : (w.alloc (.cells #[.int .u8 x] 5)).ownsRow w.heap.size 5 1 (.slice (some ⟨w.heap.size, 0, none⟩) 1 1) 1 [.int .u8 x] :=
  ⟨rfl, .inr ⟨w.heap.size, 1, _, rfl, Nat.le_refl _, World.alloc_heap_new w _, Nat.le_refl _, by decide, rfl, rfl⟩⟩
theorem own_nil {w : World} {base n : Nat} {a : Option Addr} {m c : Nat} {e : TypeId} {xs : List Value} (h : w.ownsRow base e 1 (.slice a m c) n xs) : a = none → c = 0 ∧ m = 0 := by
  intro ha
  rcases h with ⟨_, ⟨h, _⟩ | ⟨_, _, _, hv, _⟩⟩
  · cases h; exact ⟨rfl, rfl⟩
  · cases hv; cases ha
def Kd.own (base n : Nat) (xs : List Value) : Kd := ⟨fun v w => w.ownsRow base 2 1 v n xs, fun _ _ _ h hb => own_below h hb⟩
theorem two_news {w : World} {g o : Nat} {x y : Int} (h : ∀ i, i < ([x, y] : List Int).length → w.cell? ⟨g, o + i, none⟩ = some (.int .i64 (([x, y] : List Int).getD i 0))) : ∀ j u, [Value.int .i64 x, Value.int .i64 y][j]? = some u → w.cell? ((⟨g, o, none⟩ : Addr).add j) = some u := by
  intro j u hj
  rw [Addr.add_lit]
  match j, hj with
  | 0, hj => cases hj; exact h 0 (by simp)
  | 1, hj => cases hj; exact h 1 (by simp)
theorem two_one (x y : Int) : ∀ u ∈ [Value.int .i64 x, Value.int .i64 y], u.oneCell' = true := ints_oneCell .i64 [x, y]

set_option linter.unusedSimpArgs false in
set_option maxRecDepth 100000 in
set_option maxHeartbeats 6400000 in
theorem refas0 (a : Option Addr) (n cap : Nat) (l : List Int) (w : World) (hl : l.length = n) (hn : n ≤ 4096) (hcap : n ≤ cap) (hrd : Rd .i64 w a l) (h64 : All64 l) :
    Calls Tryd.prog 10 #[.int .i64 0, .slice a n cap] w (AsIs 0 l w) := by
  obtain ⟨i5, g5, y0, y1, y2⟩ := info_parts Tryd.info5
  obtain ⟨i2, g2, z0, z1, z2⟩ := info_parts Tryd.info2
  have HR : Hid (Rd .i64 w a l ∧ l.length = n ∧ All64 l) := ⟨hrd, hl, h64⟩
  have Hst : Hid (Calls Tryd.prog 26 #[.slice a n cap] w fun e w' => ∃ v, e = .returned v ∧ w'.ownsRow w.heap.size 2 1 v (n - 1) ((dfs 0 l).tail.map (Value.int .i64)) ∧ Below w.heap.size w w') := refsteps_any a n cap l w hl (by omega) hrd
  have hn4 : ¬ (4096 : Int) < (n : Int) := by omega
  clear hrd hl h64
  go_enter Tryd.func10, Tryd.ntmps10
  go_wp2_with fail
  refine Calls.mono Hst.out ?_
  rintro e w1 ⟨v7, rfl, ho7, hb1⟩
  obtain ⟨a7, c7, rfl, I7⟩ := own_isI ho7
  have H7 : Hid (IsI .i64 w1 a7 (n - 1) c7 (dfs 0 l).tail) := I7
  clear ho7 I7
  by_cases h0 : n = 0
  · have h0' : (n : Int) < 1 := by omega
    go_wp2_with fail
    go_ret2
    refine ⟨.inr ⟨?_, rfl⟩, hb1⟩
    exact code_none (k := 0) (by decide) (by rw [HR.out.2.1]; show ¬ (1 ≤ n ∧ _); omega)
  · have h0' : ¬ (n : Int) < 1 := by omega
    obtain ⟨q, hq⟩ : ∃ q, Hid (q = alk l) := ⟨_, rfl⟩
    go_wp2_with fail
    refine (refalike_any a n cap l w1 HR.out.2.1 (by omega) (HR.out.1.below hb1)).mono ?_
    rintro e w2 ⟨rfl, hb2⟩
    have hbw2 : Below w.heap.size w w2 := hb1.trans (hb2.mono hb1.size)
    rw [← hq.out]
    cases q with
    | false =>
      go_wp2_with fail
      go_ret2
      refine ⟨.inr ⟨?_, rfl⟩, hbw2⟩
      refine code_nil (k := 0) ?_
      rw [nms_0]
      refine if_neg fun h => ?_
      have := h.2
      rw [← hq.out] at this; cases this
    | true =>
      have hcap1 : 1 ≤ cap := by omega
      have hX : nms 0 l = some (l.take 1) := by rw [nms_0]; exact if_pos ⟨by rw [HR.out.2.1]; omega, hq.out.symm⟩
      have Hcode : Hid (codeI 0 l = some ((0 : Int) :: (bs n ++ zbs (l.take 1)))) := by
        have := code_some (by rw [HR.out.2.1]; exact hn) hX
        rw [HR.out.2.1] at this; exact this
      have HXT : Hid (Rd .i64 w2 a (l.take 1) ∧ (l.take 1).length = 1 ∧ All64 (l.take 1)) := ⟨(HR.out.1.take 1).below hbw2, by rw [List.length_take, HR.out.2.1]; omega, all64_take HR.out.2.2 1⟩
      clear hX
      go_wp2_with fail
      have hbA : Below w2.heap.size w2 (w2.alloc (.cells #[.int .u8 0] 5)) := (Below.refl _ _).alloc (Nat.le_refl _) _
      refine (refbytes_any n (w2.alloc (.cells #[.int .u8 0] 5)) (by omega)).mono ?_
      rintro e wb ⟨vb, rfl, hob, hbb⟩
      obtain ⟨gb, cb, rfl, _⟩ := own_some hob (by have := bs_pos n; omega)
      have hbl := bs_le10 (show n < 18446744073709551616 by omega)
      have O1 : Hid (wb.ownsRow w2.heap.size 5 1 (.slice (some ⟨w2.heap.size, 0, none⟩) 1 1) 1 [.int .u8 0] ∧ Rd .u8 wb (some ⟨gb, 0, none⟩) (bs n)) := ⟨own_below (own_one w2 0) hbb, own_rd hob⟩
      have hbtb : Below w2.heap.size w2 wb := hbA.trans (hbb.mono hbA.size)
      obtain ⟨q, hq⟩ : ∃ q : Nat, Hid (q = (bs n).length) := ⟨_, rfl⟩
      rw [← hq.out] at hbl ⊢
      clear hob hbb hbA
      go_wp2_with (at_builtin; refine wpList_append_own _ rfl (.tmp 77) (.tmp 80) 24 rfl w2.heap.size 5 i5 (.int .u8 0) 1 1 Tryd.underlying24 g5 y0 y1 y2 rfl (by decide) _ 1 _ rfl O1.out.1 ⟨gb, 0, none⟩ q cb ((bs n).map (Value.int .u8)) rfl (by simp [hq.out]) (rd_any O1.out.2 _ rfl) (ints_oneCell _ _) (by unfold maxLen; omega) (by omega) hbtb.size ?_; intro v9 w9 p1 p2 _)
      have hbt9 : Below w2.heap.size w2 w9 := hbtb.grown p2 hbtb.size (fun r e => (O1.out.1.lt r e).1)
      refine (refall_any a 1 cap (l.take 1) w9 HXT.out.2.1 (by omega) (HXT.out.1.below hbt9) HXT.out.2.2).mono ?_
      rintro e wz ⟨vz, rfl, hoz, hbz⟩
      have hzl := zbs_len (l.take 1) HXT.out.2.2 (l.take 1).length (Nat.le_refl _)
      rw [List.take_length, HXT.out.2.1] at hzl
      obtain ⟨az, cz, rfl, hrz⟩ := own_form hoz
      have hnz := own_nil hoz
      have hp1 := own_below p1 hbz
      have hbtz : Below w2.heap.size w2 wz := hbt9.trans (hbz.mono hbt9.size)
      obtain ⟨z, hz⟩ : ∃ q : Nat, Hid (q = (zbs (l.take 1)).length) := ⟨_, rfl⟩
      rw [← hz.out] at hzl hnz ⊢
      have O2 : Hid (wz.ownsRow w2.heap.size 5 1 v9 (1 + q) ([.int .u8 0] ++ (bs n).map (Value.int .u8)) ∧ Rd .u8 wz az (zbs (l.take 1)) ∧ (az = none → cz = 0 ∧ z = 0)) := ⟨hp1, hrz, hnz⟩
      clear hp1 hrz hnz hoz p1 p2 hbz
      go_wp2_with (at_builtin; refine wpList_append_any _ rfl (.tmp 82) (.tmp 84) 24 rfl w2.heap.size 5 i5 (.int .u8 0) 1 Tryd.underlying24 g5 y0 y1 y2 rfl _ (1 + q) _ rfl O2.out.1 az z cz ((zbs (l.take 1)).map (Value.int .u8)) rfl (by simp [hz.out]) O2.out.2.2 (rd_any O2.out.2.1) (ints_oneCell _ _) (by unfold maxLen; omega) (by omega) hbtz.size ?_; intro v10 w10 q1 q2)
      have hbt10 : Below w2.heap.size w2 w10 := hbtz.grown q2 hbtz.size (fun r e => (O2.out.1.lt r e).1)
      go_ret2
      have e1 : [Value.int .u8 0] ++ (bs n).map (Value.int .u8) ++ (zbs (l.take 1)).map (Value.int .u8) = ((0 : Int) :: (bs n ++ zbs (l.take 1))).map (Value.int .u8) := by simp
      have e2 : 1 + q + z = ((0 : Int) :: (bs n ++ zbs (l.take 1))).length := by rw [List.length_cons, List.length_append, ← hq.out, ← hz.out]; omega
      rw [e1, e2] at q1
      obtain ⟨g10, c10, rfl, _⟩ := own_some q1 (by simp)
      exact ⟨.inl ⟨_, g10, c10, Hcode.out, rfl, own_mono q1 hbw2.size⟩, hbw2.trans (hbt10.mono hbw2.size)⟩

set_option linter.unusedSimpArgs false in
set_option maxRecDepth 100000 in
set_option maxHeartbeats 6400000 in
theorem refas1 (a : Option Addr) (n cap : Nat) (l : List Int) (w : World) (hl : l.length = n) (hn : n ≤ 4096) (hrd : Rd .i64 w a l) (h64 : All64 l) :
    Calls Tryd.prog 10 #[.int .i64 1, .slice a n cap] w (AsIs 1 l w) := by
  obtain ⟨i5, g5, y0, y1, y2⟩ := info_parts Tryd.info5
  obtain ⟨i2, g2, z0, z1, z2⟩ := info_parts Tryd.info2
  have HR : Hid (Rd .i64 w a l ∧ l.length = n ∧ All64 l) := ⟨hrd, hl, h64⟩
  have Hst : Hid (Calls Tryd.prog 26 #[.slice a n cap] w fun e w' => ∃ v, e = .returned v ∧ w'.ownsRow w.heap.size 2 1 v (n - 1) ((dfs 0 l).tail.map (Value.int .i64)) ∧ Below w.heap.size w w') := refsteps_any a n cap l w hl (by omega) hrd
  have hn4 : ¬ (4096 : Int) < (n : Int) := by omega
  clear hrd hl h64
  go_enter Tryd.func10, Tryd.ntmps10
  go_wp2_with fail
  refine Calls.mono Hst.out ?_
  rintro e w1 ⟨v7, rfl, ho7, hb1⟩
  obtain ⟨a7, c7, rfl, I7⟩ := own_isI ho7
  have H7 : Hid (IsI .i64 w1 a7 (n - 1) c7 (dfs 0 l).tail) := I7
  clear ho7 I7
  by_cases h0 : n < 2
  · have h0' : (n : Int) < 2 := by omega
    go_wp2_with fail
    go_ret2
    refine ⟨.inr ⟨?_, rfl⟩, hb1⟩
    exact code_none (k := 1) (by decide) (by rw [HR.out.2.1]; show ¬ (2 ≤ n ∧ _); omega)
  have h0' : ¬ (n : Int) < 2 := by omega
  have hn0 : ¬ n = 0 := by omega
  obtain ⟨b, off, rfl, hbA, cA0⟩ : ∃ b off, a = some ⟨b, off, none⟩ ∧ b < w.heap.size ∧ w.cell? ⟨b, off, none⟩ = some (.int .i64 (l.getD 0 0)) := by
    rcases HR.out.1 with h | ⟨b, off, e, hb, c⟩
    · have := HR.out.2.1; rw [h] at this; simp at this; omega
    · exact ⟨b, off, e, hb, by have := c 0 (by rw [HR.out.2.1]; omega); rwa [Nat.add_zero] at this⟩
  obtain ⟨b7, off7, rfl, hbB, cB0⟩ : ∃ b off, a7 = some ⟨b, off, none⟩ ∧ b < w1.heap.size ∧ w1.cell? ⟨b, off, none⟩ = some (.int .i64 ((dfs 0 l).tail.getD 0 0)) := by
    rcases H7.out.rd with h | ⟨b, off, e, hb, c⟩
    · have := H7.out.hl; rw [h] at this; simp at this; omega
    · exact ⟨b, off, e, hb, by have := c 0 (by rw [H7.out.hl]; omega); rwa [Nat.add_zero] at this⟩
  obtain ⟨x0, hx0⟩ : ∃ x, Hid (x = l.getD 0 0) := ⟨_, rfl⟩
  obtain ⟨d0, hd0⟩ : ∃ x, Hid (x = (dfs 0 l).tail.getD 0 0) := ⟨_, rfl⟩
  rw [← hx0.out] at cA0
  rw [← hd0.out] at cB0
  have hE2 : Hid ((dfs 0 l).take 2 = [x0, d0] ∧ I64 x0 ∧ I64 d0) := by
    have hh := HR.out
    rw [hx0.out, hd0.out]
    have hll : 2 ≤ l.length := by rw [hh.2.1]; omega
    clear hx0 hd0 H7 Hst
    match l, hh, hll with
    | x :: y :: t, hh, _ =>
      refine ⟨?_, (all64_cons.1 hh.2.2).1, wrap_bd _⟩
      show [dif 0 x, dif x y] = [x, dif x y]
      rw [dif_zero (all64_cons.1 hh.2.2).1]
  obtain ⟨q, hq⟩ : ∃ q, Hid (q = alk (dfs 0 l).tail) := ⟨_, rfl⟩
  go_wp2_with fail
  refine (refalike_any (some ⟨b7, off7, none⟩) (n - 1) c7 (dfs 0 l).tail w1 H7.out.hl (by omega) H7.out.rd).mono ?_
  rintro e w2 ⟨rfl, hb2⟩
  have hbw2 : Below w.heap.size w w2 := hb1.trans (hb2.mono hb1.size)
  rw [← hq.out]
  cases q with
  | false =>
    go_wp2_with fail
    go_ret2
    refine ⟨.inr ⟨?_, rfl⟩, hbw2⟩
    refine code_nil (k := 1) ?_
    rw [nms_1]
    refine if_neg fun h => ?_
    have := h.2
    rw [← hq.out] at this; cases this
  | true =>
    have hX : nms 1 l = some [x0, d0] := by rw [nms_1, ← hE2.out.1]; exact if_pos ⟨by rw [HR.out.2.1]; omega, hq.out.symm⟩
    have Hcode : Hid (codeI 1 l = some ((1 : Int) :: (bs n ++ zbs [x0, d0]))) := by
      have := code_some (by rw [HR.out.2.1]; exact hn) hX
      rw [HR.out.2.1] at this; exact this
    have cA := (hbw2.cell (p := ⟨b, off, none⟩) hbA).trans cA0
    have cB := (hb2.cell (p := ⟨b7, off7, none⟩) hbB).trans cB0
    have hbA1 : b < w2.heap.size := Nat.lt_of_lt_of_le hbA hbw2.size
    have hbB1 : b7 < w2.heap.size := Nat.lt_of_lt_of_le hbB hb2.size
    have hn0i : ¬ (n : Int) ≤ 0 := by omega
    have hn1 : ¬ n - 1 = 0 := by omega
    have hn1i : ¬ ((n - 1 : Nat) : Int) ≤ 0 := by omega
    clear hX cA0 cB0
    go_wp2_with fail
    refine wp_region_K (by kernel_rfl) (by kernel_rfl) [.eq (.slice (some ⟨b, off, none⟩) n cap), .eq (.pointer (some ⟨b, off, none⟩)), .eq (.int .i64 x0), .eq (.slice (some ⟨b7, off7, none⟩) (n - 1) c7), .eq (.pointer (some ⟨b7, off7, none⟩)), .eq (.int .i64 d0), .rd .i64 ([x0, d0]), .rd .i64 ([x0, d0])] w2 (Below.refl _ _) (allOps_cons ?_ (allOps_cons ?_ (allOps_cons ?_ (allOps_cons ?_ (allOps_cons ?_ (allOps_cons ?_ (allOps_cons ?_ (allOps_cons ?_ allOps_nil)))))))) ?_
    · intro a wx hS hb hf
      have s1 : a.eval (.tmp 1) = .slice (some ⟨b, off, none⟩) n cap := (hf 1 (by kernel_rfl)).trans rfl
      rw [if_pos (wanted_none rfl)]
      refine does_val (v := .slice (some ⟨b, off, none⟩) n cap) (w' := wx) ?_ ⟨rfl, Below.refl _ _⟩
      have t1 := (ev_tmp a 1).symm.trans s1
      simp [execOp, go_sem, t1]
    · intro a wx hS hb hf
      have s37 : a.eval (.tmp 37) = .slice (some ⟨b, off, none⟩) n cap := slot hb 0 0 37 rfl rfl
      rw [if_pos (wanted_none rfl)]
      refine does_val (v := .pointer (some ⟨b, off, none⟩)) (w' := wx) ?_ ⟨rfl, Below.refl _ _⟩
      have t37 := (ev_tmp a 37).symm.trans s37
      simp [execOp, go_sem, t37, hn0, hn0i]
      first | done | (intro h; omega)
    · intro a wx hS hb hf
      have s38 : a.eval (.tmp 38) = .pointer (some ⟨b, off, none⟩) := slot hb 0 1 38 rfl rfl
      rw [if_pos (wanted_none rfl)]
      have cl := (hS.cell (p := ⟨b, off, none⟩) hbA1).trans cA
      refine does_val (v := .int .i64 x0) (w' := wx) ?_ ⟨rfl, Below.refl _ _⟩
      have t38 := (ev_tmp a 38).symm.trans s38
      simp [execOp, go_sem, t38, cl]
    · intro a wx hS hb hf
      have s7 : a.eval (.tmp 7) = .slice (some ⟨b7, off7, none⟩) (n - 1) c7 := (hf 7 (by kernel_rfl)).trans rfl
      rw [if_pos (wanted_none rfl)]
      refine does_val (v := .slice (some ⟨b7, off7, none⟩) (n - 1) c7) (w' := wx) ?_ ⟨rfl, Below.refl _ _⟩
      have t7 := (ev_tmp a 7).symm.trans s7
      simp [execOp, go_sem, t7]
    · intro a wx hS hb hf
      have s40 : a.eval (.tmp 40) = .slice (some ⟨b7, off7, none⟩) (n - 1) c7 := slot hb 0 3 40 rfl rfl
      rw [if_pos (wanted_none rfl)]
      refine does_val (v := .pointer (some ⟨b7, off7, none⟩)) (w' := wx) ?_ ⟨rfl, Below.refl _ _⟩
      have t40 := (ev_tmp a 40).symm.trans s40
      simp [execOp, go_sem, t40, hn1, hn1i]
      first | done | (intro h; omega)
    · intro a wx hS hb hf
      have s41 : a.eval (.tmp 41) = .pointer (some ⟨b7, off7, none⟩) := slot hb 0 4 41 rfl rfl
      rw [if_pos (wanted_none rfl)]
      have cl := (hS.cell (p := ⟨b7, off7, none⟩) hbB1).trans cB
      refine does_val (v := .int .i64 d0) (w' := wx) ?_ ⟨rfl, Below.refl _ _⟩
      have t41 := (ev_tmp a 41).symm.trans s41
      simp [execOp, go_sem, t41, cl]
    · intro a wx hS hb hf
      have s39 : a.eval (.tmp 39) = .int .i64 x0 := slot hb 0 2 39 rfl rfl
      have s42 : a.eval (.tmp 42) = .int .i64 d0 := slot hb 1 5 42 rfl rfl
      rw [if_pos (wanted_none rfl)]
      have t39 := (ev_tmp a 39).symm.trans s39
      have t42 := (ev_tmp a 42).symm.trans s42
      refine does_val (v := .slice (some ⟨wx.heap.size, 0, none⟩) 2 2) (w' := wx.alloc (.cells #[.int .i64 x0, .int .i64 d0] 2)) (by simp [execOp, go_sem, t39, t42]) ⟨?_, (Below.refl _ _).alloc (Nat.le_refl _) _⟩
      exact sl_lit wx .i64 2 [x0, d0] (by simp)
    · intro a wx hS hb hf
      have s43 : Sl .i64 ([x0, d0]) (a.eval (.tmp 43)) wx := slot hb 0 6 43 rfl rfl
      rw [if_pos (wanted_none rfl)]
      refine does_val (v := a.eval (.tmp 43)) (w' := wx) ?_ ⟨s43, Below.refl _ _⟩
      simp [execOp, go_sem, ev_tmp]
    intro a u hbu hts hd hdone hfree
    have e8 : Sl .i64 [x0, d0] (a.eval (.tmp 8)) u := done_slot hdone 7 8 rfl
    obtain ⟨g8, o8, c8, e8', hg8, _, _, hcc8⟩ := e8
    obtain ⟨x37, ex37⟩ : ∃ x, a.eval (.tmp 37) = x := ⟨_, rfl⟩
    obtain ⟨x38, ex38⟩ : ∃ x, a.eval (.tmp 38) = x := ⟨_, rfl⟩
    obtain ⟨x39, ex39⟩ : ∃ x, a.eval (.tmp 39) = x := ⟨_, rfl⟩
    obtain ⟨x40, ex40⟩ : ∃ x, a.eval (.tmp 40) = x := ⟨_, rfl⟩
    obtain ⟨x41, ex41⟩ : ∃ x, a.eval (.tmp 41) = x := ⟨_, rfl⟩
    obtain ⟨x42, ex42⟩ : ∃ x, a.eval (.tmp 42) = x := ⟨_, rfl⟩
    obtain ⟨x43, ex43⟩ : ∃ x, a.eval (.tmp 43) = x := ⟨_, rfl⟩
    have hact := act_puts hts hd hfree
    simp only [putAll, List.foldl_cons, List.foldl_nil, ex37, ex38, ex39, ex40, ex41, ex42, ex43, e8', Act.put] at hact
    simp at hact
    clear ex37 ex38 ex39 ex40 ex41 ex42 ex43 e8' hts hd hdone hfree
    subst hact
    have hbwu : Below w.heap.size w u := hbw2.trans (hbu.mono hbw2.size)
    have HXT : Hid (Rd .i64 u (some ⟨g8, o8, none⟩) [x0, d0] ∧ [x0, d0].length = 2 ∧ All64 [x0, d0]) := ⟨.inr ⟨g8, o8, rfl, hg8, hcc8⟩, rfl, all64_cons.2 ⟨hE2.out.2.1, all64_cons.2 ⟨hE2.out.2.2, all64_nil⟩⟩⟩
    clear hcc8
    go_wp2_with fail
    have hbA : Below u.heap.size u (u.alloc (.cells #[.int .u8 1] 5)) := (Below.refl _ _).alloc (Nat.le_refl _) _
    refine (refbytes_any n (u.alloc (.cells #[.int .u8 1] 5)) (by omega)).mono ?_
    rintro e wb ⟨vb, rfl, hob, hbb⟩
    obtain ⟨gb, cb, rfl, _⟩ := own_some hob (by have := bs_pos n; omega)
    have hbl := bs_le10 (show n < 18446744073709551616 by omega)
    have O1 : Hid (wb.ownsRow u.heap.size 5 1 (.slice (some ⟨u.heap.size, 0, none⟩) 1 1) 1 [.int .u8 1] ∧ Rd .u8 wb (some ⟨gb, 0, none⟩) (bs n)) := ⟨own_below (own_one u 1) hbb, own_rd hob⟩
    have hbtb : Below u.heap.size u wb := hbA.trans (hbb.mono hbA.size)
    obtain ⟨q, hq⟩ : ∃ q : Nat, Hid (q = (bs n).length) := ⟨_, rfl⟩
    rw [← hq.out] at hbl ⊢
    clear hob hbb hbA
    go_wp2_with (at_builtin; refine wpList_append_own _ rfl (.tmp 77) (.tmp 80) 24 rfl u.heap.size 5 i5 (.int .u8 0) 1 1 Tryd.underlying24 g5 y0 y1 y2 rfl (by decide) _ 1 _ rfl O1.out.1 ⟨gb, 0, none⟩ q cb ((bs n).map (Value.int .u8)) rfl (by simp [hq.out]) (rd_any O1.out.2 _ rfl) (ints_oneCell _ _) (by unfold maxLen; omega) (by omega) hbtb.size ?_; intro v9 w9 p1 p2 _)
    have hbt9 : Below u.heap.size u w9 := hbtb.grown p2 hbtb.size (fun r e => (O1.out.1.lt r e).1)
    refine (refall_any (some ⟨g8, o8, none⟩) 2 c8 ([x0, d0]) w9 HXT.out.2.1 (by omega) (HXT.out.1.below hbt9) HXT.out.2.2).mono ?_
    rintro e wz ⟨vz, rfl, hoz, hbz⟩
    have hzl := zbs_len ([x0, d0]) HXT.out.2.2 ([x0, d0]).length (Nat.le_refl _)
    rw [List.take_length, HXT.out.2.1] at hzl
    obtain ⟨az, cz, rfl, hrz⟩ := own_form hoz
    have hnz := own_nil hoz
    have hp1 := own_below p1 hbz
    have hbtz : Below u.heap.size u wz := hbt9.trans (hbz.mono hbt9.size)
    obtain ⟨z, hz⟩ : ∃ q : Nat, Hid (q = (zbs ([x0, d0])).length) := ⟨_, rfl⟩
    rw [← hz.out] at hzl hnz ⊢
    have O2 : Hid (wz.ownsRow u.heap.size 5 1 v9 (1 + q) ([.int .u8 1] ++ (bs n).map (Value.int .u8)) ∧ Rd .u8 wz az (zbs ([x0, d0])) ∧ (az = none → cz = 0 ∧ z = 0)) := ⟨hp1, hrz, hnz⟩
    clear hp1 hrz hnz hoz p1 p2 hbz
    go_wp2_with (at_builtin; refine wpList_append_any _ rfl (.tmp 82) (.tmp 84) 24 rfl u.heap.size 5 i5 (.int .u8 0) 1 Tryd.underlying24 g5 y0 y1 y2 rfl _ (1 + q) _ rfl O2.out.1 az z cz ((zbs ([x0, d0])).map (Value.int .u8)) rfl (by simp [hz.out]) O2.out.2.2 (rd_any O2.out.2.1) (ints_oneCell _ _) (by unfold maxLen; omega) (by omega) hbtz.size ?_; intro v10 w10 q1 q2)
    have hbt10 : Below u.heap.size u w10 := hbtz.grown q2 hbtz.size (fun r e => (O2.out.1.lt r e).1)
    go_ret2
    have e1 : [Value.int .u8 1] ++ (bs n).map (Value.int .u8) ++ (zbs ([x0, d0])).map (Value.int .u8) = ((1 : Int) :: (bs n ++ zbs ([x0, d0]))).map (Value.int .u8) := by simp
    have e2 : 1 + q + z = ((1 : Int) :: (bs n ++ zbs ([x0, d0]))).length := by rw [List.length_cons, List.length_append, ← hq.out, ← hz.out]; omega
    rw [e1, e2] at q1
    obtain ⟨g10, c10, rfl, _⟩ := own_some q1 (by simp)
    exact ⟨.inl ⟨_, g10, c10, Hcode.out, rfl, own_mono q1 hbwu.size⟩, hbwu.trans (hbt10.mono hbwu.size)⟩

set_option linter.unusedSimpArgs false in
set_option maxRecDepth 100000 in
set_option maxHeartbeats 6400000 in
theorem refas2 (a : Option Addr) (n cap : Nat) (l : List Int) (w : World) (hl : l.length = n) (hn : n ≤ 4096) (hrd : Rd .i64 w a l) (h64 : All64 l) :
    Calls Tryd.prog 10 #[.int .i64 2, .slice a n cap] w (AsIs 2 l w) := by
  obtain ⟨i5, g5, y0, y1, y2⟩ := info_parts Tryd.info5
  obtain ⟨i2, g2, z0, z1, z2⟩ := info_parts Tryd.info2
  have HR : Hid (Rd .i64 w a l ∧ l.length = n ∧ All64 l) := ⟨hrd, hl, h64⟩
  have Hst : Hid (Calls Tryd.prog 26 #[.slice a n cap] w fun e w' => ∃ v, e = .returned v ∧ w'.ownsRow w.heap.size 2 1 v (n - 1) ((dfs 0 l).tail.map (Value.int .i64)) ∧ Below w.heap.size w w') := refsteps_any a n cap l w hl (by omega) hrd
  have hn4 : ¬ (4096 : Int) < (n : Int) := by omega
  clear hrd hl h64
  go_enter Tryd.func10, Tryd.ntmps10
  go_wp2_with fail
  refine Calls.mono Hst.out ?_
  rintro e w1 ⟨v7, rfl, ho7, hb1⟩
  obtain ⟨a7, c7, rfl, I7⟩ := own_isI ho7
  have H7 : Hid (IsI .i64 w1 a7 (n - 1) c7 (dfs 0 l).tail) := I7
  clear ho7 I7
  have Hcode : Hid (codeI 2 l = some ((2 : Int) :: (bs n ++ zbs (dfs 0 l)))) := by
    have := code_some (k := 2) (l := l) (by rw [HR.out.2.1]; exact hn) rfl
    rw [HR.out.2.1] at this; exact this
  by_cases h0 : n = 0
  · have h0' : ¬ (0 : Int) < (n : Int) := by omega
    have hl0 : dfs 0 l = [] := List.eq_nil_of_length_eq_zero (by rw [dfs_length, HR.out.2.1]; exact h0)
    have H0 : Hid (n = 0 ∧ dfs 0 l = []) := ⟨h0, hl0⟩
    clear h0 hl0
    go_wp2_with (at_builtin; refine wpList_append_any _ rfl (.tmp 54) (.tmp 55) 22 rfl w1.heap.size 2 i2 (.int .i64 0) 8 Tryd.underlying22 g2 z0 z1 z2 rfl _ 0 [] rfl ⟨rfl, .inl ⟨rfl, rfl⟩⟩ a7 (n - 1) c7 ((dfs 0 l).tail.map (Value.int .i64)) rfl (by rw [List.length_map]; exact H7.out.hl) (fun e => ⟨H7.out.nil e, by have := H7.out.hc; have := H7.out.nil e; omega⟩) (rd_any H7.out.rd) (ints_oneCell _ _) (by unfold maxLen; omega) (by omega) (Nat.le_refl _) ?_; intro v8 w2 p1 p2)
    have hb12 : Below w1.heap.size w1 w2 := (Below.refl _ _).grown p2 (Nat.le_refl _) (fun r e => by cases e)
    have hbw2 : Below w.heap.size w w2 := hb1.trans (hb12.mono hb1.size)
    have p1' : w2.ownsRow w1.heap.size 2 1 v8 n ((dfs 0 l).map (Value.int .i64)) := by
      rw [H0.out.2] at p1 ⊢
      have e0 := H0.out.1
      rw [show n = 0 + (n - 1) by omega]; exact p1
    obtain ⟨a8, c8, rfl, I8⟩ := own_isI p1'
    have HXT : Hid (Rd .i64 w2 a8 (dfs 0 l) ∧ (dfs 0 l).length = n ∧ All64 (dfs 0 l)) := ⟨I8.rd, I8.hl, dfs_all _ _⟩
    clear p1 p2 p1' I8
    go_wp2_with fail
    have hbA : Below w2.heap.size w2 (w2.alloc (.cells #[.int .u8 2] 5)) := (Below.refl _ _).alloc (Nat.le_refl _) _
    refine (refbytes_any n (w2.alloc (.cells #[.int .u8 2] 5)) (by omega)).mono ?_
    rintro e wb ⟨vb, rfl, hob, hbb⟩
    obtain ⟨gb, cb, rfl, _⟩ := own_some hob (by have := bs_pos n; omega)
    have hbl := bs_le10 (show n < 18446744073709551616 by omega)
    have O1 : Hid (wb.ownsRow w2.heap.size 5 1 (.slice (some ⟨w2.heap.size, 0, none⟩) 1 1) 1 [.int .u8 2] ∧ Rd .u8 wb (some ⟨gb, 0, none⟩) (bs n)) := ⟨own_below (own_one w2 2) hbb, own_rd hob⟩
    have hbtb : Below w2.heap.size w2 wb := hbA.trans (hbb.mono hbA.size)
    obtain ⟨q, hq⟩ : ∃ q : Nat, Hid (q = (bs n).length) := ⟨_, rfl⟩
    rw [← hq.out] at hbl ⊢
    clear hob hbb hbA
    go_wp2_with (at_builtin; refine wpList_append_own _ rfl (.tmp 77) (.tmp 80) 24 rfl w2.heap.size 5 i5 (.int .u8 0) 1 1 Tryd.underlying24 g5 y0 y1 y2 rfl (by decide) _ 1 _ rfl O1.out.1 ⟨gb, 0, none⟩ q cb ((bs n).map (Value.int .u8)) rfl (by simp [hq.out]) (rd_any O1.out.2 _ rfl) (ints_oneCell _ _) (by unfold maxLen; omega) (by omega) hbtb.size ?_; intro v9 w9 p1 p2 _)
    have hbt9 : Below w2.heap.size w2 w9 := hbtb.grown p2 hbtb.size (fun r e => (O1.out.1.lt r e).1)
    refine (refall_any a8 n c8 (dfs 0 l) w9 HXT.out.2.1 (by omega) (HXT.out.1.below hbt9) HXT.out.2.2).mono ?_
    rintro e wz ⟨vz, rfl, hoz, hbz⟩
    have hzl := zbs_len (dfs 0 l) HXT.out.2.2 (dfs 0 l).length (Nat.le_refl _)
    rw [List.take_length, HXT.out.2.1] at hzl
    obtain ⟨az, cz, rfl, hrz⟩ := own_form hoz
    have hnz := own_nil hoz
    have hp1 := own_below p1 hbz
    have hbtz : Below w2.heap.size w2 wz := hbt9.trans (hbz.mono hbt9.size)
    obtain ⟨z, hz⟩ : ∃ q : Nat, Hid (q = (zbs (dfs 0 l)).length) := ⟨_, rfl⟩
    rw [← hz.out] at hzl hnz ⊢
    have O2 : Hid (wz.ownsRow w2.heap.size 5 1 v9 (1 + q) ([.int .u8 2] ++ (bs n).map (Value.int .u8)) ∧ Rd .u8 wz az (zbs (dfs 0 l)) ∧ (az = none → cz = 0 ∧ z = 0)) := ⟨hp1, hrz, hnz⟩
    clear hp1 hrz hnz hoz p1 p2 hbz
    go_wp2_with (at_builtin; refine wpList_append_any _ rfl (.tmp 82) (.tmp 84) 24 rfl w2.heap.size 5 i5 (.int .u8 0) 1 Tryd.underlying24 g5 y0 y1 y2 rfl _ (1 + q) _ rfl O2.out.1 az z cz ((zbs (dfs 0 l)).map (Value.int .u8)) rfl (by simp [hz.out]) O2.out.2.2 (rd_any O2.out.2.1) (ints_oneCell _ _) (by unfold maxLen; omega) (by omega) hbtz.size ?_; intro v10 w10 q1 q2)
    have hbt10 : Below w2.heap.size w2 w10 := hbtz.grown q2 hbtz.size (fun r e => (O2.out.1.lt r e).1)
    go_ret2
    have e1 : [Value.int .u8 2] ++ (bs n).map (Value.int .u8) ++ (zbs (dfs 0 l)).map (Value.int .u8) = ((2 : Int) :: (bs n ++ zbs (dfs 0 l))).map (Value.int .u8) := by simp
    have e2 : 1 + q + z = ((2 : Int) :: (bs n ++ zbs (dfs 0 l))).length := by rw [List.length_cons, List.length_append, ← hq.out, ← hz.out]; omega
    rw [e1, e2] at q1
    obtain ⟨g10, c10, rfl, _⟩ := own_some q1 (by simp)
    exact ⟨.inl ⟨_, g10, c10, Hcode.out, rfl, own_mono q1 hbw2.size⟩, hbw2.trans (hbt10.mono hbw2.size)⟩
  · have h0' : (0 : Int) < (n : Int) := by omega
    obtain ⟨b, off, rfl, hbA, cA0⟩ : ∃ b off, a = some ⟨b, off, none⟩ ∧ b < w.heap.size ∧ w.cell? ⟨b, off, none⟩ = some (.int .i64 (l.getD 0 0)) := by
      rcases HR.out.1 with h | ⟨b, off, e, hb, c⟩
      · have := HR.out.2.1; rw [h] at this; simp at this; omega
      · exact ⟨b, off, e, hb, by have := c 0 (by rw [HR.out.2.1]; omega); rwa [Nat.add_zero] at this⟩
    obtain ⟨x0, hx0⟩ : ∃ x, Hid (x = l.getD 0 0) := ⟨_, rfl⟩
    rw [← hx0.out] at cA0
    have cA := (hb1.cell (p := ⟨b, off, none⟩) hbA).trans cA0
    have hdl : Hid (dfs 0 l = x0 :: (dfs 0 l).tail) := by
      have hh := HR.out
      rw [hx0.out]
      have hll : 1 ≤ l.length := by rw [hh.2.1]; omega
      clear hx0 H7 Hst Hcode
      match l, hh, hll with
      | x :: t, hh, _ =>
        show dif 0 x :: dfs x t = x :: dfs x t
        rw [dif_zero (all64_cons.1 hh.2.2).1]
    clear cA0
    go_wp2_with (first
      | (at_builtin; refine wpList_append_own _ rfl (.tmp 48) (.tmp 52) 22 rfl w1.heap.size 2 i2 (.int .i64 0) 1 8 Tryd.underlying22 g2 z0 z1 z2 rfl (by decide) _ 0 [] rfl ⟨rfl, .inl ⟨rfl, rfl⟩⟩ ⟨w1.heap.size, 0, none⟩ 1 1 [.int .i64 x0] rfl rfl (one_news w1 x0) (one_one x0) (by decide) (by decide) (by simp) ?_; intro v8 w2 p1 p2 _)
      | (at_builtin
         have hb12 : Below w1.heap.size w1 w2 := ((Below.refl _ _).alloc (Nat.le_refl _) _).grown p2 (by simp) (fun r e => by cases e)
         refine wpList_append_any _ rfl (.tmp 54) (.tmp 55) 22 rfl w1.heap.size 2 i2 (.int .i64 0) 8 Tryd.underlying22 g2 z0 z1 z2 rfl v8 (0 + 1) _ rfl p1 a7 (n - 1) c7 ((dfs 0 l).tail.map (Value.int .i64)) rfl (by rw [List.length_map]; exact H7.out.hl) (fun e => ⟨H7.out.nil e, by have := H7.out.hc; have := H7.out.nil e; omega⟩) (rd_any (H7.out.rd.below hb12)) (ints_oneCell _ _) (by unfold maxLen; omega) (by omega) hb12.size ?_
         intro v9 w3 q1 q2))
    have hb13 : Below w1.heap.size w1 w3 := hb12.grown q2 hb12.size (fun r e => (p1.lt r e).1)
    have hbw3 : Below w.heap.size w w3 := hb1.trans (hb13.mono hb1.size)
    have q3 : w3.ownsRow w1.heap.size 2 1 v9 n ((dfs 0 l).map (Value.int .i64)) := by
      rw [hdl.out, show n = 0 + 1 + (n - 1) by omega]; exact q1
    obtain ⟨a8, c8, rfl, I8⟩ := own_isI q3
    have HXT : Hid (Rd .i64 w3 a8 (dfs 0 l) ∧ (dfs 0 l).length = n ∧ All64 (dfs 0 l)) := ⟨I8.rd, I8.hl, dfs_all _ _⟩
    clear p1 p2 q1 q2 q3 I8 hb12
    go_wp2_with fail
    have hbA : Below w3.heap.size w3 (w3.alloc (.cells #[.int .u8 2] 5)) := (Below.refl _ _).alloc (Nat.le_refl _) _
    refine (refbytes_any n (w3.alloc (.cells #[.int .u8 2] 5)) (by omega)).mono ?_
    rintro e wb ⟨vb, rfl, hob, hbb⟩
    obtain ⟨gb, cb, rfl, _⟩ := own_some hob (by have := bs_pos n; omega)
    have hbl := bs_le10 (show n < 18446744073709551616 by omega)
    have O1 : Hid (wb.ownsRow w3.heap.size 5 1 (.slice (some ⟨w3.heap.size, 0, none⟩) 1 1) 1 [.int .u8 2] ∧ Rd .u8 wb (some ⟨gb, 0, none⟩) (bs n)) := ⟨own_below (own_one w3 2) hbb, own_rd hob⟩
    have hbtb : Below w3.heap.size w3 wb := hbA.trans (hbb.mono hbA.size)
    obtain ⟨q, hq⟩ : ∃ q : Nat, Hid (q = (bs n).length) := ⟨_, rfl⟩
    rw [← hq.out] at hbl ⊢
    clear hob hbb hbA
    go_wp2_with (at_builtin; refine wpList_append_own _ rfl (.tmp 77) (.tmp 80) 24 rfl w3.heap.size 5 i5 (.int .u8 0) 1 1 Tryd.underlying24 g5 y0 y1 y2 rfl (by decide) _ 1 _ rfl O1.out.1 ⟨gb, 0, none⟩ q cb ((bs n).map (Value.int .u8)) rfl (by simp [hq.out]) (rd_any O1.out.2 _ rfl) (ints_oneCell _ _) (by unfold maxLen; omega) (by omega) hbtb.size ?_; intro v9 w9 p1 p2 _)
    have hbt9 : Below w3.heap.size w3 w9 := hbtb.grown p2 hbtb.size (fun r e => (O1.out.1.lt r e).1)
    refine (refall_any a8 n c8 (dfs 0 l) w9 HXT.out.2.1 (by omega) (HXT.out.1.below hbt9) HXT.out.2.2).mono ?_
    rintro e wz ⟨vz, rfl, hoz, hbz⟩
    have hzl := zbs_len (dfs 0 l) HXT.out.2.2 (dfs 0 l).length (Nat.le_refl _)
    rw [List.take_length, HXT.out.2.1] at hzl
    obtain ⟨az, cz, rfl, hrz⟩ := own_form hoz
    have hnz := own_nil hoz
    have hp1 := own_below p1 hbz
    have hbtz : Below w3.heap.size w3 wz := hbt9.trans (hbz.mono hbt9.size)
    obtain ⟨z, hz⟩ : ∃ q : Nat, Hid (q = (zbs (dfs 0 l)).length) := ⟨_, rfl⟩
    rw [← hz.out] at hzl hnz ⊢
    have O2 : Hid (wz.ownsRow w3.heap.size 5 1 v9 (1 + q) ([.int .u8 2] ++ (bs n).map (Value.int .u8)) ∧ Rd .u8 wz az (zbs (dfs 0 l)) ∧ (az = none → cz = 0 ∧ z = 0)) := ⟨hp1, hrz, hnz⟩
    clear hp1 hrz hnz hoz p1 p2 hbz
    go_wp2_with (at_builtin; refine wpList_append_any _ rfl (.tmp 82) (.tmp 84) 24 rfl w3.heap.size 5 i5 (.int .u8 0) 1 Tryd.underlying24 g5 y0 y1 y2 rfl _ (1 + q) _ rfl O2.out.1 az z cz ((zbs (dfs 0 l)).map (Value.int .u8)) rfl (by simp [hz.out]) O2.out.2.2 (rd_any O2.out.2.1) (ints_oneCell _ _) (by unfold maxLen; omega) (by omega) hbtz.size ?_; intro v10 w10 q1 q2)
    have hbt10 : Below w3.heap.size w3 w10 := hbtz.grown q2 hbtz.size (fun r e => (O2.out.1.lt r e).1)
    go_ret2
    have e1 : [Value.int .u8 2] ++ (bs n).map (Value.int .u8) ++ (zbs (dfs 0 l)).map (Value.int .u8) = ((2 : Int) :: (bs n ++ zbs (dfs 0 l))).map (Value.int .u8) := by simp
    have e2 : 1 + q + z = ((2 : Int) :: (bs n ++ zbs (dfs 0 l))).length := by rw [List.length_cons, List.length_append, ← hq.out, ← hz.out]; omega
    rw [e1, e2] at q1
    obtain ⟨g10, c10, rfl, _⟩ := own_some q1 (by simp)
    exact ⟨.inl ⟨_, g10, c10, Hcode.out, rfl, own_mono q1 hbw3.size⟩, hbw3.trans (hbt10.mono hbw3.size)⟩

set_option linter.unusedSimpArgs false in
set_option maxRecDepth 100000 in
set_option maxHeartbeats 6400000 in
theorem refas3 (a : Option Addr) (n cap : Nat) (l : List Int) (w : World) (hl : l.length = n) (hn : n ≤ 4096) (hrd : Rd .i64 w a l) (h64 : All64 l) :
    Calls Tryd.prog 10 #[.int .i64 3, .slice a n cap] w (AsIs 3 l w) := by
  obtain ⟨i5, g5, y0, y1, y2⟩ := info_parts Tryd.info5
  obtain ⟨i2, g2, z0, z1, z2⟩ := info_parts Tryd.info2
  have HR : Hid (Rd .i64 w a l ∧ l.length = n ∧ All64 l) := ⟨hrd, hl, h64⟩
  have Hst : Hid (Calls Tryd.prog 26 #[.slice a n cap] w fun e w' => ∃ v, e = .returned v ∧ w'.ownsRow w.heap.size 2 1 v (n - 1) ((dfs 0 l).tail.map (Value.int .i64)) ∧ Below w.heap.size w w') := refsteps_any a n cap l w hl (by omega) hrd
  have hn4 : ¬ (4096 : Int) < (n : Int) := by omega
  clear hrd hl h64
  go_enter Tryd.func10, Tryd.ntmps10
  go_wp2_with fail
  refine Calls.mono Hst.out ?_
  rintro e w1 ⟨v7, rfl, ho7, hb1⟩
  obtain ⟨a7, c7, rfl, I7⟩ := own_isI ho7
  have H7 : Hid (IsI .i64 w1 a7 (n - 1) c7 (dfs 0 l).tail) := I7
  clear ho7 I7
  by_cases h0 : n < 2
  · have h0' : (n : Int) < 2 := by omega
    go_wp2_with fail
    go_ret2
    refine ⟨.inr ⟨?_, rfl⟩, hb1⟩
    exact code_none (k := 3) (by decide) (by rw [HR.out.2.1]; show ¬ (2 ≤ n ∧ _); omega)
  have h0' : ¬ (n : Int) < 2 := by omega
  have hn0 : ¬ n = 0 := by omega
  obtain ⟨b, off, rfl, hbA, cA0⟩ : ∃ b off, a = some ⟨b, off, none⟩ ∧ b < w.heap.size ∧ w.cell? ⟨b, off, none⟩ = some (.int .i64 (l.getD 0 0)) := by
    rcases HR.out.1 with h | ⟨b, off, e, hb, c⟩
    · have := HR.out.2.1; rw [h] at this; simp at this; omega
    · exact ⟨b, off, e, hb, by have := c 0 (by rw [HR.out.2.1]; omega); rwa [Nat.add_zero] at this⟩
  obtain ⟨b7, off7, rfl, hbB, cB0⟩ : ∃ b off, a7 = some ⟨b, off, none⟩ ∧ b < w1.heap.size ∧ w1.cell? ⟨b, off, none⟩ = some (.int .i64 ((dfs 0 l).tail.getD 0 0)) := by
    rcases H7.out.rd with h | ⟨b, off, e, hb, c⟩
    · have := H7.out.hl; rw [h] at this; simp at this; omega
    · exact ⟨b, off, e, hb, by have := c 0 (by rw [H7.out.hl]; omega); rwa [Nat.add_zero] at this⟩
  obtain ⟨x0, hx0⟩ : ∃ x, Hid (x = l.getD 0 0) := ⟨_, rfl⟩
  obtain ⟨d0, hd0⟩ : ∃ x, Hid (x = (dfs 0 l).tail.getD 0 0) := ⟨_, rfl⟩
  rw [← hx0.out] at cA0
  rw [← hd0.out] at cB0
  have hE2 : Hid ((dfs 0 l).take 2 = [x0, d0] ∧ I64 x0 ∧ I64 d0) := by
    have hh := HR.out
    rw [hx0.out, hd0.out]
    have hll : 2 ≤ l.length := by rw [hh.2.1]; omega
    clear hx0 hd0 H7 Hst
    match l, hh, hll with
    | x :: y :: t, hh, _ =>
      refine ⟨?_, (all64_cons.1 hh.2.2).1, wrap_bd _⟩
      show [dif 0 x, dif x y] = [x, dif x y]
      rw [dif_zero (all64_cons.1 hh.2.2).1]
  have hX : nms 3 l = some ([x0, d0] ++ (dfs 0 (dfs 0 l).tail).tail) := by
    rw [nms_3, if_pos (by rw [HR.out.2.1]; omega)]
    have hh := HR.out
    have hll : 2 ≤ l.length := by rw [hh.2.1]; omega
    have he := hE2.out
    clear hx0 hd0 H7 Hst hE2 HR
    match l, hh, hll, he with
    | x :: y :: t, hh, _, he =>
      have e1 : [dif 0 x, dif x y] = [x0, d0] := he.1
      show some ([dif 0 x] ++ (dif 0 (dif x y) :: dfs (dif x y) (dfs y t))) = some ([x0, d0] ++ dfs (dif x y) (dfs y t))
      rw [show dif 0 (dif x y) = dif x y from dif_zero (wrap_bd _), ← e1]; rfl
  have Hcode : Hid (codeI 3 l = some ((3 : Int) :: (bs n ++ zbs ([x0, d0] ++ (dfs 0 (dfs 0 l).tail).tail)))) := by
    have := code_some (by rw [HR.out.2.1]; exact hn) hX
    rw [HR.out.2.1] at this; exact this
  have hXa : All64 ([x0, d0] ++ (dfs 0 (dfs 0 l).tail).tail) := (nms_all HR.out.2.2 hX).1
  have cA := (hb1.cell (p := ⟨b, off, none⟩) hbA).trans cA0
  have cB := cB0
  have hbA1 : b < w1.heap.size := Nat.lt_of_lt_of_le hbA hb1.size
  have hbB1 : b7 < w1.heap.size := hbB
  have hn0i : ¬ (n : Int) ≤ 0 := by omega
  have hn1 : ¬ n - 1 = 0 := by omega
  have hn1i : ¬ ((n - 1 : Nat) : Int) ≤ 0 := by omega
  have HXa : Hid _ := hXa
  clear hX cA0 cB0 hXa
  go_wp2_with fail
  refine wp_region_K (by kernel_rfl) (by kernel_rfl) [.eq (.slice none 0 0), .eq (.slice (some ⟨b, off, none⟩) n cap), .eq (.pointer (some ⟨b, off, none⟩)), .eq (.int .i64 x0), .eq (.slice (some ⟨b7, off7, none⟩) (n - 1) c7), .eq (.pointer (some ⟨b7, off7, none⟩)), .eq (.int .i64 d0), .rd .i64 ([x0, d0]), Kd.own w1.heap.size 2 [.int .i64 x0, .int .i64 d0], Kd.own w1.heap.size 2 [.int .i64 x0, .int .i64 d0]] w1 (Below.refl _ _) (allOps_cons ?_ (allOps_cons ?_ (allOps_cons ?_ (allOps_cons ?_ (allOps_cons ?_ (allOps_cons ?_ (allOps_cons ?_ (allOps_cons ?_ (allOps_cons ?_ (allOps_cons ?_ allOps_nil)))))))))) ?_
  · intro a wx hS hb hf
    have s8 : a.eval (.tmp 8) = .slice none 0 0 := (hf 8 (by kernel_rfl)).trans rfl
    rw [if_pos (wanted_none rfl)]
    refine does_val (v := .slice none 0 0) (w' := wx) ?_ ⟨rfl, Below.refl _ _⟩
    have t8 := (ev_tmp a 8).symm.trans s8
    simp [execOp, go_sem, t8]
  · intro a wx hS hb hf
    have s1 : a.eval (.tmp 1) = .slice (some ⟨b, off, none⟩) n cap := (hf 1 (by kernel_rfl)).trans rfl
    rw [if_pos (wanted_none rfl)]
    refine does_val (v := .slice (some ⟨b, off, none⟩) n cap) (w' := wx) ?_ ⟨rfl, Below.refl _ _⟩
    have t1 := (ev_tmp a 1).symm.trans s1
    simp [execOp, go_sem, t1]
  · intro a wx hS hb hf
    have s62 : a.eval (.tmp 62) = .slice (some ⟨b, off, none⟩) n cap := slot hb 0 1 62 rfl rfl
    rw [if_pos (wanted_none rfl)]
    refine does_val (v := .pointer (some ⟨b, off, none⟩)) (w' := wx) ?_ ⟨rfl, Below.refl _ _⟩
    have t62 := (ev_tmp a 62).symm.trans s62
    simp [execOp, go_sem, t62, hn0, hn0i]
    first | done | (intro h; omega)
  · intro a wx hS hb hf
    have s63 : a.eval (.tmp 63) = .pointer (some ⟨b, off, none⟩) := slot hb 0 2 63 rfl rfl
    rw [if_pos (wanted_none rfl)]
    have cl := (hS.cell (p := ⟨b, off, none⟩) hbA1).trans cA
    refine does_val (v := .int .i64 x0) (w' := wx) ?_ ⟨rfl, Below.refl _ _⟩
    have t63 := (ev_tmp a 63).symm.trans s63
    simp [execOp, go_sem, t63, cl]
  · intro a wx hS hb hf
    have s7 : a.eval (.tmp 7) = .slice (some ⟨b7, off7, none⟩) (n - 1) c7 := (hf 7 (by kernel_rfl)).trans rfl
    rw [if_pos (wanted_none rfl)]
    refine does_val (v := .slice (some ⟨b7, off7, none⟩) (n - 1) c7) (w' := wx) ?_ ⟨rfl, Below.refl _ _⟩
    have t7 := (ev_tmp a 7).symm.trans s7
    simp [execOp, go_sem, t7]
  · intro a wx hS hb hf
    have s65 : a.eval (.tmp 65) = .slice (some ⟨b7, off7, none⟩) (n - 1) c7 := slot hb 0 4 65 rfl rfl
    rw [if_pos (wanted_none rfl)]
    refine does_val (v := .pointer (some ⟨b7, off7, none⟩)) (w' := wx) ?_ ⟨rfl, Below.refl _ _⟩
    have t65 := (ev_tmp a 65).symm.trans s65
    simp [execOp, go_sem, t65, hn1, hn1i]
    first | done | (intro h; omega)
  · intro a wx hS hb hf
    have s66 : a.eval (.tmp 66) = .pointer (some ⟨b7, off7, none⟩) := slot hb 0 5 66 rfl rfl
    rw [if_pos (wanted_none rfl)]
    have cl := (hS.cell (p := ⟨b7, off7, none⟩) hbB1).trans cB
    refine does_val (v := .int .i64 d0) (w' := wx) ?_ ⟨rfl, Below.refl _ _⟩
    have t66 := (ev_tmp a 66).symm.trans s66
    simp [execOp, go_sem, t66, cl]
  · intro a wx hS hb hf
    have s64 : a.eval (.tmp 64) = .int .i64 x0 := slot hb 0 3 64 rfl rfl
    have s67 : a.eval (.tmp 67) = .int .i64 d0 := slot hb 1 6 67 rfl rfl
    rw [if_pos (wanted_none rfl)]
    have t64 := (ev_tmp a 64).symm.trans s64
    have t67 := (ev_tmp a 67).symm.trans s67
    refine does_val (v := .slice (some ⟨wx.heap.size, 0, none⟩) 2 2) (w' := wx.alloc (.cells #[.int .i64 x0, .int .i64 d0] 2)) (by simp [execOp, go_sem, t64, t67]) ⟨?_, (Below.refl _ _).alloc (Nat.le_refl _) _⟩
    exact sl_lit wx .i64 2 [x0, d0] (by simp)
  · intro a wx hS hb hf
    have s61 : a.eval (.tmp 61) = .slice none 0 0 := slot hb 0 0 61 rfl rfl
    have s68 : Sl .i64 ([x0, d0]) (a.eval (.tmp 68)) wx := slot hb 1 7 68 rfl rfl
    rw [if_pos (wanted_none rfl)]
    obtain ⟨g8, o8, c8, e68, hg8, hc8, hm8, hcc8⟩ := s68
    obtain ⟨v', u', hrun, hown', hgrow, _⟩ := run_append_own (P := Tryd.prog) wx w1.heap.size 22 22 2 i2 (.int .i64 0) 1 8 Tryd.underlying22 g2 z0 z1 z2 rfl (by decide) (.slice none 0 0) 0 [] ⟨rfl, .inl ⟨rfl, rfl⟩⟩ ⟨g8, o8, none⟩ 2 c8 [.int .i64 x0, .int .i64 d0] rfl (two_news hcc8) (two_one x0 d0) (by decide) (by decide) (Nat.le_trans (Nat.le_refl _) hS.size)
    refine does_val (v := v') (w' := u') ?_ ⟨hown', ?_⟩
    · have e68' : a.eval (.tmp 68) = .slice (some ⟨g8, o8, none⟩) 2 c8 := e68
      simp only [execOp, resolve, invoke, builtin, Sem.run_bind, Sem.run_pure, Result.andThen_ok, List.map_toArray, List.map_cons, List.map_nil, s61, e68', hrun]
    · exact (Below.refl _ _).grown hgrow (Nat.le_refl _) (fun r e => by cases e)
  · intro a wx hS hb hf
    rw [if_pos (wanted_none rfl)]
    have s69 : wx.ownsRow w1.heap.size 2 1 (a.eval (.tmp 69)) 2 [.int .i64 x0, .int .i64 d0] := slot hb 0 8 69 rfl rfl
    refine does_val (v := a.eval (.tmp 69)) (w' := wx) ?_ ⟨s69, Below.refl _ _⟩
    simp [execOp, go_sem, ev_tmp]
  intro a u hbu hts hd hdone hfree
  have e8 : u.ownsRow w1.heap.size 2 1 (a.eval (.tmp 8)) 2 [.int .i64 x0, .int .i64 d0] := done_slot hdone 9 8 rfl
  obtain ⟨v8, e8'⟩ : ∃ x, a.eval (.tmp 8) = x := ⟨_, rfl⟩
  rw [e8'] at e8
  obtain ⟨x61, ex61⟩ : ∃ x, a.eval (.tmp 61) = x := ⟨_, rfl⟩
  obtain ⟨x62, ex62⟩ : ∃ x, a.eval (.tmp 62) = x := ⟨_, rfl⟩
  obtain ⟨x63, ex63⟩ : ∃ x, a.eval (.tmp 63) = x := ⟨_, rfl⟩
  obtain ⟨x64, ex64⟩ : ∃ x, a.eval (.tmp 64) = x := ⟨_, rfl⟩
  obtain ⟨x65, ex65⟩ : ∃ x, a.eval (.tmp 65) = x := ⟨_, rfl⟩
  obtain ⟨x66, ex66⟩ : ∃ x, a.eval (.tmp 66) = x := ⟨_, rfl⟩
  obtain ⟨x67, ex67⟩ : ∃ x, a.eval (.tmp 67) = x := ⟨_, rfl⟩
  obtain ⟨x68, ex68⟩ : ∃ x, a.eval (.tmp 68) = x := ⟨_, rfl⟩
  obtain ⟨x69, ex69⟩ : ∃ x, a.eval (.tmp 69) = x := ⟨_, rfl⟩
  have hact := act_puts hts hd hfree
  simp only [putAll, List.foldl_cons, List.foldl_nil, ex61, ex62, ex63, ex64, ex65, ex66, ex67, ex68, ex69, e8', Act.put] at hact
  simp at hact
  clear ex61 ex62 ex63 ex64 ex65 ex66 ex67 ex68 ex69 e8' hts hd hdone hfree
  subst hact
  have hbwu : Below w.heap.size w u := hb1.trans (hbu.mono hb1.size)
  have E8 : Hid (u.ownsRow w1.heap.size 2 1 v8 2 [.int .i64 x0, .int .i64 d0]) := e8
  clear e8
  go_wp2_with fail
  refine (refsteps_any (some ⟨b7, off7, none⟩) (n - 1) c7 (dfs 0 l).tail u H7.out.hl (by omega) (H7.out.rd.below hbu)).mono ?_
  rintro e w3 ⟨v72, rfl, ho72, hb3⟩
  obtain ⟨a72, c72, rfl, I72⟩ := own_isI ho72
  have hb13 : Below w1.heap.size w1 w3 := hbu.trans (hb3.mono hbu.size)
  have o8 := own_below E8.out hb3
  have HI : Hid (IsI .i64 w3 a72 (n - 1 - 1) c72 (dfs 0 (dfs 0 l).tail).tail ∧ w3.ownsRow w1.heap.size 2 1 v8 2 [.int .i64 x0, .int .i64 d0]) := ⟨I72, o8⟩
  clear ho72 I72 o8
  obtain ⟨r, hr⟩ : ∃ r, r = n - 1 - 1 := ⟨_, rfl⟩
  have hr4 : r ≤ 4096 := by omega
  have hrn : 2 + r = n := by omega
  rw [← hr] at HI ⊢
  clear hr
  go_wp2_with (at_builtin; refine wpList_append_any _ rfl (.tmp 70) (.tmp 72) 22 rfl w1.heap.size 2 i2 (.int .i64 0) 8 Tryd.underlying22 g2 z0 z1 z2 rfl v8 2 _ rfl HI.out.2 a72 r c72 ((dfs 0 (dfs 0 l).tail).tail.map (Value.int .i64)) rfl (by rw [List.length_map]; exact HI.out.1.hl) (fun e => ⟨HI.out.1.nil e, by have := HI.out.1.hc; have := HI.out.1.nil e; omega⟩) (rd_any HI.out.1.rd) (ints_oneCell _ _) (by unfold maxLen; omega) (by omega) hb13.size ?_; intro v9 w4 q1 q2)
  have hb14 : Below w1.heap.size w1 w4 := hb13.grown q2 hb13.size (fun r e => (HI.out.2.lt r e).1)
  have hbw4 : Below w.heap.size w w4 := hb1.trans (hb14.mono hb1.size)
  have q3 : w4.ownsRow w1.heap.size 2 1 v9 n (([x0, d0] ++ (dfs 0 (dfs 0 l).tail).tail).map (Value.int .i64)) := by
    rw [← hrn, List.map_append]; exact q1
  obtain ⟨a8, c8, rfl, I8⟩ := own_isI q3
  have HXT : Hid (Rd .i64 w4 a8 ([x0, d0] ++ (dfs 0 (dfs 0 l).tail).tail) ∧ ([x0, d0] ++ (dfs 0 (dfs 0 l).tail).tail).length = n ∧ All64 ([x0, d0] ++ (dfs 0 (dfs 0 l).tail).tail)) := ⟨I8.rd, I8.hl, HXa.out⟩
  clear q1 q2 q3 I8
  obtain ⟨X, hXX⟩ : ∃ X, Hid (X = [x0, d0] ++ (dfs 0 (dfs 0 l).tail).tail) := ⟨_, rfl⟩
  rw [← hXX.out] at HXT Hcode
  go_wp2_with fail
  have hbA : Below w4.heap.size w4 (w4.alloc (.cells #[.int .u8 3] 5)) := (Below.refl _ _).alloc (Nat.le_refl _) _
  refine (refbytes_any n (w4.alloc (.cells #[.int .u8 3] 5)) (by omega)).mono ?_
  rintro e wb ⟨vb, rfl, hob, hbb⟩
  obtain ⟨gb, cb, rfl, _⟩ := own_some hob (by have := bs_pos n; omega)
  have hbl := bs_le10 (show n < 18446744073709551616 by omega)
  have O1 : Hid (wb.ownsRow w4.heap.size 5 1 (.slice (some ⟨w4.heap.size, 0, none⟩) 1 1) 1 [.int .u8 3] ∧ Rd .u8 wb (some ⟨gb, 0, none⟩) (bs n)) := ⟨own_below (own_one w4 3) hbb, own_rd hob⟩
  have hbtb : Below w4.heap.size w4 wb := hbA.trans (hbb.mono hbA.size)
  obtain ⟨q, hq⟩ : ∃ q : Nat, Hid (q = (bs n).length) := ⟨_, rfl⟩
  rw [← hq.out] at hbl ⊢
  clear hob hbb hbA
  go_wp2_with (at_builtin; refine wpList_append_own _ rfl (.tmp 77) (.tmp 80) 24 rfl w4.heap.size 5 i5 (.int .u8 0) 1 1 Tryd.underlying24 g5 y0 y1 y2 rfl (by decide) _ 1 _ rfl O1.out.1 ⟨gb, 0, none⟩ q cb ((bs n).map (Value.int .u8)) rfl (by simp [hq.out]) (rd_any O1.out.2 _ rfl) (ints_oneCell _ _) (by unfold maxLen; omega) (by omega) hbtb.size ?_; intro v9 w9 p1 p2 _)
  have hbt9 : Below w4.heap.size w4 w9 := hbtb.grown p2 hbtb.size (fun r e => (O1.out.1.lt r e).1)
  refine (refall_any a8 n c8 (X) w9 HXT.out.2.1 (by omega) (HXT.out.1.below hbt9) HXT.out.2.2).mono ?_
  rintro e wz ⟨vz, rfl, hoz, hbz⟩
  have hzl := zbs_len (X) HXT.out.2.2 (X).length (Nat.le_refl _)
  rw [List.take_length, HXT.out.2.1] at hzl
  obtain ⟨az, cz, rfl, hrz⟩ := own_form hoz
  have hnz := own_nil hoz
  have hp1 := own_below p1 hbz
  have hbtz : Below w4.heap.size w4 wz := hbt9.trans (hbz.mono hbt9.size)
  obtain ⟨z, hz⟩ : ∃ q : Nat, Hid (q = (zbs (X)).length) := ⟨_, rfl⟩
  rw [← hz.out] at hzl hnz ⊢
  have O2 : Hid (wz.ownsRow w4.heap.size 5 1 v9 (1 + q) ([.int .u8 3] ++ (bs n).map (Value.int .u8)) ∧ Rd .u8 wz az (zbs (X)) ∧ (az = none → cz = 0 ∧ z = 0)) := ⟨hp1, hrz, hnz⟩
  clear hp1 hrz hnz hoz p1 p2 hbz
  go_wp2_with (at_builtin; refine wpList_append_any _ rfl (.tmp 82) (.tmp 84) 24 rfl w4.heap.size 5 i5 (.int .u8 0) 1 Tryd.underlying24 g5 y0 y1 y2 rfl _ (1 + q) _ rfl O2.out.1 az z cz ((zbs (X)).map (Value.int .u8)) rfl (by simp [hz.out]) O2.out.2.2 (rd_any O2.out.2.1) (ints_oneCell _ _) (by unfold maxLen; omega) (by omega) hbtz.size ?_; intro v10 w10 q1 q2)
  have hbt10 : Below w4.heap.size w4 w10 := hbtz.grown q2 hbtz.size (fun r e => (O2.out.1.lt r e).1)
  go_ret2
  have e1 : [Value.int .u8 3] ++ (bs n).map (Value.int .u8) ++ (zbs (X)).map (Value.int .u8) = ((3 : Int) :: (bs n ++ zbs (X))).map (Value.int .u8) := by simp
  have e2 : 1 + q + z = ((3 : Int) :: (bs n ++ zbs (X))).length := by rw [List.length_cons, List.length_append, ← hq.out, ← hz.out]; omega
  rw [e1, e2] at q1
  obtain ⟨g10, c10, rfl, _⟩ := own_some q1 (by simp)
  exact ⟨.inl ⟨_, g10, c10, Hcode.out, rfl, own_mono q1 hbw4.size⟩, hbw4.trans (hbt10.mono hbw4.size)⟩

theorem refas_any (k : Int) (a : Option Addr) (n cap : Nat) (l : List Int) (w : World) (hl : l.length = n) (hn : n ≤ 5000) (hcap : n ≤ cap) (hrd : Rd .i64 w a l) (h64 : All64 l) :
    Calls Tryd.prog 10 #[.int .i64 k, .slice a n cap] w (AsIs k l w) := by
  by_cases h4 : n ≤ 4096
  · have hk : k = 0 ∨ k = 1 ∨ k = 2 ∨ k = 3 ∨ (¬ k = 0 ∧ ¬ k = 1 ∧ ¬ k = 2 ∧ ¬ k = 3) := by omega
    rcases hk with rfl | rfl | rfl | rfl | ⟨k0, k1, k2, k3⟩
    · exact refas0 a n cap l w hl h4 hcap hrd h64
    · exact refas1 a n cap l w hl h4 hrd h64
    · exact refas2 a n cap l w hl h4 hrd h64
    · exact refas3 a n cap l w hl h4 hrd h64
    · have Hst : Hid (Calls Tryd.prog 26 #[.slice a n cap] w fun e w' => ∃ v, e = .returned v ∧ w'.ownsRow w.heap.size 2 1 v (n - 1) ((dfs 0 l).tail.map (Value.int .i64)) ∧ Below w.heap.size w w') := refsteps_any a n cap l w hl hn hrd
      have hn4 : ¬ (4096 : Int) < (n : Int) := by omega
      have q0 : (k == 0) = false := by simp [k0]
      have q1 : (k == 1) = false := by simp [k1]
      have q2 : (k == 2) = false := by simp [k2]
      have q3 : (k == 3) = false := by simp [k3]
      clear hrd h64 hl
      go_enter Tryd.func10, Tryd.ntmps10
      go_wp2_with fail
      refine Calls.mono Hst.out ?_
      rintro e w1 ⟨v7, rfl, _, hb1⟩
      go_wp2_with fail
      go_ret2
      refine ⟨.inr ⟨?_, rfl⟩, hb1⟩
      unfold codeI
      by_cases hk : k < 0
      · exact if_pos hk
      · rw [if_neg hk]; exact code_four (by omega) l
  · have hn4 : (4096 : Int) < (n : Int) := by omega
    have HL : Hid (l.length = n) := hl
    clear hrd h64 hl
    go_enter Tryd.func10, Tryd.ntmps10
    go_wp2
    go_ret2
    refine ⟨.inr ⟨?_, rfl⟩, Below.refl _ _⟩
    unfold codeI
    by_cases hk : k < 0
    · exact if_pos hk
    · rw [if_neg hk]; exact code_long (by rw [HL.out]; exact h4)
end Go.Proofs.YtbgipenonngccaaDoor
