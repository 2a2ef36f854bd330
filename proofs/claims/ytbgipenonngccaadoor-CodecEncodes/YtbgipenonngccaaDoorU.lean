/- The contract of As: a row's code by any kind. Conditions: the table of the fewest holds what it is laid with; the row's numbers fit. -/
import Derived.Test.YtbgipenonngccaaDoorT
namespace Go.Proofs.YtbgipenonngccaaDoor
open Go.RowKit

theorem four_at (w : World) (x0 x1 x2 x3 : Value) (t : TypeId) : (w.alloc (.cells #[x0, x1, x2, x3] t)).cell? ⟨w.heap.size, 0, none⟩ = some x0 ∧ (w.alloc (.cells #[x0, x1, x2, x3] t)).cell? ⟨w.heap.size, 1, none⟩ = some x1 ∧
    (w.alloc (.cells #[x0, x1, x2, x3] t)).cell? ⟨w.heap.size, 2, none⟩ = some x2 ∧ (w.alloc (.cells #[x0, x1, x2, x3] t)).cell? ⟨w.heap.size, 3, none⟩ = some x3 := by
  have h := World.alloc_heap_new w (.cells #[x0, x1, x2, x3] t)
  refine ⟨?_, ?_, ?_, ?_⟩ <;> (simp only [World.cell?, h]; rfl)
theorem code_some {k : Nat} {l x : List Int} (hn : l.length ≤ 4096) (h : nms k l = some x) : code k l = some ((k : Int) :: (bs l.length ++ zbs x)) := by
  unfold code; rw [if_pos hn, h]; rfl
theorem code_nil {k : Nat} {l : List Int} (h : nms k l = none) : code k l = none := by
  unfold code; rw [h]; split <;> rfl
theorem one_rd (w : World) (x : Int) : Rd .u8 (w.alloc (.cells #[.int .u8 x] 5)) (some ⟨w.heap.size, 0, none⟩) [x] := by
  refine .inr ⟨w.heap.size, 0, rfl, by simp, fun i hi => ?_⟩
  obtain rfl : i = 0 := by simp at hi; omega
  exact (Boxed.new w 5 (.int .u8 x)).cell

set_option maxHeartbeats 1600000 in
theorem as0 (a : Option Addr) (n cap : Nat) (l : List Int) (w : World) (hl : l.length = n) (hcap : n ≤ cap) (hmax : cap ≤ maxLen) (hrd : Rd .i64 w a l) (h64 : All64 l) (hF : Fw w) :
    Calls Tryd.prog 9 #[.int .i64 0, .slice a n cap] w (AsIs 0 l w) := by
  unfold maxLen at hmax
  obtain ⟨_, c0, c1, c2, c3⟩ := hF
  have HR : Hid (Rd .i64 w a l ∧ l.length = n) := ⟨hrd, hl⟩
  have H64 : Hid (All64 l) := h64
  have Hm : Hid (∀ b, Hid (b = decide (1 ≤ n ∧ n ≤ 4096)) → _) := fun b hb => mayHave0 n b hb (by omega) w c0
  clear hrd hl h64 c0 c1 c2 c3
  have hu : IntKind.u64.wrap (n : Int) = (n : Int) := by rw [IntKind.wrap_u64]; omega
  obtain ⟨b, hb⟩ : ∃ b, Hid (b = decide (1 ≤ n ∧ n ≤ 4096)) := ⟨_, rfl⟩
  go_enter Tryd.func9, Tryd.ntmps9
  go_wp2_with fail
  refine (Hm.out b hb).mono ?_
  rintro r w1 ⟨rfl, rfl⟩
  cases b with
  | false =>
    go_wp2_with fail
    go_ret2
    refine ⟨.inr ⟨?_, rfl⟩, Below.refl _ _⟩
    refine code_none (k := 0) (by decide) ?_
    rw [HR.out.2]
    exact of_decide_eq_false hb.out.symm
  | true =>
    have hbn : 1 ≤ n ∧ n ≤ 4096 := of_decide_eq_true hb.out.symm
    go_wp2_with fail
    have hc := (four_at w1 (.func (.func 20) #[.slice a n cap] #[]) (.func (.func 21) #[.slice a n cap] #[]) (.func (.func 22) #[.slice a n cap] #[]) (.func (.func 23) #[.slice a n cap] #[]) 45).1
    have hb1 : Below w1.heap.size w1 (w1.alloc (.cells #[.func (.func 20) #[.slice a n cap] #[], .func (.func 21) #[.slice a n cap] #[], .func (.func 22) #[.slice a n cap] #[], .func (.func 23) #[.slice a n cap] #[]] 45)) := (Below.refl _ _).alloc (Nat.le_refl _) _
    refine (made0 a n cap l _ w1.heap.size hc (alike_any a n cap l _ HR.out.2 (by omega) (by omega) hcap (HR.out.1.below hb1))).mono ?_
    clear hc
    generalize w1.alloc (.cells #[.func (.func 20) #[.slice a n cap] #[], .func (.func 21) #[.slice a n cap] #[], .func (.func 22) #[.slice a n cap] #[], .func (.func 23) #[.slice a n cap] #[]] 45) = w2 at *
    rintro r w3 ⟨⟨x, v, h1, rfl, h2⟩ | ⟨h1, rfl⟩, hb3⟩
    · have hb13 : Below w1.heap.size w1 w3 := hb1.trans (hb3.mono hb1.size)
      obtain ⟨g, off, cp, rfl, hg, _, _, hx⟩ := h2
      have HX : Hid (nms 0 l = some x ∧ Rd .i64 w3 (some ⟨g, off, none⟩) x) := ⟨h1, .inr ⟨g, off, rfl, hg, hx⟩⟩
      clear hb3 h1 hx
      go_wp2_with fail
      refine (put_any (some ⟨w3.heap.size, 0, none⟩) 1 1 [0] n _ (by omega) rfl (one_rd w3 0) (by omega)).mono ?_
      rintro r w4 ⟨v', rfl, ho, hb4⟩
      have hb34 : Below w3.heap.size w3 w4 := ((Below.refl _ _).alloc (Nat.le_refl _) _).trans (hb4.mono (by simp))
      obtain ⟨av, cv, rfl, hrv⟩ := own_form ho
      have HO : Hid (Rd .u8 w4 av ([0] ++ bs n)) := hrv
      have hbl := bs_le10 (show n < 18446744073709551616 by omega)
      have HXL := nms_all H64.out HX.out.1
      have hxl : x.length ≤ 4096 := by have := HXL.2; rw [HR.out.2] at this; omega
      have HX2 : Hid _ := HXL.1
      clear ho hb4 HXL hrv
      go_wp2_with fail
      refine (putall_any av (1 + (bs n).length) cv ([0] ++ bs n) (some ⟨g, off, none⟩) x.length cp x w4 (by simp; omega) HO.out (by omega) rfl (by omega) (HX.out.2.below hb34) HX2.out).mono ?_
      rintro r w5 ⟨g5, c5, rfl, ho5, hb5⟩
      have H5 : Hid _ := ho5
      clear ho5
      go_wp2_with fail
      go_ret2
      have hcode : code 0 l = some ((0 : Int) :: (bs n ++ zbs x)) := by
        rw [code_some (by rw [HR.out.2]; omega) HX.out.1, HR.out.2]; rfl
      have hcl : ((0 : Int) :: (bs n ++ zbs x)).length = 1 + (bs n).length + (zbs x).length := by simp; omega
      refine ⟨.inl ⟨(0 : Int) :: (bs n ++ zbs x), g5, c5, hcode, by rw [hcl]; rfl, ?_⟩, hb13.trans ((hb34.trans (hb5.mono hb34.size)).mono hb13.size)⟩
      rw [hcl]
      exact own_mono H5.out (Nat.le_trans hb13.size hb34.size)
    · have hb13 : Below w1.heap.size w1 w3 := hb1.trans (hb3.mono hb1.size)
      go_wp2_with fail
      go_ret2
      exact ⟨.inr ⟨code_nil (k := 0) h1, rfl⟩, hb13⟩

set_option maxHeartbeats 1600000 in
theorem as1 (a : Option Addr) (n cap : Nat) (l : List Int) (w : World) (hl : l.length = n) (hcap : n ≤ cap) (hmax : cap ≤ maxLen) (hrd : Rd .i64 w a l) (h64 : All64 l) (hF : Fw w) :
    Calls Tryd.prog 9 #[.int .i64 1, .slice a n cap] w (AsIs 1 l w) := by
  unfold maxLen at hmax
  obtain ⟨_, c0, c1, c2, c3⟩ := hF
  have HR : Hid (Rd .i64 w a l ∧ l.length = n) := ⟨hrd, hl⟩
  have H64 : Hid (All64 l) := h64
  have Hm : Hid (∀ b, Hid (b = decide (2 ≤ n ∧ n ≤ 4096)) → _) := fun b hb => mayHave1 n b hb (by omega) w c1
  clear hrd hl h64 c0 c1 c2 c3
  have hu : IntKind.u64.wrap (n : Int) = (n : Int) := by rw [IntKind.wrap_u64]; omega
  obtain ⟨b, hb⟩ : ∃ b, Hid (b = decide (2 ≤ n ∧ n ≤ 4096)) := ⟨_, rfl⟩
  go_enter Tryd.func9, Tryd.ntmps9
  go_wp2_with fail
  refine (Hm.out b hb).mono ?_
  rintro r w1 ⟨rfl, rfl⟩
  cases b with
  | false =>
    go_wp2_with fail
    go_ret2
    refine ⟨.inr ⟨?_, rfl⟩, Below.refl _ _⟩
    refine code_none (k := 1) (by decide) ?_
    rw [HR.out.2]
    exact of_decide_eq_false hb.out.symm
  | true =>
    have hbn : 2 ≤ n ∧ n ≤ 4096 := of_decide_eq_true hb.out.symm
    go_wp2_with fail
    have hc := (four_at w1 (.func (.func 20) #[.slice a n cap] #[]) (.func (.func 21) #[.slice a n cap] #[]) (.func (.func 22) #[.slice a n cap] #[]) (.func (.func 23) #[.slice a n cap] #[]) 45).2.1
    have hb1 : Below w1.heap.size w1 (w1.alloc (.cells #[.func (.func 20) #[.slice a n cap] #[], .func (.func 21) #[.slice a n cap] #[], .func (.func 22) #[.slice a n cap] #[], .func (.func 23) #[.slice a n cap] #[]] 45)) := (Below.refl _ _).alloc (Nat.le_refl _) _
    refine (made1 a n cap l _ w1.heap.size hc (even_any a n cap l _ HR.out.2 (by omega) (by omega) hcap (HR.out.1.below hb1))).mono ?_
    clear hc
    generalize w1.alloc (.cells #[.func (.func 20) #[.slice a n cap] #[], .func (.func 21) #[.slice a n cap] #[], .func (.func 22) #[.slice a n cap] #[], .func (.func 23) #[.slice a n cap] #[]] 45) = w2 at *
    rintro r w3 ⟨⟨x, v, h1, rfl, h2⟩ | ⟨h1, rfl⟩, hb3⟩
    · have hb13 : Below w1.heap.size w1 w3 := hb1.trans (hb3.mono hb1.size)
      obtain ⟨g, off, cp, rfl, hg, _, _, hx⟩ := h2
      have HX : Hid (nms 1 l = some x ∧ Rd .i64 w3 (some ⟨g, off, none⟩) x) := ⟨h1, .inr ⟨g, off, rfl, hg, hx⟩⟩
      clear hb3 h1 hx
      go_wp2_with fail
      refine (put_any (some ⟨w3.heap.size, 0, none⟩) 1 1 [1] n _ (by omega) rfl (one_rd w3 1) (by omega)).mono ?_
      rintro r w4 ⟨v', rfl, ho, hb4⟩
      have hb34 : Below w3.heap.size w3 w4 := ((Below.refl _ _).alloc (Nat.le_refl _) _).trans (hb4.mono (by simp))
      obtain ⟨av, cv, rfl, hrv⟩ := own_form ho
      have HO : Hid (Rd .u8 w4 av ([1] ++ bs n)) := hrv
      have hbl := bs_le10 (show n < 18446744073709551616 by omega)
      have HXL := nms_all H64.out HX.out.1
      have hxl : x.length ≤ 4096 := by have := HXL.2; rw [HR.out.2] at this; omega
      have HX2 : Hid _ := HXL.1
      clear ho hb4 HXL hrv
      go_wp2_with fail
      refine (putall_any av (1 + (bs n).length) cv ([1] ++ bs n) (some ⟨g, off, none⟩) x.length cp x w4 (by simp; omega) HO.out (by omega) rfl (by omega) (HX.out.2.below hb34) HX2.out).mono ?_
      rintro r w5 ⟨g5, c5, rfl, ho5, hb5⟩
      have H5 : Hid _ := ho5
      clear ho5
      go_wp2_with fail
      go_ret2
      have hcode : code 1 l = some ((1 : Int) :: (bs n ++ zbs x)) := by
        rw [code_some (by rw [HR.out.2]; omega) HX.out.1, HR.out.2]; rfl
      have hcl : ((1 : Int) :: (bs n ++ zbs x)).length = 1 + (bs n).length + (zbs x).length := by simp; omega
      refine ⟨.inl ⟨(1 : Int) :: (bs n ++ zbs x), g5, c5, hcode, by rw [hcl]; rfl, ?_⟩, hb13.trans ((hb34.trans (hb5.mono hb34.size)).mono hb13.size)⟩
      rw [hcl]
      exact own_mono H5.out (Nat.le_trans hb13.size hb34.size)
    · have hb13 : Below w1.heap.size w1 w3 := hb1.trans (hb3.mono hb1.size)
      go_wp2_with fail
      go_ret2
      exact ⟨.inr ⟨code_nil (k := 1) h1, rfl⟩, hb13⟩

set_option maxHeartbeats 1600000 in
theorem as2 (a : Option Addr) (n cap : Nat) (l : List Int) (w : World) (hl : l.length = n) (hcap : n ≤ cap) (hmax : cap ≤ maxLen) (hrd : Rd .i64 w a l) (h64 : All64 l) (hF : Fw w) :
    Calls Tryd.prog 9 #[.int .i64 2, .slice a n cap] w (AsIs 2 l w) := by
  unfold maxLen at hmax
  obtain ⟨_, c0, c1, c2, c3⟩ := hF
  have HR : Hid (Rd .i64 w a l ∧ l.length = n) := ⟨hrd, hl⟩
  have H64 : Hid (All64 l) := h64
  have Hm : Hid (∀ b, Hid (b = decide (0 ≤ n ∧ n ≤ 4096)) → _) := fun b hb => mayHave2 n b hb (by omega) w c2
  clear hrd hl h64 c0 c1 c2 c3
  have hu : IntKind.u64.wrap (n : Int) = (n : Int) := by rw [IntKind.wrap_u64]; omega
  obtain ⟨b, hb⟩ : ∃ b, Hid (b = decide (0 ≤ n ∧ n ≤ 4096)) := ⟨_, rfl⟩
  go_enter Tryd.func9, Tryd.ntmps9
  go_wp2_with fail
  refine (Hm.out b hb).mono ?_
  rintro r w1 ⟨rfl, rfl⟩
  cases b with
  | false =>
    go_wp2_with fail
    go_ret2
    refine ⟨.inr ⟨?_, rfl⟩, Below.refl _ _⟩
    refine code_none (k := 2) (by decide) ?_
    rw [HR.out.2]
    exact of_decide_eq_false hb.out.symm
  | true =>
    have hbn : 0 ≤ n ∧ n ≤ 4096 := of_decide_eq_true hb.out.symm
    go_wp2_with fail
    have hc := (four_at w1 (.func (.func 20) #[.slice a n cap] #[]) (.func (.func 21) #[.slice a n cap] #[]) (.func (.func 22) #[.slice a n cap] #[]) (.func (.func 23) #[.slice a n cap] #[]) 45).2.2.1
    have hb1 : Below w1.heap.size w1 (w1.alloc (.cells #[.func (.func 20) #[.slice a n cap] #[], .func (.func 21) #[.slice a n cap] #[], .func (.func 22) #[.slice a n cap] #[], .func (.func 23) #[.slice a n cap] #[]] 45)) := (Below.refl _ _).alloc (Nat.le_refl _) _
    refine (made2 a n cap l _ w1.heap.size hc (steps_any a n cap l _ HR.out.2 (by omega) (HR.out.1.below hb1))).mono ?_
    clear hc
    generalize w1.alloc (.cells #[.func (.func 20) #[.slice a n cap] #[], .func (.func 21) #[.slice a n cap] #[], .func (.func 22) #[.slice a n cap] #[], .func (.func 23) #[.slice a n cap] #[]] 45) = w2 at *
    rintro r w3 ⟨⟨x, v, h1, rfl, h2⟩ | ⟨h1, rfl⟩, hb3⟩
    · have hb13 : Below w1.heap.size w1 w3 := hb1.trans (hb3.mono hb1.size)
      obtain ⟨g, off, cp, rfl, hg, _, _, hx⟩ := h2
      have HX : Hid (nms 2 l = some x ∧ Rd .i64 w3 (some ⟨g, off, none⟩) x) := ⟨h1, .inr ⟨g, off, rfl, hg, hx⟩⟩
      clear hb3 h1 hx
      go_wp2_with fail
      refine (put_any (some ⟨w3.heap.size, 0, none⟩) 1 1 [2] n _ (by omega) rfl (one_rd w3 2) (by omega)).mono ?_
      rintro r w4 ⟨v', rfl, ho, hb4⟩
      have hb34 : Below w3.heap.size w3 w4 := ((Below.refl _ _).alloc (Nat.le_refl _) _).trans (hb4.mono (by simp))
      obtain ⟨av, cv, rfl, hrv⟩ := own_form ho
      have HO : Hid (Rd .u8 w4 av ([2] ++ bs n)) := hrv
      have hbl := bs_le10 (show n < 18446744073709551616 by omega)
      have HXL := nms_all H64.out HX.out.1
      have hxl : x.length ≤ 4096 := by have := HXL.2; rw [HR.out.2] at this; omega
      have HX2 : Hid _ := HXL.1
      clear ho hb4 HXL hrv
      go_wp2_with fail
      refine (putall_any av (1 + (bs n).length) cv ([2] ++ bs n) (some ⟨g, off, none⟩) x.length cp x w4 (by simp; omega) HO.out (by omega) rfl (by omega) (HX.out.2.below hb34) HX2.out).mono ?_
      rintro r w5 ⟨g5, c5, rfl, ho5, hb5⟩
      have H5 : Hid _ := ho5
      clear ho5
      go_wp2_with fail
      go_ret2
      have hcode : code 2 l = some ((2 : Int) :: (bs n ++ zbs x)) := by
        rw [code_some (by rw [HR.out.2]; omega) HX.out.1, HR.out.2]; rfl
      have hcl : ((2 : Int) :: (bs n ++ zbs x)).length = 1 + (bs n).length + (zbs x).length := by simp; omega
      refine ⟨.inl ⟨(2 : Int) :: (bs n ++ zbs x), g5, c5, hcode, by rw [hcl]; rfl, ?_⟩, hb13.trans ((hb34.trans (hb5.mono hb34.size)).mono hb13.size)⟩
      rw [hcl]
      exact own_mono H5.out (Nat.le_trans hb13.size hb34.size)
    · have hb13 : Below w1.heap.size w1 w3 := hb1.trans (hb3.mono hb1.size)
      go_wp2_with fail
      go_ret2
      exact ⟨.inr ⟨code_nil (k := 2) h1, rfl⟩, hb13⟩

set_option maxHeartbeats 1600000 in
theorem as3 (a : Option Addr) (n cap : Nat) (l : List Int) (w : World) (hl : l.length = n) (hcap : n ≤ cap) (hmax : cap ≤ maxLen) (hrd : Rd .i64 w a l) (h64 : All64 l) (hF : Fw w) :
    Calls Tryd.prog 9 #[.int .i64 3, .slice a n cap] w (AsIs 3 l w) := by
  unfold maxLen at hmax
  obtain ⟨_, c0, c1, c2, c3⟩ := hF
  have HR : Hid (Rd .i64 w a l ∧ l.length = n) := ⟨hrd, hl⟩
  have H64 : Hid (All64 l) := h64
  have Hm : Hid (∀ b, Hid (b = decide (2 ≤ n ∧ n ≤ 4096)) → _) := fun b hb => mayHave3 n b hb (by omega) w c3
  clear hrd hl h64 c0 c1 c2 c3
  have hu : IntKind.u64.wrap (n : Int) = (n : Int) := by rw [IntKind.wrap_u64]; omega
  obtain ⟨b, hb⟩ : ∃ b, Hid (b = decide (2 ≤ n ∧ n ≤ 4096)) := ⟨_, rfl⟩
  go_enter Tryd.func9, Tryd.ntmps9
  go_wp2_with fail
  refine (Hm.out b hb).mono ?_
  rintro r w1 ⟨rfl, rfl⟩
  cases b with
  | false =>
    go_wp2_with fail
    go_ret2
    refine ⟨.inr ⟨?_, rfl⟩, Below.refl _ _⟩
    refine code_none (k := 3) (by decide) ?_
    rw [HR.out.2]
    exact of_decide_eq_false hb.out.symm
  | true =>
    have hbn : 2 ≤ n ∧ n ≤ 4096 := of_decide_eq_true hb.out.symm
    go_wp2_with fail
    have hc := (four_at w1 (.func (.func 20) #[.slice a n cap] #[]) (.func (.func 21) #[.slice a n cap] #[]) (.func (.func 22) #[.slice a n cap] #[]) (.func (.func 23) #[.slice a n cap] #[]) 45).2.2.2
    have hb1 : Below w1.heap.size w1 (w1.alloc (.cells #[.func (.func 20) #[.slice a n cap] #[], .func (.func 21) #[.slice a n cap] #[], .func (.func 22) #[.slice a n cap] #[], .func (.func 23) #[.slice a n cap] #[]] 45)) := (Below.refl _ _).alloc (Nat.le_refl _) _
    refine (made3 a n cap l _ w1.heap.size hc (bends_any a n cap l _ HR.out.2 (by omega) (by omega) (HR.out.1.below hb1))).mono ?_
    clear hc
    generalize w1.alloc (.cells #[.func (.func 20) #[.slice a n cap] #[], .func (.func 21) #[.slice a n cap] #[], .func (.func 22) #[.slice a n cap] #[], .func (.func 23) #[.slice a n cap] #[]] 45) = w2 at *
    rintro r w3 ⟨⟨x, v, h1, rfl, h2⟩ | ⟨h1, rfl⟩, hb3⟩
    · have hb13 : Below w1.heap.size w1 w3 := hb1.trans (hb3.mono hb1.size)
      obtain ⟨g, off, cp, rfl, hg, _, _, hx⟩ := h2
      have HX : Hid (nms 3 l = some x ∧ Rd .i64 w3 (some ⟨g, off, none⟩) x) := ⟨h1, .inr ⟨g, off, rfl, hg, hx⟩⟩
      clear hb3 h1 hx
      go_wp2_with fail
      refine (put_any (some ⟨w3.heap.size, 0, none⟩) 1 1 [3] n _ (by omega) rfl (one_rd w3 3) (by omega)).mono ?_
      rintro r w4 ⟨v', rfl, ho, hb4⟩
      have hb34 : Below w3.heap.size w3 w4 := ((Below.refl _ _).alloc (Nat.le_refl _) _).trans (hb4.mono (by simp))
      obtain ⟨av, cv, rfl, hrv⟩ := own_form ho
      have HO : Hid (Rd .u8 w4 av ([3] ++ bs n)) := hrv
      have hbl := bs_le10 (show n < 18446744073709551616 by omega)
      have HXL := nms_all H64.out HX.out.1
      have hxl : x.length ≤ 4096 := by have := HXL.2; rw [HR.out.2] at this; omega
      have HX2 : Hid _ := HXL.1
      clear ho hb4 HXL hrv
      go_wp2_with fail
      refine (putall_any av (1 + (bs n).length) cv ([3] ++ bs n) (some ⟨g, off, none⟩) x.length cp x w4 (by simp; omega) HO.out (by omega) rfl (by omega) (HX.out.2.below hb34) HX2.out).mono ?_
      rintro r w5 ⟨g5, c5, rfl, ho5, hb5⟩
      have H5 : Hid _ := ho5
      clear ho5
      go_wp2_with fail
      go_ret2
      have hcode : code 3 l = some ((3 : Int) :: (bs n ++ zbs x)) := by
        rw [code_some (by rw [HR.out.2]; omega) HX.out.1, HR.out.2]; rfl
      have hcl : ((3 : Int) :: (bs n ++ zbs x)).length = 1 + (bs n).length + (zbs x).length := by simp; omega
      refine ⟨.inl ⟨(3 : Int) :: (bs n ++ zbs x), g5, c5, hcode, by rw [hcl]; rfl, ?_⟩, hb13.trans ((hb34.trans (hb5.mono hb34.size)).mono hb13.size)⟩
      rw [hcl]
      exact own_mono H5.out (Nat.le_trans hb13.size hb34.size)
    · have hb13 : Below w1.heap.size w1 w3 := hb1.trans (hb3.mono hb1.size)
      go_wp2_with fail
      go_ret2
      exact ⟨.inr ⟨code_nil (k := 3) h1, rfl⟩, hb13⟩

theorem as_any (k : Int) (a : Option Addr) (n cap : Nat) (l : List Int) (w : World) (hl : l.length = n) (hcap : n ≤ cap) (hmax : cap ≤ maxLen) (hrd : Rd .i64 w a l) (h64 : All64 l) (hF : Fw w) :
    Calls Tryd.prog 9 #[.int .i64 k, .slice a n cap] w (AsIs k l w) := by
  by_cases h0 : k < 0
  · go_enter Tryd.func9, Tryd.ntmps9
    go_wp2
    go_ret2
    exact ⟨.inr ⟨if_pos h0, rfl⟩, Below.refl _ _⟩
  · by_cases h4 : 4 ≤ k
    · go_enter Tryd.func9, Tryd.ntmps9
      go_wp2
      go_ret2
      refine ⟨.inr ⟨(if_neg (by omega)).trans (code_nil ?_), rfl⟩, Below.refl _ _⟩
      obtain ⟨j, hj⟩ : ∃ j, k.toNat = j + 4 := ⟨k.toNat - 4, by omega⟩
      rw [hj]; rfl
    · have : k = 0 ∨ k = 1 ∨ k = 2 ∨ k = 3 := by omega
      rcases this with rfl | rfl | rfl | rfl
      · exact as0 a n cap l w hl hcap hmax hrd h64 hF
      · exact as1 a n cap l w hl hcap hmax hrd h64 hF
      · exact as2 a n cap l w hl hcap hmax hrd h64 hF
      · exact as3 a n cap l w hl hcap hmax hrd h64 hF
end Go.Proofs.YtbgipenonngccaaDoor
