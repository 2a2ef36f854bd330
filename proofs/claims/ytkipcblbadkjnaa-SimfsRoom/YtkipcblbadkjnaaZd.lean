/- What SimfsSwaps does, for every two contents and every crash. Conditions: those of each theorem. -/
import Derived.Test.YtkipcblbadkjnaaZc
namespace Go.Proofs.Ytkipcblbadkjnaa
open Go.RowKit

def LI : ByteArray := ⟨#[108, 105, 115, 116]⟩
def TM : ByteArray := ⟨#[108, 105, 115, 116, 46, 116, 109, 112]⟩
theorem li_tm : LI ≠ TM := by decide
theorem li_ne : LI ≠ ⟨#[]⟩ := by decide
theorem tm_ne : TM ≠ ⟨#[]⟩ := by decide
theorem li_size : LI.size ≤ maxLen := by decide
theorem tm_size : TM.size ≤ maxLen := by decide
def P1 (g : Nat) : ByteArray → Option Nat := fun s => if s = LI then some g else none
def P2 (g h : Nat) : ByteArray → Option Nat := fun s => if s = TM then some h else P1 g s
theorem chg_p1 (g : Nat) : chg (fun _ => none) [(⟨#[]⟩, LI, some g)] = P1 g := by
  funext s
  simp only [chg, List.foldl_cons, List.foldl_nil, chg1, if_neg li_ne, upd, P1]
  split
  · rfl
  · split <;> rfl
theorem chg_p2 (g h : Nat) : chg (P1 g) [(⟨#[]⟩, TM, some h)] = P2 g h := by
  funext s
  simp only [chg, List.foldl_cons, List.foldl_nil, chg1, if_neg tm_ne, upd, P2]
  split
  · rfl
  · split
    · rename_i e
      subst e
      simp [P1, Ne.symm li_ne]
    · rfl
theorem chg_p3 (g h : Nat) : chg (P2 g h) [(TM, LI, some h)] = P1 h := by
  funext s
  simp only [chg, List.foldl_cons, List.foldl_nil, chg1, if_neg li_ne, upd, P2, P1]
  by_cases e1 : s = LI
  · rw [if_pos e1, if_pos e1]
  · rw [if_neg e1, if_neg e1]
    by_cases e2 : s = TM
    · rw [if_pos e2, if_neg e1]
    · rw [if_neg e2, if_neg e2, if_neg e1]
theorem chg_p4 (g h : Nat) : chg (P1 g) [(⟨#[]⟩, TM, some h), (TM, LI, some h)] = P1 h := by
  rw [← chg_p3 g h, ← chg_p2 g h]
  rfl
theorem p1_li (g : Nat) : P1 g LI = some g := if_pos rfl
theorem p1_tm (g : Nat) : P1 g TM = none := if_neg (Ne.symm li_tm)
theorem p2_tm (g h : Nat) : P2 g h TM = some h := if_pos rfl
theorem p2_li (g h : Nat) : P2 g h LI = some g := (if_neg li_tm).trans (p1_li g)
theorem held_p1 {K : Nat → Prop} {g : Nat} (hk : K g) : Held (P1 g) 2 [(⟨g, hk⟩ : { g : Nat // K g })] := by
  refine ⟨by simp, fun k => ?_, by simp⟩
  simp only [List.mem_singleton]
  constructor
  · rintro rfl
    exact ⟨LI, p1_li g⟩
  · rintro ⟨s, hs⟩
    unfold P1 at hs
    split at hs
    · cases hs; rfl
    · cases hs
theorem held_p2 {K : Nat → Prop} {g h : Nat} (hk : K g) (hl : K h) (hne : g ≠ h) : Held (P2 g h) 2 [(⟨g, hk⟩ : { g : Nat // K g }), ⟨h, hl⟩] := by
  refine ⟨by simp [hne], fun k => ?_, by simp⟩
  simp only [List.mem_cons, List.not_mem_nil, or_false]
  constructor
  · rintro (rfl | rfl)
    · exact ⟨LI, p2_li g h⟩
    · exact ⟨TM, p2_tm g h⟩
  · rintro ⟨s, hs⟩
    unfold P2 P1 at hs
    split at hs
    · cases hs; exact .inr rfl
    · split at hs
      · cases hs; exact .inl rfl
      · cases hs
theorem rd_out {w0 : World} {a : Option Addr} {zs : List Int} {P : Nat → Prop} (h : Rd .u8 w0 a zs) (hP : ∀ k, P k → w0.heap.size ≤ k) : zs ≠ [] → Out P a := fun hne => by
  rcases h with e | ⟨b, off, rfl, hb, _⟩
  · exact absurd e hne
  · intro ad e hp
    cases e
    have := hP _ hp
    simp only at this
    omega
theorem cl_whole (n : Int) (bs : List Int) : (bs.take (cl n bs bs.length).toNat) = bs := by
  have := cl_bd n (bs := bs) (st := bs.length) ⟨by omega, by omega⟩
  exact List.take_of_length_le (by omega)

set_option linter.unusedSimpArgs false in
set_option maxRecDepth 100000 in
set_option maxHeartbeats 16000000 in
theorem simfsSwaps_walk (a0 a1 : Option Addr) (l0 m0 l1 m1 : Nat) (z0 z1 : List Int) (kd n by_ : Int) (p t : ByteArray) (ab : Option Addr) (lb cb : Nat) {w : World} (hz0 : z0.length = l0) (hz1 : z1.length = l1) (hr0 : Rd .u8 w a0 z0) (hr1 : Rd .u8 w a1 z1) (hn0 : a0 = none → m0 = 0 ∧ l0 = 0) (hn1 : a1 = none → m1 = 0 ∧ l1 = 0) :
    Calls Try.prog 5 #[.slice a0 l0 m0, .slice a1 l1 m1, .agg #[.int .i64 kd, .string p, .string t, .slice ab lb cb, .int .i64 n, .int .i64 by_]] w fun e w' => e = .returned (.bool true) ∧ Below w.heap.size w w' := by
  have hal : Below w.heap.size w (w.alloc (.cells #[.int .i64 kd, .string p, .string t, .slice ab lb cb, .int .i64 n, .int .i64 by_] 34)) := (Below.refl _ _).alloc (Nat.le_refl _) _
  have hc4 : (w.alloc (.cells #[.int .i64 kd, .string p, .string t, .slice ab lb cb, .int .i64 n, .int .i64 by_] 34)).cell? ⟨w.heap.size, 4, none⟩ = some (.int .i64 n) := by
    unfold World.cell?
    rw [show (w.alloc (.cells #[.int .i64 kd, .string p, .string t, .slice ab lb cb, .int .i64 n, .int .i64 by_] 34)).heap[w.heap.size]? = _ from heap_alloc_new w _]
    rfl
  have hc5 : (w.alloc (.cells #[.int .i64 kd, .string p, .string t, .slice ab lb cb, .int .i64 n, .int .i64 by_] 34)).cell? ⟨w.heap.size, 5, none⟩ = some (.int .i64 by_) := by
    unfold World.cell?
    rw [show (w.alloc (.cells #[.int .i64 kd, .string p, .string t, .slice ab lb cb, .int .i64 n, .int .i64 by_] 34)).heap[w.heap.size]? = _ from heap_alloc_new w _]
    rfl
  have hszb : (w.alloc (.cells #[.int .i64 kd, .string p, .string t, .slice ab lb cb, .int .i64 n, .int .i64 by_] 34)).heap.size = w.heap.size + 1 := by simp
  have HZ : Hid (z0.length = l0 ∧ z1.length = l1) := ⟨hz0, hz1⟩
  have HNN : Hid ((a0 = none → m0 = 0 ∧ l0 = 0) ∧ (a1 = none → m1 = 0 ∧ l1 = 0)) := ⟨hn0, hn1⟩
  have HR : Hid (Rd .u8 w a0 z0 ∧ Rd .u8 w a1 z1) := ⟨hr0, hr1⟩
  obtain ⟨wb, hwb⟩ : ∃ wb, Hid (wb = w.alloc (.cells #[.int .i64 kd, .string p, .string t, .slice ab lb cb, .int .i64 n, .int .i64 by_] 34)) := ⟨_, rfl⟩
  rw [← hwb.out] at hal hc4 hc5 hszb
  have HB : Hid (Below w.heap.size w wb ∧ wb.cell? ⟨w.heap.size, 4, none⟩ = some (.int .i64 n) ∧ wb.cell? ⟨w.heap.size, 5, none⟩ = some (.int .i64 by_) ∧ wb.heap.size = w.heap.size + 1) := ⟨hal, hc4, hc5, hszb⟩
  have HRB : Hid (Rd .u8 wb a0 z0 ∧ Rd .u8 wb a1 z1) := ⟨hr0.below hal, hr1.below hal⟩
  clear hal hc4 hc5 hszb hz0 hz1 hr0 hr1 hn0 hn1
  go_enter Try.func5, Try.ntmps5
  go_wp2_with fail
  rw [← hwb.out]
  refine (awake_any _).mono ?_
  rintro e w1 ⟨rfl, b1⟩
  have HB1 : Hid (Below wb.heap.size wb w1) := b1
  clear b1
  by_cases c0 : 200 < l0
  · have c0' : (200 : Int) < (l0 : Int) := by omega
    go_wp2_with fail
    go_ret
    exact ⟨rfl, HB.out.1.trans (HB1.out.mono (by have := HB.out.2.2.2; omega))⟩
  have c0' : ¬ (200 : Int) < (l0 : Int) := by omega
  by_cases c1 : 200 < l1
  · have c1' : (200 : Int) < (l1 : Int) := by omega
    go_wp2_with fail
    go_ret
    exact ⟨rfl, HB.out.1.trans (HB1.out.mono (by have := HB.out.2.2.2; omega))⟩
  have c1' : ¬ (200 : Int) < (l1 : Int) := by omega
  go_wp2_with fail
  refine Calls.mono (new_any _ _) ?_
  rintro e w2 ⟨rfl, hw2⟩
  rw [show wi 100000 16777216 = 100000 by decide] at hw2
  have HS2 : Hid (St w2 w1.heap.size (xnew 100000) 100000 0 (fun _ => none) (fun _ => none) []) := by rw [hw2]; exact st_new _ _
  have L2 : Hid (Lo w1 w2 w1.heap.size (xnew 100000)) := by rw [hw2]; exact Lo.new _ _
  clear hw2
  go_wp2_with fail
  refine Calls.mono (st_create (s := LI) HS2.out li_size (by decide) rfl (by decide)) ?_
  rintro e w3 ⟨rfl, x3, g, m3, hg3, h3, hb3, hs3, _⟩
  rw [chg_p1] at h3
  have HS3 : Hid (St w3 w1.heap.size x3 100000 2 (P1 g) (fun _ => none) [(⟨#[]⟩, LI, some g)]) := h3
  have L3 : Hid (Lo w1 w3 w1.heap.size x3) := L2.out.mv m3
  have HF3 : Hid (x3.bs g = [] ∧ x3.st g = 0) := ⟨hb3, hs3⟩
  clear h3 m3 hb3 hs3
  go_wp2_with fail
  refine Calls.mono (st_append (s := LI) HS3.out li_size (p1_li g) a0 l0 m0 z0 HZ.out.1 ((HRB.out.1.below HB1.out).below L3.out.be) (rd_out (HRB.out.1.below HB1.out) L3.out.ft) HNN.out.1 (by rw [HF3.out.1]; simp; omega) 2 _ (held_p1 (HS3.out.kg (p1_li g))) (by decide) (.inr (by simp [lens, HF3.out.1]; omega))) ?_
  rintro e w4 ⟨rfl, x4, m4, h4, hb4, hs4, _⟩
  have HS4 : Hid (St w4 w1.heap.size x4 100000 2 (P1 g) (fun _ => none) [(⟨#[]⟩, LI, some g)]) := h4
  have L4 : Hid (Lo w1 w4 w1.heap.size x4) := L3.out.mv m4
  have HF4 : Hid (x4.bs g = z0) := by rw [HF3.out.1] at hb4; exact hb4
  clear h4 m4 hb4 hs4
  go_wp2_with fail
  refine Calls.mono (st_sync (s := LI) HS4.out li_size (p1_li g)) ?_
  rintro e w5 ⟨rfl, x5, m5, h5, hb5, hs5, _⟩
  rw [HF4.out] at hb5 hs5
  have HS5 : Hid (St w5 w1.heap.size x5 100000 2 (P1 g) (fun _ => none) [(⟨#[]⟩, LI, some g)]) := h5
  have L5 : Hid (Lo w1 w5 w1.heap.size x5) := L4.out.mv m5
  have HF5 : Hid (x5.bs g = z0 ∧ x5.st g = z0.length) := ⟨hb5, hs5⟩
  clear h5 m5 hb5 hs5
  go_wp2_with fail
  refine Calls.mono (st_syncdir HS5.out) ?_
  rintro e w6 ⟨rfl, x6, m6, h6, hb6, hs6⟩
  have HS6 : Hid (St w6 w1.heap.size x6 100000 2 (P1 g) (P1 g) []) := h6
  have L6 : Hid (Lo w1 w6 w1.heap.size x6) := L5.out.mv m6
  have HF6 : Hid (x6.bs g = z0 ∧ x6.st g = z0.length) := ⟨by rw [hb6]; exact HF5.out.1, by rw [hs6]; exact HF5.out.2⟩
  clear h6 m6 hb6 hs6
  go_wp2_with fail
  refine Calls.mono (st_create (s := TM) HS6.out tm_size (by decide) (p1_tm g) (by decide)) ?_
  rintro e w7 ⟨rfl, x7, h, m7, hg7, h7, hb7, hs7, but7⟩
  rw [chg_p2] at h7
  have hgh : g ≠ h := by
    have := HS6.out.fw.lt (.inr (.inr (.inr (.inr (.inl (HS6.out.kg (p1_li g)))))))
    omega
  have HGH : Hid (g ≠ h) := hgh
  have HS7 : Hid (St w7 w1.heap.size x7 100000 4 (P2 g h) (P1 g) [(⟨#[]⟩, TM, some h)]) := h7
  have L7 : Hid (Lo w1 w7 w1.heap.size x7) := L6.out.mv m7
  have HF7 : Hid ((x7.bs g = z0 ∧ x7.st g = z0.length) ∧ x7.bs h = []) := ⟨⟨(but7 g hgh).1.trans HF6.out.1, (but7 g hgh).2.trans HF6.out.2⟩, hb7⟩
  clear h7 m7 hb7 hs7 but7 hgh
  go_wp2_with fail
  refine Calls.mono (st_append (s := TM) HS7.out tm_size (p2_tm g h) a1 l1 m1 z1 HZ.out.2 ((HRB.out.2.below HB1.out).below L7.out.be) (rd_out (HRB.out.2.below HB1.out) L7.out.ft) HNN.out.2 (by rw [HF7.out.2]; simp; omega) 2 _ (held_p2 (HS7.out.kg (p2_li g h)) (HS7.out.kg (p2_tm g h)) HGH.out) (by decide) (.inr (by have := HZ.out.1; simp [lens, HF7.out.2, HF7.out.1.1]; omega))) ?_
  rintro e w8 ⟨rfl, x8, m8, h8, hb8, hs8, but8⟩
  have HS8 : Hid (St w8 w1.heap.size x8 100000 4 (P2 g h) (P1 g) [(⟨#[]⟩, TM, some h)]) := h8
  have L8 : Hid (Lo w1 w8 w1.heap.size x8) := L7.out.mv m8
  have HF8 : Hid ((x8.bs g = z0 ∧ x8.st g = z0.length) ∧ x8.bs h = z1) := ⟨⟨(but8 g HGH.out).1.trans HF7.out.1.1, (but8 g HGH.out).2.trans HF7.out.1.2⟩, by rw [hb8, HF7.out.2]; rfl⟩
  clear h8 m8 hb8 hs8 but8
  go_wp2_with fail
  refine Calls.mono (st_sync (s := TM) HS8.out tm_size (p2_tm g h)) ?_
  rintro e w9 ⟨rfl, x9, m9, h9, hb9, hs9, but9⟩
  have HS9 : Hid (St w9 w1.heap.size x9 100000 4 (P2 g h) (P1 g) [(⟨#[]⟩, TM, some h)]) := h9
  have L9 : Hid (Lo w1 w9 w1.heap.size x9) := L8.out.mv m9
  have HF9 : Hid ((x9.bs g = z0 ∧ x9.st g = z0.length) ∧ x9.bs h = z1 ∧ x9.st h = z1.length) := ⟨⟨(but9 g HGH.out).1.trans HF8.out.1.1, (but9 g HGH.out).2.trans HF8.out.1.2⟩, by rw [hb9, HF8.out.2], by rw [hs9, HF8.out.2]⟩
  clear h9 m9 hb9 hs9 but9
  go_wp2_with fail
  refine Calls.mono (st_rename (s := TM) (t := LI) HS9.out tm_size li_size (p2_tm g h) (by decide) (by decide)) ?_
  rintro e w10 ⟨rfl, x10, m10, h10, hb10, hs10⟩
  rw [chg_p3] at h10
  have HS10 : Hid (St w10 w1.heap.size x10 100000 5 (P1 h) (P1 g) [(⟨#[]⟩, TM, some h), (TM, LI, some h)]) := h10
  have L10 : Hid (Lo w1 w10 w1.heap.size x10) := L9.out.mv m10
  have HF10 : Hid ((x10.bs g = z0 ∧ x10.st g = z0.length) ∧ x10.bs h = z1 ∧ x10.st h = z1.length) := by
    show (_ ∧ _) ∧ _ ∧ _
    rw [hb10, hs10]
    exact HF9.out
  clear h10 m10 hb10 hs10
  go_wp2_with fail
  refine Calls.mono (st_read (s := LI) HS10.out li_size (p1_li h)) ?_
  rw [HF10.out.2.1]
  rintro e w11 ⟨rfl, hr11, hlt11, hb11⟩
  have HS11 : Hid (St w11 w1.heap.size x10 100000 5 (P1 h) (P1 g) [(⟨#[]⟩, TM, some h), (TM, LI, some h)]) := HS10.out.below hb11
  have L11 : Hid (Lo w1 w11 w1.heap.size x10) := L10.out.below hb11
  have HR11 : Hid (Rd .u8 w11 (some ⟨w10.heap.size, 0, none⟩) z1 ∧ w10.heap.size < w11.heap.size ∧ ∀ k, foot w1.heap.size x10 k → k < w10.heap.size) := ⟨hr11, hlt11, fun k hk => HS10.out.fw.lt hk⟩
  have c4 : w11.cell? ⟨w.heap.size, 4, none⟩ = some (.int .i64 n) := by
    have q := HB.out.2.2.2
    exact (L11.out.be.cell (p := ⟨w.heap.size, 4, none⟩) (by have := HB1.out.size; show w.heap.size < _; omega)).trans ((HB1.out.cell (p := ⟨w.heap.size, 4, none⟩) (by show w.heap.size < _; omega)).trans HB.out.2.1)
  have c5 : w11.cell? ⟨w.heap.size, 5, none⟩ = some (.int .i64 by_) := by
    have q := HB.out.2.2.2
    exact (L11.out.be.cell (p := ⟨w.heap.size, 5, none⟩) (by have := HB1.out.size; show w.heap.size < _; omega)).trans ((HB1.out.cell (p := ⟨w.heap.size, 5, none⟩) (by show w.heap.size < _; omega)).trans HB.out.2.2.1)
  clear hr11 hlt11 hb11
  go_wp2_with fail
  refine Calls.mono (st_crash HS11.out n by_) ?_
  rintro e w12 ⟨rfl, x12, m12, h12, hf12⟩
  have HR12 : Hid (Rd .u8 w12 (some ⟨w10.heap.size, 0, none⟩) z1) := HR11.out.1.kp m12.kp (fun ad e hf => by cases e; have := HR11.out.2.2 _ hf; simp only at this; omega)
  have L12 : Hid (Lo w1 w12 w1.heap.size x12) := L11.out.mv m12
  have HF12 : Hid (x12.bs g = z0 ∧ x12.bs h = z1) := ⟨by rw [(hf12 g).1, HF10.out.1.1, HF10.out.1.2]; exact cl_whole _ _, by rw [(hf12 h).1, HF10.out.2.1, HF10.out.2.2]; exact cl_whole _ _⟩
  have H12 : Hid (St w12 w1.heap.size x12 100000 5 (chg (P1 g) ([(⟨#[]⟩, TM, some h), (TM, LI, some h)].take (wi n 2).toNat)) (chg (P1 g) ([(⟨#[]⟩, TM, some h), (TM, LI, some h)].take (wi n 2).toNat)) []) := h12
  clear m12 h12 hf12 c4 c5
  rcases (show n ≤ 0 ∨ n = 1 ∨ 2 ≤ n by omega) with hn | hn | hn
  · have hn2 : ¬ (2 : Int) ≤ n := by omega
    have hn3 : n < 2 := by omega
    have hn1 : n ≠ 1 := by omega
    have hpm : chg (P1 g) ([(⟨#[]⟩, TM, some h), (TM, LI, some h)].take (wi n 2).toNat) = P1 g := by
      have hw : wi n 2 = 0 := by
        unfold wi
        split
        · first | omega | (split <;> omega)
        · split <;> omega
      rw [hw]
      exact rfl
    have HS12 : Hid (St w12 w1.heap.size x12 100000 5 (P1 g) (P1 g) []) := by
      have := H12.out
      rw [hpm] at this
      exact this
    clear hpm
    go_wp2_with fail
    refine Calls.mono (st_read (s := LI) HS12.out li_size (p1_li g)) ?_
    rw [HF12.out.1]
    rintro e w13 ⟨rfl, hr13, hlt13, hb13⟩
    have HS13 : Hid (St w13 w1.heap.size x12 100000 5 (P1 g) (P1 g) []) := HS12.out.below hb13
    have L13 : Hid (Below w1.heap.size w1 w13) := (L12.out.below hb13).be
    have HR13 : Hid (Rd .u8 w13 (some ⟨w10.heap.size, 0, none⟩) z1) := HR12.out.below hb13
    have HX13 : Hid (Rd .u8 w13 (some ⟨w12.heap.size, 0, none⟩) z0) := hr13
    clear hr13 hlt13 hb13
    go_wp2_with fail
    refine Calls.mono (st_read_none (s := TM) HS13.out tm_size (p1_tm g)) ?_
    rintro e w14 ⟨rfl, rfl⟩
    have c4 : w14.cell? ⟨w.heap.size, 4, none⟩ = some (.int .i64 n) := by
      have q := HB.out.2.2.2
      exact (L13.out.cell (p := ⟨w.heap.size, 4, none⟩) (by have := HB1.out.size; show w.heap.size < _; omega)).trans ((HB1.out.cell (p := ⟨w.heap.size, 4, none⟩) (by show w.heap.size < _; omega)).trans HB.out.2.1)
    have v0 : Sem.run Try.prog (convert 32 9 (.slice a0 l0 m0)) w14 = .ok (.string (strOfNums z0)) w14 := conv_rd _ _ _ _ _ HZ.out.1 ((HRB.out.1.below HB1.out).below L13.out)
    have v1 : Sem.run Try.prog (convert 32 9 (.slice a1 l1 m1)) w14 = .ok (.string (strOfNums z1)) w14 := conv_rd _ _ _ _ _ HZ.out.2 ((HRB.out.2.below HB1.out).below L13.out)
    have vn : Sem.run Try.prog (convert 32 9 (.slice (some ⟨w10.heap.size, 0, none⟩) z1.length z1.length)) w14 = .ok (.string (strOfNums z1)) w14 := conv_rd _ _ _ _ _ rfl (HR13.out)
    have vx : Sem.run Try.prog (convert 32 9 (.slice (some ⟨w12.heap.size, 0, none⟩) z0.length z0.length)) w14 = .ok (.string (strOfNums z0)) w14 := conv_rd _ _ _ _ _ rfl (HX13.out)
    have BF : Hid (Below w.heap.size w w14) := HB.out.1.trans ((HB1.out.trans (L13.out.mono HB1.out.size)).mono (by have := HB.out.2.2.2; omega))
    generalize strOfNums z0 = s0 at v0 v1 vn vx
    generalize strOfNums z1 = s1 at v0 v1 vn vx
    go_wp2_with fail
    go_ret
    exact ⟨ret_bool (by simp [hn1]), BF.out⟩
  · subst hn
    have hpm : chg (P1 g) ([(⟨#[]⟩, TM, some h), (TM, LI, some h)].take (wi 1 2).toNat) = P2 g h := by
      have hw : wi 1 2 = 1 := by
        unfold wi
        split
        · first | omega | (split <;> omega)
        · split <;> omega
      rw [hw]
      exact chg_p2 g h
    have HS12 : Hid (St w12 w1.heap.size x12 100000 5 (P2 g h) (P2 g h) []) := by
      have := H12.out
      rw [hpm] at this
      exact this
    clear hpm
    go_wp2_with fail
    refine Calls.mono (st_read (s := LI) HS12.out li_size (p2_li g h)) ?_
    rw [HF12.out.1]
    rintro e w13 ⟨rfl, hr13, hlt13, hb13⟩
    have HS13 : Hid (St w13 w1.heap.size x12 100000 5 (P2 g h) (P2 g h) []) := HS12.out.below hb13
    have L13 : Hid (Below w1.heap.size w1 w13) := (L12.out.below hb13).be
    have HR13 : Hid (Rd .u8 w13 (some ⟨w10.heap.size, 0, none⟩) z1) := HR12.out.below hb13
    have HX13 : Hid (Rd .u8 w13 (some ⟨w12.heap.size, 0, none⟩) z0) := hr13
    clear hr13 hlt13 hb13
    go_wp2_with fail
    refine Calls.mono (st_read (s := TM) HS13.out tm_size (p2_tm g h)) ?_
    rintro e w14 ⟨rfl, hr14, hlt14, hb14⟩
    have L14 : Hid (Below w1.heap.size w1 w14) := L13.out.trans (hb14.mono L13.out.size)
    have HR14 : Hid (Rd .u8 w14 (some ⟨w10.heap.size, 0, none⟩) z1) := HR13.out.below hb14
    have HX14 : Hid (Rd .u8 w14 (some ⟨w12.heap.size, 0, none⟩) z0) := HX13.out.below hb14
    clear hr14 hlt14 hb14
    have c4 : w14.cell? ⟨w.heap.size, 4, none⟩ = some (.int .i64 1) := by
      have q := HB.out.2.2.2
      exact (L14.out.cell (p := ⟨w.heap.size, 4, none⟩) (by have := HB1.out.size; show w.heap.size < _; omega)).trans ((HB1.out.cell (p := ⟨w.heap.size, 4, none⟩) (by show w.heap.size < _; omega)).trans HB.out.2.1)
    have v0 : Sem.run Try.prog (convert 32 9 (.slice a0 l0 m0)) w14 = .ok (.string (strOfNums z0)) w14 := conv_rd _ _ _ _ _ HZ.out.1 ((HRB.out.1.below HB1.out).below L14.out)
    have v1 : Sem.run Try.prog (convert 32 9 (.slice a1 l1 m1)) w14 = .ok (.string (strOfNums z1)) w14 := conv_rd _ _ _ _ _ HZ.out.2 ((HRB.out.2.below HB1.out).below L14.out)
    have vn : Sem.run Try.prog (convert 32 9 (.slice (some ⟨w10.heap.size, 0, none⟩) z1.length z1.length)) w14 = .ok (.string (strOfNums z1)) w14 := conv_rd _ _ _ _ _ rfl (HR14.out)
    have vx : Sem.run Try.prog (convert 32 9 (.slice (some ⟨w12.heap.size, 0, none⟩) z0.length z0.length)) w14 = .ok (.string (strOfNums z0)) w14 := conv_rd _ _ _ _ _ rfl (HX14.out)
    have BF : Hid (Below w.heap.size w w14) := HB.out.1.trans ((HB1.out.trans (L14.out.mono HB1.out.size)).mono (by have := HB.out.2.2.2; omega))
    generalize strOfNums z0 = s0 at v0 v1 vn vx
    generalize strOfNums z1 = s1 at v0 v1 vn vx
    go_wp2_with fail
    go_ret
    exact ⟨rfl, BF.out⟩
  · have hn2 : (2 : Int) ≤ n := hn
    have hpm : chg (P1 g) ([(⟨#[]⟩, TM, some h), (TM, LI, some h)].take (wi n 2).toNat) = P1 h := by
      have hw : wi n 2 = 2 := by
        unfold wi
        split
        · first | omega | (split <;> omega)
        · split <;> omega
      rw [hw]
      exact chg_p4 g h
    have HS12 : Hid (St w12 w1.heap.size x12 100000 5 (P1 h) (P1 h) []) := by
      have := H12.out
      rw [hpm] at this
      exact this
    clear hpm
    go_wp2_with fail
    refine Calls.mono (st_read (s := LI) HS12.out li_size (p1_li h)) ?_
    rw [HF12.out.2]
    rintro e w13 ⟨rfl, hr13, hlt13, hb13⟩
    have HS13 : Hid (St w13 w1.heap.size x12 100000 5 (P1 h) (P1 h) []) := HS12.out.below hb13
    have L13 : Hid (Below w1.heap.size w1 w13) := (L12.out.below hb13).be
    have HR13 : Hid (Rd .u8 w13 (some ⟨w10.heap.size, 0, none⟩) z1) := HR12.out.below hb13
    have HX13 : Hid (Rd .u8 w13 (some ⟨w12.heap.size, 0, none⟩) z1) := hr13
    clear hr13 hlt13 hb13
    go_wp2_with fail
    refine Calls.mono (st_read_none (s := TM) HS13.out tm_size (p1_tm h)) ?_
    rintro e w14 ⟨rfl, rfl⟩
    have c4 : w14.cell? ⟨w.heap.size, 4, none⟩ = some (.int .i64 n) := by
      have q := HB.out.2.2.2
      exact (L13.out.cell (p := ⟨w.heap.size, 4, none⟩) (by have := HB1.out.size; show w.heap.size < _; omega)).trans ((HB1.out.cell (p := ⟨w.heap.size, 4, none⟩) (by show w.heap.size < _; omega)).trans HB.out.2.1)
    have v0 : Sem.run Try.prog (convert 32 9 (.slice a0 l0 m0)) w14 = .ok (.string (strOfNums z0)) w14 := conv_rd _ _ _ _ _ HZ.out.1 ((HRB.out.1.below HB1.out).below L13.out)
    have v1 : Sem.run Try.prog (convert 32 9 (.slice a1 l1 m1)) w14 = .ok (.string (strOfNums z1)) w14 := conv_rd _ _ _ _ _ HZ.out.2 ((HRB.out.2.below HB1.out).below L13.out)
    have vn : Sem.run Try.prog (convert 32 9 (.slice (some ⟨w10.heap.size, 0, none⟩) z1.length z1.length)) w14 = .ok (.string (strOfNums z1)) w14 := conv_rd _ _ _ _ _ rfl (HR13.out)
    have vx : Sem.run Try.prog (convert 32 9 (.slice (some ⟨w12.heap.size, 0, none⟩) z1.length z1.length)) w14 = .ok (.string (strOfNums z1)) w14 := conv_rd _ _ _ _ _ rfl (HX13.out)
    have BF : Hid (Below w.heap.size w w14) := HB.out.1.trans ((HB1.out.trans (L13.out.mono HB1.out.size)).mono (by have := HB.out.2.2.2; omega))
    generalize strOfNums z0 = s0 at v0 v1 vn vx
    generalize strOfNums z1 = s1 at v0 v1 vn vx
    go_wp2_with fail
    go_ret
    exact ⟨rfl, BF.out⟩
end Go.Proofs.Ytkipcblbadkjnaa
