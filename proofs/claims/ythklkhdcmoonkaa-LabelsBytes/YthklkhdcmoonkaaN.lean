/- The contracts of pairs and of the library's Equal of labels. Conditions: sizes. -/
import Derived.Test.YthklkhdcmoonkaaM
namespace Go.Proofs.Ythklkhdcmoonkaa
open Go.RowKit

theorem E_append_ne (s r : List Int) : E s ++ r ≠ [] := by
  intro h; have h1 := congrArg List.length h; have h2 := E_pos s; rw [List.length_append, List.length_nil] at h1; omega
theorem prsA_step (f : Nat) (acc : List Lb) (s t r : List Int) (hs : Bytes s) (ht : Bytes t) : prsA (f + 1) acc (E s ++ (E t ++ r)) = prsA f (acc ++ [(strOfNums s, strOfNums t)]) r := by
  have c1 := cut_E s (E t ++ r) hs
  have c2 := cut_E t r ht
  have d1 : (E s ++ (E t ++ r)).drop (E s).length = E t ++ r := by simp
  have d2 : (E t ++ r).drop (E t).length = r := by simp
  rw [prsA, if_neg (E_append_ne s _), c1]
  simp only [d1, c2, d2, ne_eq, not_true_eq_false, if_false]
theorem prsA_err1 (f : Nat) (acc : List Lb) {b : List Int} {x : Int} (hb : b ≠ []) (h : cut b = (x, [], 0)) (hx : x ≠ 0) : prsA (f + 1) acc b = (x, []) := by
  rw [prsA, if_neg hb, h]; simp only; rw [if_pos hx]
theorem prsA_err2 (f : Nat) (acc : List Lb) {s r : List Int} {x : Int} (hs : Bytes s) (h : cut r = (x, [], 0)) (hx : x ≠ 0) : prsA (f + 1) acc (E s ++ r) = (x, []) := by
  have c1 := cut_E s r hs
  have d1 : (E s ++ r).drop (E s).length = r := by simp
  rw [prsA, if_neg (E_append_ne s _), c1]
  simp only [d1, h, ne_eq, not_true_eq_false, if_false]
  rw [if_pos hx]
theorem rst_E {s r : List Int} (hs : Bytes s) : rst (E s ++ r) = r := by
  unfold rst; rw [cut_E s r hs]; simp
def lenOf (v : Value) : Nat := match v with | .slice _ n _ => n | _ => 0
/-- What pairs tells. -/
def Prd (w : World) (zs : List Int) (e : Ending) (w' : World) : Prop :=
  ∃ v, e = .returned (.tuple #[v, .int .i64 (prs zs).1]) ∧ w'.ownsRow w.heap.size 44 2 v (prs zs).2.length (cls (prs zs).2) ∧ Below w.heap.size w w'
theorem prd_err {w w' : World} {zs : List Int} {x : Int} (h : prs zs = (x, [])) (hb : Below w.heap.size w w') : Prd w zs (.returned (.tuple #[.slice none 0 0, .int .i64 x])) w' := by
  refine ⟨_, by rw [h], ?_, hb⟩
  rw [h]; exact World.ownsRow_nil _ _ _ _
theorem strs_one (n v : ByteArray) : ∀ u ∈ [Value.string n, Value.string v], u.oneCell' = true := by
  intro u hu; simp at hu; rcases hu with rfl | rfl <;> rfl

set_option maxRecDepth 20000 in
set_option maxHeartbeats 4000000 in
theorem pairs_any (a : Option Addr) (len cap : Nat) (zs : List Int) (w : World) (hI : IsI .u8 w a len cap zs) (hby : Bytes zs) (hlen : len ≤ 10000) : Calls Try.prog 35 #[.slice a len cap] w (Prd w zs) := by
  obtain ⟨i0, hi, hz0, hz1, hz2⟩ := info_parts Try.info44
  have HI : Hid (IsI .u8 w a len cap zs ∧ Bytes zs) := ⟨hI, hby⟩
  clear hI hby
  go_enter Try.func35, Try.ntmps35
  go_wp2
  go_loopw [0, 4, 5, 6, 7, 8, 9] (fun b l _ _ _ _ _ wr => ∃ (a' : Option Addr) (len' cap' m f : Nat) (acc : List Lb) (bs : List Int), b = .slice a' len' cap' ∧ Hid (Sees w.heap.size w a' len' cap' bs ∧ Bytes bs ∧ prsA f acc bs = prs zs ∧ acc.length = m) ∧ len' ≤ f ∧ m + len' ≤ len ∧ Hid (wr.ownsRow w.heap.size 44 2 l m (cls acc)) ∧ Below w.heap.size w wr) (fun b _ _ _ _ _ _ _ => lenOf b)
  case atStart => exact ⟨a, len, cap, 0, len, [], zs, rfl, ⟨fun W h => HI.out.1.below h, HI.out.2, (by unfold prs; rw [HI.out.1.hl]), rfl⟩, Nat.le_refl _, by omega, World.ownsRow_nil _ _ _ _, Below.refl _ _⟩
  case round =>
    obtain ⟨a', len', cap', m, f, acc, bs, rfl, HB, hf, hml, HR, hbel⟩ := hrel
    have hbase := hbel.size
    by_cases hlt : 0 < len'
    · have hlt' : (0 : Int) < (len' : Int) := by omega
      obtain ⟨f, rfl⟩ : ∃ f', f = f' + 1 := ⟨f - 1, by omega⟩
      have hne : bs ≠ [] := fun h => by have := (HB.out.1 _ hbel).hl; rw [h] at this; simp at this; omega
      rcases cut_err bs with h | h | h
      · obtain ⟨s, r, hbs, hs, hc⟩ := cut_ok HB.out.2.1 h
        have hrb : Bytes r := fun x hx => HB.out.2.1 x (by rw [hbs]; exact List.mem_append_right _ hx)
        have hls : (E s).length + r.length = len' := by rw [← (HB.out.1 _ hbel).hl, hbs, List.length_append]
        have hE1 := E_pos s
        have HF : Hid (Calls Try.prog 37 #[.slice a' len' cap'] wr (Fst w.heap.size w wr bs)) := first_any w.heap.size w a' len' cap' bs wr HB.out.1 hbel hbase HB.out.2.1 (by omega)
        clear hne h
        go_wp2_with fail
        refine Calls.mono HF.out ?_
        rintro e w1 ⟨a1, m1, c1, rfl, hI1, hb1⟩
        rw [hc]
        have hrs : rst bs = r := by rw [hbs]; exact rst_E hs
        rw [hrs] at hI1
        have hm1 : m1 = r.length := (hI1 _ hbel).hl.symm
        obtain ⟨tn, htn⟩ : ∃ x, Hid (x = strOfNums s) := ⟨_, rfl⟩
        simp only [← htn.out]
        have H1 : Hid (Sees w.heap.size w a1 m1 c1 r ∧ Below wr.heap.size wr w1 ∧ bs = E s ++ r ∧ Bytes s ∧ Bytes r) := ⟨hI1, hb1, hbs, hs, hrb⟩
        rw [← hm1] at hls
        clear hI1 hb1 hbs hs hrb hrs hc HF hm1
        have hb1w : Below w.heap.size w w1 := hbel.trans (H1.out.2.1.mono hbase)
        have HF2 : Hid (Calls Try.prog 37 #[.slice a1 m1 c1] w1 (Fst w.heap.size w w1 r)) := first_any w.heap.size w a1 m1 c1 r w1 H1.out.1 hb1w hb1w.size H1.out.2.2.2.2 (by omega)
        go_wp2_with fail
        refine Calls.mono HF2.out ?_
        rintro e w2 ⟨a2, m2, c2, rfl, hI2, hb2⟩
        have hb2w : Below w.heap.size w w2 := hb1w.trans (hb2.mono hb1w.size)
        rcases cut_err r with h | h | h
        · obtain ⟨t, r2, hbs2, ht, hc2⟩ := cut_ok H1.out.2.2.2.2 h
          have hls2 : (E t).length + r2.length = m1 := by rw [← (H1.out.1 _ hbel).hl, hbs2, List.length_append]
          have hE2 := E_pos t
          rw [hc2]
          have hrs : rst r = r2 := by rw [hbs2]; exact rst_E ht
          rw [hrs] at hI2
          have hm2 : m2 = r2.length := (hI2 _ hbel).hl.symm
          have hrb2 : Bytes r2 := fun x hx => H1.out.2.2.2.2 x (by rw [hbs2]; exact List.mem_append_right _ hx)
          obtain ⟨tv, htv⟩ : ∃ x, Hid (x = strOfNums t) := ⟨_, rfl⟩
          simp only [← htv.out]
          have HP : Hid (prsA f (acc ++ [(tn, tv)]) r2 = prs zs) := by
            show _ = _
            rw [← HB.out.2.2.1, H1.out.2.2.1, hbs2, prsA_step f acc s t r2 H1.out.2.2.2.1 ht, htn.out, htv.out]
          have H2 : Hid (Sees w.heap.size w a2 m2 c2 r2 ∧ Bytes r2) := ⟨hI2, hrb2⟩
          have HR2 : Hid (w2.ownsRow w.heap.size 44 2 u4 m (cls acc)) := own_below (own_below HR.out H1.out.2.1) hb2
          rw [← hm2] at hls2
          clear hI2 hb2 hbs2 ht hrb2 hrs hc2 HF2 hm2 h
          have hb2s := hb2w.size
          go_wp2_with (at_builtin; refine wpList_append_own _ rfl (.tmp 31) (.tmp 35) 22 rfl w.heap.size 44 i0 _ 2 32 Try.underlying22 hi hz0 hz1 hz2 rfl (by decide) _ m _ rfl (HR2.out.alloc _) ⟨w2.heap.size, 0, none⟩ 1 1 [.string tn, .string tv] rfl rfl (two_at w2 _ _ _) (strs_one _ _) (by unfold maxLen; omega) (by omega) (by simp; omega) ?_; intro v3 w3 ho3 hg3 _)
          go_roundw
          case rel =>
            have hb3 : Below w.heap.size w w3 := (hb2w.alloc hb2s _).grown hg3 (by simp; omega) (fun j hj => (HR2.out.lt j hj).1)
            refine ⟨a2, m2, c2, m + 1, f, acc ++ [(tn, tv)], r2, rfl, ⟨H2.out.1, H2.out.2, HP.out, by simp [HB.out.2.2.2]⟩, by omega, by omega, ?_, hb3⟩
            · show World.ownsRow _ _ _ _ _ _ _
              rw [cls_append]; exact ho3
          case measure => simp [lenOf]; omega
        · have HP : Hid (prs zs = (10, [])) := by
            show _ = _
            rw [← HB.out.2.2.1, H1.out.2.2.1, prsA_err2 f acc H1.out.2.2.2.1 h (by decide)]
          rw [h]
          clear hI2 hb2 h HF2
          go_wp2_with fail
          go_ret2
          exact prd_err HP.out hb2w
        · have HP : Hid (prs zs = (11, [])) := by
            show _ = _
            rw [← HB.out.2.2.1, H1.out.2.2.1, prsA_err2 f acc H1.out.2.2.2.1 h (by decide)]
          rw [h]
          clear hI2 hb2 h HF2
          go_wp2_with fail
          go_ret2
          exact prd_err HP.out hb2w
      · have HP : Hid (prs zs = (10, [])) := by
          show _ = _
          rw [← HB.out.2.2.1, prsA_err1 f acc hne h (by decide)]
        have HF : Hid (Calls Try.prog 37 #[.slice a' len' cap'] wr (Fst w.heap.size w wr bs)) := first_any w.heap.size w a' len' cap' bs wr HB.out.1 hbel hbase HB.out.2.1 (by omega)
        have HH : Hid _ := h
        clear hne h
        go_wp2_with fail
        refine Calls.mono HF.out ?_
        rintro e w1 ⟨a1, m1, c1, rfl, _, hb1⟩
        rw [HH.out]
        go_wp2_with fail
        go_ret2
        exact prd_err HP.out (hbel.trans (hb1.mono hbase))
      · have HP : Hid (prs zs = (11, [])) := by
          show _ = _
          rw [← HB.out.2.2.1, prsA_err1 f acc hne h (by decide)]
        have HF : Hid (Calls Try.prog 37 #[.slice a' len' cap'] wr (Fst w.heap.size w wr bs)) := first_any w.heap.size w a' len' cap' bs wr HB.out.1 hbel hbase HB.out.2.1 (by omega)
        have HH : Hid _ := h
        clear hne h
        go_wp2_with fail
        refine Calls.mono HF.out ?_
        rintro e w1 ⟨a1, m1, c1, rfl, _, hb1⟩
        rw [HH.out]
        go_wp2_with fail
        go_ret2
        exact prd_err HP.out (hbel.trans (hb1.mono hbase))
    · have hlt' : ¬ (0 : Int) < (len' : Int) := by omega
      have hbs : bs = [] := List.eq_nil_of_length_eq_zero (by rw [(HB.out.1 _ hbel).hl]; omega)
      have HP : Hid (prs zs = (0, acc)) := by show _ = _; rw [← HB.out.2.2.1, hbs, prsA_nil]
      clear hbs
      go_wp2_with fail
      go_ret2
      refine ⟨_, by rw [HP.out]; rfl, ?_, hbel⟩
      rw [HP.out]
      have := HR.out
      rw [← HB.out.2.2.2] at this
      exact this
end Go.Proofs.Ythklkhdcmoonkaa
