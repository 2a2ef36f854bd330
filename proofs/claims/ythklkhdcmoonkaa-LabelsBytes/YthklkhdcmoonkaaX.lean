/- The contract of the document's own Unmarshal. Conditions: sizes. -/
import Derived.Test.YthklkhdcmoonkaaW
import Derived.Test.YthklkhdcmoonkaaO
namespace Go.Proofs.Ythklkhdcmoonkaa
open Go.RowKit

theorem sees_drop {B : Nat} {w0 : World} {g off len cap m : Nat} {zs r : List Int} (h : Sees B w0 (some ⟨g, off, none⟩) len cap (zs ++ r)) (hm : zs.length = m) (hc : ¬ cap = m) : Sees B w0 (some ⟨g, off + m, none⟩) (len - m) (cap - m) r := by
  intro W hW
  have hI := h W hW
  have hl := hI.hl
  rw [List.length_append] at hl
  have h1 := hI.hc
  have h2 := hI.hm
  have hr := hI.rd.drop hI.hl hI.hc (m := m) (by omega)
  rw [if_neg hc] at hr
  refine ⟨by omega, by omega, by omega, ?_, fun h => by cases h⟩
  have e : (zs ++ r).drop m = r := by rw [← hm]; simp
  rw [e] at hr; exact hr
theorem unm_err {zs : List Int} {x : Int} (h : prs zs = (x, [])) (hx : x ≠ 0) : unm zs = (x, []) := by
  unfold unm; rw [h]; simp only; rw [if_pos hx]

set_option linter.unusedVariables false in
set_option maxRecDepth 20000 in
set_option maxHeartbeats 8000000 in
theorem refunmarshal_any (a : Option Addr) (len cap : Nat) (zs : List Int) (w : World) (hI : IsI .u8 w a len cap zs) (hby : Bytes zs) (hlen : len ≤ 10000) : Calls Try.prog 21 #[.slice a len cap] w (Umd w zs) := by
  obtain ⟨i0, hi, hz0, hz1, hz2⟩ := info_parts Try.info44
  have HI : Hid (IsI .u8 w a len cap zs ∧ Bytes zs) := ⟨hI, hby⟩
  clear hI hby
  go_enter Try.func21, Try.ntmps21
  go_wp2
  go_loopw [4, 5, 6, 7, 8, 9, 10, 11, 12] (fun l b _ _ _ _ _ _ _ wr => ∃ (a' : Option Addr) (len' cap' m f : Nat) (acc : List Lb) (bs : List Int), b = .slice a' len' cap' ∧ Hid (Sees w.heap.size w a' len' cap' bs ∧ Bytes bs ∧ prsA f acc bs = prs zs ∧ acc.length = m) ∧ len' ≤ f ∧ m + len' ≤ len ∧ Hid (wr.ownsRow w.heap.size 44 2 l m (cls acc)) ∧ Below w.heap.size w wr) (fun _ b _ _ _ _ _ _ _ _ => lenOf b)
  case atStart => exact ⟨a, len, cap, 0, len, [], zs, rfl, ⟨fun W h => HI.out.1.below h, HI.out.2, (by unfold prs; rw [HI.out.1.hl]), rfl⟩, Nat.le_refl _, by omega, World.ownsRow_nil _ _ _ _, Below.refl _ _⟩
  case round =>
    obtain ⟨a', len', cap', m, f, acc, bs, rfl, HB, hf, hml, HR, hbel⟩ := hrel
    have hbase := hbel.size
    by_cases hlt : 0 < len'
    · have hlt' : (0 : Int) < (len' : Int) := by omega
      obtain ⟨f, rfl⟩ : ∃ f', f = f' + 1 := ⟨f - 1, by omega⟩
      have hne : bs ≠ [] := fun h => by have := (HB.out.1 _ hbel).hl; rw [h] at this; simp at this; omega
      obtain ⟨g, off, rfl, _, _⟩ := (HB.out.1 _ hbel).rd.cell (j := 0) (by rw [(HB.out.1 _ hbel).hl]; exact hlt)
      have hcl := (HB.out.1 _ hbel).hc
      have hcm := (HB.out.1 _ hbel).hm
      unfold maxLen at hcm
      have hbA : Below w.heap.size w (wr.alloc (.cells #[.string ⟨#[]⟩, .string ⟨#[]⟩] 44)) := hbel.alloc hbase _
      have hbB : Below wr.heap.size wr (wr.alloc (.cells #[.string ⟨#[]⟩, .string ⟨#[]⟩] 44)) := (Below.refl _ _).alloc (Nat.le_refl _) _
      have HF : Hid (Calls Try.prog 23 #[.slice (some ⟨g, off, none⟩) len' cap'] (wr.alloc (.cells #[.string ⟨#[]⟩, .string ⟨#[]⟩] 44)) (Rct (wr.alloc (.cells #[.string ⟨#[]⟩, .string ⟨#[]⟩] 44)) bs)) := refcut_any w.heap.size w _ len' cap' bs _ HB.out.1 hbA (by simp; omega) HB.out.2.1 (by omega)
      have HA : Hid (Below wr.heap.size wr (wr.alloc (.cells #[.string ⟨#[]⟩, .string ⟨#[]⟩] 44))) := hbB
      clear hbA hbB
      rcases cut_err bs with h | h | h
      · obtain ⟨s, r, hbs, hs, hc⟩ := cut_ok HB.out.2.1 h
        have hls : (E s).length + r.length = len' := by rw [← (HB.out.1 _ hbel).hl, hbs, List.length_append]
        have hE1 := E_pos s
        have hrb : Bytes r := fun x hx => HB.out.2.1 x (by rw [hbs]; exact List.mem_append_right _ hx)
        obtain ⟨n1, hn1⟩ : ∃ n, n = (E s).length := ⟨_, rfl⟩
        obtain ⟨tn, htn⟩ : ∃ x, Hid (x = strOfNums s) := ⟨_, rfl⟩
        rw [← hn1] at hls hE1
        have H0 : Hid (bs = E s ++ r ∧ Bytes s ∧ Bytes r ∧ n1 = (E s).length ∧ cut bs = (0, s, (E s).length)) := ⟨hbs, hs, hrb, hn1, hc⟩
        clear hne h hbs hs hc hrb hn1
        have s1 : (0 : Int) ≤ (n1 : Int) := by omega
        have s2 : (n1 : Int) ≤ (len' : Int) := by omega
        have s3 : (n1 : Int) ≤ (cap' : Int) := by omega
        go_wp2_with fail
        refine Calls.mono HF.out ?_
        rintro e w1 ⟨rfl, hb1⟩
        rw [H0.out.2.2.2.2]
        simp only [← htn.out, ← H0.out.2.2.2.1]
        have hb1r : Below wr.heap.size wr w1 := HA.out.trans (hb1.mono (by simp))
        have hsz1 := hb1.size
        simp only [World.size_alloc] at hsz1
        have x0 : w1.cell? ⟨wr.heap.size, 0, none⟩ = some (.string ⟨#[]⟩) := (hb1.cell (p := ⟨wr.heap.size, 0, none⟩) (by simp)).trans (by simp)
        have x1 : w1.cell? ⟨wr.heap.size, 1, none⟩ = some (.string ⟨#[]⟩) := (hb1.cell (p := ⟨wr.heap.size, 1, none⟩) (by simp)).trans (by simp)
        have f0 : w1.frozen? ⟨wr.heap.size, 0, none⟩ = false := (hb1.frozen (p := ⟨wr.heap.size, 0, none⟩) (by simp)).trans (by simp)
        have f1 : w1.frozen? ⟨wr.heap.size, 1, none⟩ = false := (hb1.frozen (p := ⟨wr.heap.size, 1, none⟩) (by simp)).trans (by simp)
        have H1 : Hid (Below wr.heap.size wr w1) := hb1r
        have xlt : wr.heap.size < w1.heap.size := by omega
        clear hb1 hb1r HF HA
        have hb1s : Below wr.heap.size wr (w1.setCell ⟨wr.heap.size, 0, none⟩ (.string tn)) := H1.out.setCell (Nat.le_refl _) _
        have H1w : Hid (Below w.heap.size w (w1.setCell ⟨wr.heap.size, 0, none⟩ (.string tn))) := hbel.trans (hb1s.mono hbase)
        have z0 : (w1.setCell ⟨wr.heap.size, 0, none⟩ (.string tn)).cell? ⟨wr.heap.size, 0, none⟩ = some (.string tn) := World.cell?_setCell_same' _ _ _ (by rw [x0]; rfl)
        have z1 : (w1.setCell ⟨wr.heap.size, 0, none⟩ (.string tn)).cell? ⟨wr.heap.size, 1, none⟩ = some (.string ⟨#[]⟩) := by rw [World.cell?_setCell_other _ _ _ _ (by simp)]; exact x1
        have H1s : Hid (Below wr.heap.size wr (w1.setCell ⟨wr.heap.size, 0, none⟩ (.string tn)) ∧ (w1.setCell ⟨wr.heap.size, 0, none⟩ (.string tn)).cell? ⟨wr.heap.size, 0, none⟩ = some (.string tn) ∧ (w1.setCell ⟨wr.heap.size, 0, none⟩ (.string tn)).cell? ⟨wr.heap.size, 1, none⟩ = some (.string ⟨#[]⟩)) := ⟨hb1s, z0, z1⟩
        clear hb1s z0 z1
        by_cases hc1 : cap' = n1
        · obtain rfl : r = [] := List.eq_nil_of_length_eq_zero (by omega)
          have hle : len' = n1 := by simp at hls; omega
          subst hc1
          subst hle
          have HF2 : Hid (Calls Try.prog 23 #[.slice (some ⟨g, off, none⟩) 0 0] (w1.setCell ⟨wr.heap.size, 0, none⟩ (.string tn)) (Rct (w1.setCell ⟨wr.heap.size, 0, none⟩ (.string tn)) [])) :=
            refcut_any w.heap.size w _ 0 0 [] _ (fun W hW => ⟨rfl, Nat.le_refl _, Nat.zero_le _, .inl rfl, fun h => by cases h⟩) H1w.out H1w.out.size (fun x hx => by simp at hx) (by omega)
          have h : cut [] = (10, [], 0) := rfl
          go_wp2_with fail
          try simp only [Nat.sub_self]
          refine Calls.mono HF2.out ?_
          rintro e w2 ⟨rfl, hb2⟩
          have HP : Hid (prs zs = (10, [])) := by
            show _ = _
            rw [← HB.out.2.2.1, H0.out.1, prsA_err2 f acc H0.out.2.1 h (by decide)]
          rw [h]
          clear h
          go_wp2_with fail
          go_ret2
          exact umd_err (unm_err HP.out (by decide)) (H1w.out.trans (hb2.mono H1w.out.size))
        · have HS2 : Hid (Sees w.heap.size w (some ⟨g, off + n1, none⟩) (len' - n1) (cap' - n1) r) := sees_drop (by rw [← H0.out.1]; exact HB.out.1) H0.out.2.2.2.1.symm hc1
          obtain ⟨len2, hl2⟩ : ∃ n, n = len' - n1 := ⟨_, rfl⟩
          obtain ⟨cap2, hp2⟩ : ∃ n, n = cap' - n1 := ⟨_, rfl⟩
          rw [← hl2, ← hp2] at HS2
          have HF2 : Hid (Calls Try.prog 23 #[.slice (some ⟨g, off + n1, none⟩) len2 cap2] (w1.setCell ⟨wr.heap.size, 0, none⟩ (.string tn)) (Rct (w1.setCell ⟨wr.heap.size, 0, none⟩ (.string tn)) r)) :=
            refcut_any w.heap.size w _ len2 cap2 r _ HS2.out H1w.out H1w.out.size H0.out.2.2.1 (by omega)
          go_wp2_with fail
          simp only [← hl2, ← hp2]
          refine Calls.mono HF2.out ?_
          rintro e w2 ⟨rfl, hb2⟩
          rcases cut_err r with h | h | h
          · obtain ⟨t, r2, hbs2, ht, hc2'⟩ := cut_ok H0.out.2.2.1 h
            have hls2 : (E t).length + r2.length = len2 := by rw [← (HS2.out _ hbel).hl, hbs2, List.length_append]
            have hE2 := E_pos t
            have hrb2 : Bytes r2 := fun x hx => H0.out.2.2.1 x (by rw [hbs2]; exact List.mem_append_right _ hx)
            obtain ⟨n2, hn2⟩ : ∃ n, n = (E t).length := ⟨_, rfl⟩
            obtain ⟨tv, htv⟩ : ∃ x, Hid (x = strOfNums t) := ⟨_, rfl⟩
            rw [hc2']
            simp only [← htv.out, ← hn2]
            rw [← hn2] at hls2 hE2
            have HP : Hid (prsA f (acc ++ [(tn, tv)]) r2 = prs zs) := by
              show _ = _
              rw [← HB.out.2.2.1, H0.out.1, hbs2, prsA_step f acc s t r2 H0.out.2.1 ht, htn.out, htv.out]
            have H2 : Hid (r = E t ++ r2 ∧ n2 = (E t).length ∧ Bytes r2) := ⟨hbs2, hn2, hrb2⟩
            clear hbs2 ht hc2' hrb2 hn2 h HF2
            have hs2 := hb2.size
            simp only [World.size_setCell] at hs2
            have y0 : w2.cell? ⟨wr.heap.size, 0, none⟩ = some (.string tn) := (hb2.cell (p := ⟨wr.heap.size, 0, none⟩) (by simp; omega)).trans H1s.out.2.1
            have y1 : w2.cell? ⟨wr.heap.size, 1, none⟩ = some (.string ⟨#[]⟩) := (hb2.cell (p := ⟨wr.heap.size, 1, none⟩) (by simp; omega)).trans H1s.out.2.2
            have k0 : w2.frozen? ⟨wr.heap.size, 0, none⟩ = false := (hb2.frozen (p := ⟨wr.heap.size, 0, none⟩) (by simp; omega)).trans (by rw [World.frozen?_setCell]; exact f0)
            have k1 : w2.frozen? ⟨wr.heap.size, 1, none⟩ = false := (hb2.frozen (p := ⟨wr.heap.size, 1, none⟩) (by simp; omega)).trans (by rw [World.frozen?_setCell]; exact f1)
            have hb2r : Below wr.heap.size wr w2 := H1s.out.1.trans (hb2.mono (by simp; omega))
            have hb3r : Below wr.heap.size wr (w2.setCell ⟨wr.heap.size, 1, none⟩ (.string tv)) := hb2r.setCell (Nat.le_refl _) _
            have HO3 : Hid ((w2.setCell ⟨wr.heap.size, 1, none⟩ (.string tv)).ownsRow w.heap.size 44 2 u4 m (cls acc)) := own_below HR.out hb3r
            have H3w : Hid (Below w.heap.size w (w2.setCell ⟨wr.heap.size, 1, none⟩ (.string tv))) := hbel.trans (hb3r.mono hbase)
            have hs3 : w.heap.size ≤ w2.heap.size := by omega
            have t1 : (0 : Int) ≤ (n2 : Int) := by omega
            have t2 : (n2 : Int) ≤ (len2 : Int) := by omega
            have t3 : (n2 : Int) ≤ (cap2 : Int) := by omega
            have xlt2 : wr.heap.size < w2.heap.size := by omega
            clear hb2 hb2r hb3r x0 x1 f0 f1 xlt
            by_cases hc2 : cap2 = n2
            · have hl3 : len2 = n2 := by omega
              have hr2 : r2 = [] := List.eq_nil_of_length_eq_zero (by omega)
              have HS3 : Hid (Sees w.heap.size w (some ⟨g, off + n1, none⟩) (len2 - n2) (cap2 - n2) r2) := fun W hW => ⟨by rw [hr2]; simp; omega, by omega, by unfold maxLen; omega, .inl hr2, fun h => by cases h⟩
              clear hl3 hr2
              go_wp2_with (at_builtin; refine wpList_append_own _ rfl (.tmp 47) (.tmp 49) 22 rfl w.heap.size 44 i0 _ 2 32 Try.underlying22 hi hz0 hz1 hz2 rfl (by decide) _ m _ rfl (HO3.out.alloc _) ⟨w2.heap.size, 0, none⟩ 1 1 [.string tn, .string tv] rfl rfl (by simpa using two_at (w2.setCell ⟨wr.heap.size, 1, none⟩ (.string tv)) (.string tn) (.string tv) 44) (strs_two _ _) (by unfold maxLen; omega) (by omega) (by simp; omega) ?_; intro v3 w3 ho3 hg3 _)
              go_roundw
              case rel =>
                have hb3 : Below w.heap.size w w3 := (H3w.out.alloc (by simp; omega) _).grown hg3 (by simp; omega) (fun j hj => (HO3.out.lt j hj).1)
                refine ⟨_, _, _, m + 1, f, acc ++ [(tn, tv)], r2, rfl, ⟨(by have := HS3.out; rw [hl2, hp2] at this; exact this), H2.out.2.2, HP.out, by simp [HB.out.2.2.2]⟩, by omega, by omega, ?_, hb3⟩
                show World.ownsRow _ _ _ _ _ _ _
                rw [cls_append]; exact ho3
              case measure => simp [lenOf]; omega
            · have HS3 : Hid (Sees w.heap.size w (some ⟨g, off + n1 + n2, none⟩) (len2 - n2) (cap2 - n2) r2) := sees_drop (by rw [← H2.out.1]; exact HS2.out) H2.out.2.1.symm hc2
              go_wp2_with (at_builtin; refine wpList_append_own _ rfl (.tmp 47) (.tmp 49) 22 rfl w.heap.size 44 i0 _ 2 32 Try.underlying22 hi hz0 hz1 hz2 rfl (by decide) _ m _ rfl (HO3.out.alloc _) ⟨w2.heap.size, 0, none⟩ 1 1 [.string tn, .string tv] rfl rfl (by simpa using two_at (w2.setCell ⟨wr.heap.size, 1, none⟩ (.string tv)) (.string tn) (.string tv) 44) (strs_two _ _) (by unfold maxLen; omega) (by omega) (by simp; omega) ?_; intro v3 w3 ho3 hg3 _)
              go_roundw
              case rel =>
                have hb3 : Below w.heap.size w w3 := (H3w.out.alloc (by simp; omega) _).grown hg3 (by simp; omega) (fun j hj => (HO3.out.lt j hj).1)
                refine ⟨_, _, _, m + 1, f, acc ++ [(tn, tv)], r2, rfl, ⟨(by have := HS3.out; rw [hl2, hp2] at this; exact this), H2.out.2.2, HP.out, by simp [HB.out.2.2.2]⟩, by omega, by omega, ?_, hb3⟩
                show World.ownsRow _ _ _ _ _ _ _
                rw [cls_append]; exact ho3
              case measure => simp [lenOf]; omega
          · skip
            have HP : Hid (prs zs = (10, [])) := by
              show _ = _
              rw [← HB.out.2.2.1, H0.out.1, prsA_err2 f acc H0.out.2.1 h (by decide)]
            rw [h]
            clear h
            go_wp2_with fail
            go_ret2
            exact umd_err (unm_err HP.out (by decide)) (H1w.out.trans (hb2.mono H1w.out.size))
          · skip
            have HP : Hid (prs zs = (11, [])) := by
              show _ = _
              rw [← HB.out.2.2.1, H0.out.1, prsA_err2 f acc H0.out.2.1 h (by decide)]
            rw [h]
            clear h
            go_wp2_with fail
            go_ret2
            exact umd_err (unm_err HP.out (by decide)) (H1w.out.trans (hb2.mono H1w.out.size))
      · have HP : Hid (prs zs = (10, [])) := by
          show _ = _
          rw [← HB.out.2.2.1, prsA_err1 f acc hne h (by decide)]
        have HH : Hid _ := h
        clear hne h
        go_wp2_with fail
        refine Calls.mono HF.out ?_
        rintro e w1 ⟨rfl, hb1⟩
        rw [HH.out]
        have hb1w : Below w.heap.size w w1 := hbel.trans ((HA.out.trans (hb1.mono (by simp))).mono hbase)
        go_wp2_with fail
        go_ret2
        exact umd_err (unm_err HP.out (by decide)) hb1w
      · have HP : Hid (prs zs = (11, [])) := by
          show _ = _
          rw [← HB.out.2.2.1, prsA_err1 f acc hne h (by decide)]
        have HH : Hid _ := h
        clear hne h
        go_wp2_with fail
        refine Calls.mono HF.out ?_
        rintro e w1 ⟨rfl, hb1⟩
        rw [HH.out]
        have hb1w : Below w.heap.size w w1 := hbel.trans ((HA.out.trans (hb1.mono (by simp))).mono hbase)
        go_wp2_with fail
        go_ret2
        exact umd_err (unm_err HP.out (by decide)) hb1w
    · have hlt' : ¬ (0 : Int) < (len' : Int) := by omega
      have hbs : bs = [] := List.eq_nil_of_length_eq_zero (by rw [(HB.out.1 _ hbel).hl]; omega)
      have HP : Hid (prs zs = (0, acc)) := by show _ = _; rw [← HB.out.2.2.1, hbs, prsA_nil]
      have hok : (prs zs).1 = 0 := by rw [HP.out]
      have HZ : Hid (zs = el acc) := by have := prs_ok HI.out.2 hok; rw [HP.out] at this; exact this
      have HW : Hid (WfL acc) := by have := prs_wf HI.out.2 hok (by rw [HI.out.1.hl]; exact hlen); rw [HP.out] at this; exact this
      clear hbs hok
      obtain ⟨a1, c1, rfl, hI1⟩ := own_isL HR.out
      have H1 : Hid (IsL wr a1 m c1 acc) := hI1
      clear hI1
      go_wp2_with fail
      refine (refmarshal_any a1 m c1 acc wr H1.out HW.out).mono ?_
      rintro e w2 ⟨v2, rfl, ho2, hb2⟩
      have hb2w : Below w.heap.size w w2 := hbel.trans (hb2.mono hbase)
      by_cases hm : May acc
      · have HM : Hid (May acc) := hm
        clear hm
        rw [cne_may HM.out]
        rw [cnl_may HM.out] at ho2
        obtain ⟨q2, hq2⟩ : ∃ n, n = (el (canon acc)).length := ⟨_, rfl⟩
        rw [← hq2] at ho2
        obtain ⟨a2, c2, rfl, hI2⟩ := own_isI ho2
        have hcv1 := conv_rd w2 a2 c2 q2 (el (canon acc)) hI2.hl hI2.rd
        have hcv2 := conv_rd w2 a cap len zs HI.out.1.hl (HI.out.1.rd.below hb2w)
        have HNW : Hid (NewL w.heap.size w2 (.slice a1 m c1) acc) := by
          have ho := own_below HR.out hb2
          obtain ⟨a', c', e', hI'⟩ := own_isL ho
          cases e'
          have hml2 : m = acc.length := H1.out.hl.symm
          refine ⟨a1, c1, by rw [hml2], by rw [← hml2]; exact hI', fun hl => ?_⟩
          obtain ⟨g, cap', e2, hg1, _, _, _, _, hfz⟩ := own_cell ho (by omega)
          cases e2
          exact ⟨g, rfl, hg1, fun t _ => hfz t⟩
        clear ho2 hI2 hb2 hq2
        by_cases he : canon acc = acc
        · have HE : Hid (unm zs = (0, acc)) := by
            show _ = _
            unfold unm; rw [HP.out]; simp only [ne_eq, not_true_eq_false, if_false]; rw [if_pos ⟨HM.out, he⟩]
          rw [he, ← HZ.out] at hcv1
          generalize strOfNums zs = st at hcv1 hcv2
          clear he
          go_wp2_with fail
          go_ret2
          refine ⟨_, by rw [HE.out]; rfl, ?_, hb2w⟩
          rw [HE.out]
          exact HNW.out
        · have HE : Hid (unm zs = (11, [])) := by
            show _ = _
            unfold unm; rw [HP.out]; simp only [ne_eq, not_true_eq_false, if_false]; rw [if_neg (fun h => he h.2)]
          have hse : ((strOfNums (el (canon acc))).toList == (strOfNums zs).toList) = false := by
            rw [beq_eq, HZ.out]
            exact decide_eq_false (fun h => he (el_inj (str_inj (el_bytes _) (el_bytes _) h)))
          generalize strOfNums zs = st at hcv2 hse
          generalize strOfNums (el (canon acc)) = st2 at hcv1 hse
          clear he
          go_wp2_with fail
          go_ret2
          exact umd_err HE.out hb2w
      · have HE : Hid (unm zs = (11, [])) := by
          show _ = _
          unfold unm; rw [HP.out]; simp only [ne_eq, not_true_eq_false, if_false]; rw [if_neg (fun h => hm h.1)]
        rw [cne_not hm]
        clear hm ho2
        go_wp2_with fail
        go_ret2
        exact umd_err HE.out hb2w
end Go.Proofs.Ythklkhdcmoonkaa
