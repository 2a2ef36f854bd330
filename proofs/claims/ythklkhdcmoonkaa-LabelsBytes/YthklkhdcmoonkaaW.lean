/- The contracts of the document's own Marshal and Cut. Conditions: sizes. -/
import Derived.Test.YthklkhdcmoonkaaV
import Derived.Test.YthklkhdcmoonkaaJ
import Derived.Test.YthklkhdcmoonkaaM
namespace Go.Proofs.Ythklkhdcmoonkaa
open Go.RowKit

set_option maxRecDepth 20000 in
set_option maxHeartbeats 4000000 in
theorem refmarshal_any (a : Option Addr) (len cap : Nat) (ls : List Lb) (w : World) (hI : IsL w a len cap ls) (hwf : WfL ls) : Calls Try.prog 19 #[.slice a len cap] w (Mrd w ls) := by
  obtain ⟨i0, hi, hz0, hz1, hz2⟩ := info_parts Try.info5
  have HI : Hid (IsL w a len cap ls ∧ WfL ls) := ⟨hI, hwf⟩
  clear hI hwf
  by_cases hm : May ls
  · have HM : Hid (May ls) := hm
    clear hm
    go_enter Try.func19, Try.ntmps19
    go_wp2_with fail
    refine (refcanon_any a len cap ls w HI.out.1 HI.out.2).mono ?_
    rintro e w1 ⟨v1, rfl, ⟨a1, c1, rfl, hI1, _⟩, hb1⟩
    rw [cne_may HM.out]
    have hsm := cnl_small ls
    have hn6 := cnl_len ls
    obtain ⟨cs, hcs⟩ : ∃ cs, Hid (cs = cnl ls) := ⟨_, rfl⟩
    rw [← hcs.out] at hI1 hsm hn6 ⊢
    obtain ⟨n, hn⟩ : ∃ n, n = cs.length := ⟨_, rfl⟩
    rw [← hn] at hI1 hn6 ⊢
    have hnil := hI1.hc
    have hmm := hI1.hm
    unfold maxLen at hmm
    have H1 : Hid (IsL w1 a1 n c1 cs ∧ (∀ x ∈ cs, x.1.size ≤ 12 ∧ x.2.size ≤ 16) ∧ n = cs.length ∧ Below w.heap.size w w1) := ⟨hI1, hsm, hn, hb1⟩
    clear hI1 hsm hn hb1
    go_wp2_with fail
    go_loopw [6, 7] (fun b i wr => ∃ k m : Nat, i = .int .i64 (k : Int) ∧ k ≤ n ∧ Hid (m = (el (cs.take k)).length) ∧ Hid (wr.ownsRow w1.heap.size 5 1 b m ((el (cs.take k)).map (Value.int .u8))) ∧ Below w1.heap.size w1 wr) (fun _ i _ => n - (intOf i).toNat)
    case atStart => exact ⟨0, 0, rfl, Nat.zero_le _, (rfl : 0 = (el (cs.take 0)).length), World.ownsRow_nil _ _ _ _, Below.refl _ _⟩
    case round =>
      obtain ⟨k, m, rfl, hk, HMm, HR, hbel⟩ := hrel
      have hm60 : m ≤ 60 * k := by rw [HMm.out]; exact el_take_len cs H1.out.2.1 k
      have hbase := hbel.size
      by_cases hlt : k < n
      · have hlt' : (k : Int) < (n : Int) := by omega
        have hkl : k < cs.length := by rw [← H1.out.2.2.1]; exact hlt
        obtain ⟨g, off, rfl, hg, c0, c1'⟩ := H1.out.1.rd.at hkl
        have hsz := H1.out.2.1 _ (getD_memL hkl)
        have HT : Hid (el (cs.take (k + 1)) = el (cs.take k) ++ E (nums (cs.getD k l0).1) ++ E (nums (cs.getD k l0).2)) := el_take cs k hkl
        clear hkl
        obtain ⟨x, hx⟩ : ∃ x, Hid (x = cs.getD k l0) := ⟨_, rfl⟩
        rw [← hx.out] at c0 c1' hsz HT
        obtain ⟨nn, vv⟩ := x
        simp only at c0 c1' hsz HT
        have HC : Hid (g < w1.heap.size ∧ w1.cell? ⟨g, off + k * 2 + 1, none⟩ = some (.string vv)) := ⟨hg, c1'⟩
        have d0 := (hbel.cell (p := ⟨g, off + k * 2, none⟩) hg).trans c0
        clear c0 c1' hg
        have hE1 := E_len (nums nn)
        have hE2 := E_len (nums vv)
        rw [nums_len] at hE1 hE2
        obtain ⟨q1, hq1⟩ : ∃ q, q = (E (nums nn)).length := ⟨_, rfl⟩
        obtain ⟨q2, hq2⟩ : ∃ q, q = (E (nums vv)).length := ⟨_, rfl⟩
        rw [← hq1] at hE1
        rw [← hq2] at hE2
        have HQ : Hid (q1 = (E (nums nn)).length ∧ q2 = (E (nums vv)).length) := ⟨hq1, hq2⟩
        clear hq1 hq2
        go_wp2_with fail
        refine (refescape_any nn wr (by omega)).mono ?_
        rintro e w2 ⟨v2, rfl, ho2, hb2⟩
        rw [← HQ.out.1] at ho2
        obtain ⟨a2, c2, rfl, hI2⟩ := own_isI ho2
        have hb2' : Below w1.heap.size w1 w2 := hbel.trans (hb2.mono hbase)
        have H2 : Hid (IsI .u8 w2 a2 q1 c2 (E (nums nn)) ∧ w2.ownsRow w1.heap.size 5 1 u6 m ((el (cs.take k)).map (Value.int .u8))) := ⟨hI2, own_below HR.out hb2⟩
        clear ho2 hI2 hb2
        go_wp2_with (at_builtin; refine wpList_append_any _ rfl (.tmp 22) (.tmp 28) 32 rfl w1.heap.size 5 i0 (.int .u8 0) 1 1 Try.underlying32 hi hz0 hz1 hz2 rfl (by decide) _ m _ rfl H2.out.2 a2 q1 c2 ((E (nums nn)).map (Value.int .u8)) rfl (by rw [List.length_map, H2.out.1.hl, Nat.mul_one]) H2.out.1.none (rd_any H2.out.1.rd) (ints_oneCell _ _) (by unfold maxLen; omega) (by omega) hb2'.size ?_
                     intro v3 w3 ho3 hg3
                     rw [← List.map_append] at ho3
                     have hb3 : Below w1.heap.size w1 w3 := hb2'.grown hg3 hb2'.size (fun j hj => (H2.out.2.lt j hj).1)
                     have H3 : Hid (w3.ownsRow w1.heap.size 5 1 v3 (m + q1) ((el (cs.take k) ++ E (nums nn)).map (Value.int .u8))) := ho3
                     have d1 := (hb3.cell (p := ⟨g, off + k * 2 + 1, none⟩) HC.out.1).trans HC.out.2
                     clear ho3 hg3)
        refine (refescape_any vv w3 (by omega)).mono ?_
        rintro e w4 ⟨v4, rfl, ho4, hb4⟩
        rw [← HQ.out.2] at ho4
        obtain ⟨a4, c4, rfl, hI4⟩ := own_isI ho4
        have hb4' : Below w1.heap.size w1 w4 := hb3.trans (hb4.mono hb3.size)
        have H4 : Hid (IsI .u8 w4 a4 q2 c4 (E (nums vv)) ∧ w4.ownsRow w1.heap.size 5 1 v3 (m + q1) ((el (cs.take k) ++ E (nums nn)).map (Value.int .u8))) := ⟨hI4, own_below H3.out hb4⟩
        clear ho4 hI4 hb4
        go_wp2_with (at_builtin; refine wpList_append_any _ rfl (.tmp 30) (.tmp 36) 32 rfl w1.heap.size 5 i0 (.int .u8 0) 1 1 Try.underlying32 hi hz0 hz1 hz2 rfl (by decide) _ (m + q1) _ rfl H4.out.2 a4 q2 c4 ((E (nums vv)).map (Value.int .u8)) rfl (by rw [List.length_map, H4.out.1.hl, Nat.mul_one]) H4.out.1.none (rd_any H4.out.1.rd) (ints_oneCell _ _) (by unfold maxLen; omega) (by omega) hb4'.size ?_
                     intro v5 w5 ho5 hg5
                     rw [← List.map_append] at ho5
                     have hb5 : Below w1.heap.size w1 w5 := hb4'.grown hg5 hb4'.size (fun j hj => (H4.out.2.lt j hj).1)
                     have H5 : Hid (w5.ownsRow w1.heap.size 5 1 v5 (m + q1 + q2) ((el (cs.take k) ++ E (nums nn) ++ E (nums vv)).map (Value.int .u8))) := ho5
                     clear ho5 hg5)
        go_roundw
        case rel =>
          refine ⟨k + 1, m + q1 + q2, by go_num, hlt, ?_, ?_, hb5⟩
          · show _ = _
            rw [HT.out, List.length_append, List.length_append, ← HMm.out, ← HQ.out.1, ← HQ.out.2]
          · show World.ownsRow _ _ _ _ _ _ _
            rw [HT.out]; exact H5.out
        case measure => simp [intOf]; omega
      · have hlt' : ¬ (k : Int) < (n : Int) := by omega
        go_wp2_with fail
        go_ret2
        have hall : cs.take k = cs := List.take_of_length_le (by rw [← H1.out.2.2.1]; omega)
        refine ⟨_, by rw [cne_may HM.out]; rfl, ?_, H1.out.2.2.2.trans (hbel.mono H1.out.2.2.2.size)⟩
        have h1 := HR.out
        have h2 := HMm.out
        rw [hall] at h1 h2
        rw [← hcs.out, ← h2]
        exact own_mono h1 H1.out.2.2.2.size
  · have HM : Hid (¬ May ls) := hm
    clear hm
    go_enter Try.func19, Try.ntmps19
    go_wp2_with fail
    refine (refcanon_any a len cap ls w HI.out.1 HI.out.2).mono ?_
    rintro e w1 ⟨v1, rfl, _, hb1⟩
    rw [cne_not HM.out]
    go_wp2_with fail
    go_ret2
    refine ⟨_, by rw [cne_not HM.out]; rfl, ?_, hb1⟩
    rw [cnl_not HM.out]
    exact World.ownsRow_nil _ _ _ _

/-- What the document's own Cut tells. -/
def Rct (w : World) (zs : List Int) (e : Ending) (w' : World) : Prop :=
  e = .returned (.tuple #[.string (strOfNums (cut zs).2.1), .int .i64 ((cut zs).2.2 : Nat), .int .i64 (cut zs).1]) ∧ Below w.heap.size w w'
theorem rct_err {w w' : World} {zs : List Int} {x : Int} (h : cut zs = (x, [], 0)) (hb : Below w.heap.size w w') : Rct w zs (.returned (.tuple #[.string ⟨#[]⟩, .int .i64 0, .int .i64 x])) w' := by
  refine ⟨by rw [h]; rfl, hb⟩

set_option maxRecDepth 20000 in
set_option maxHeartbeats 4000000 in
theorem refcut_any (B : Nat) (w0 : World) (a : Option Addr) (len cap : Nat) (zs : List Int) (w : World) (hS : Sees B w0 a len cap zs) (h0 : Below B w0 w) (hB : B ≤ w.heap.size) (hby : Bytes zs) (hlen : len ≤ 100000) : Calls Try.prog 23 #[.slice a len cap] w (Rct w zs) := by
  obtain ⟨i0, hi, hz0, hz1, hz2⟩ := info_parts Try.info5
  have hI := hS w h0
  have HS : Hid (Sees B w0 a len cap zs ∧ Below B w0 w ∧ B ≤ w.heap.size) := ⟨hS, h0, hB⟩
  clear hS h0 hB
  have hcap := hI.hc
  have hmax := hI.hm
  unfold maxLen at hmax
  have HI : Hid (IsI .u8 w a len cap zs ∧ Bytes zs) := ⟨hI, hby⟩
  clear hI hby
  go_enter Try.func23, Try.ntmps23
  go_wp2
  go_loopw [5, 6, 7] (fun b i _ wr => ∃ k m : Nat, ∃ ts : List Int, i = .int .i64 (k : Int) ∧ k ≤ len ∧ m ≤ k ∧ Hid (cutA ts k (zs.drop k) = cut zs ∧ ts.length = m) ∧ Hid (wr.ownsRow w.heap.size 5 1 b m (ts.map (Value.int .u8))) ∧ Below w.heap.size w wr) (fun _ i _ _ => len - (intOf i).toNat)
  case atStart => exact ⟨0, 0, [], rfl, Nat.zero_le _, Nat.le_refl _, ⟨rfl, rfl⟩, World.ownsRow_nil _ _ _ _, Below.refl _ _⟩
  case round =>
    obtain ⟨k, m, ts, rfl, hk, hmk, HC, HR, hbel⟩ := hrel
    have hbase := hbel.size
    by_cases hlt : k < len
    · have hlt' : (k : Int) < (len : Int) := by omega
      have hkl : k < zs.length := by rw [HI.out.1.hl]; exact hlt
      obtain ⟨g, off, rfl, hg, c0⟩ := ((HS.out.1 wr (HS.out.2.1.trans (hbel.mono HS.out.2.2))).rd).cell hkl
      have hcb := bytes_at HI.out.2 k
      have HD : Hid (zs.drop k = zs.getD k 0 :: zs.drop (k + 1)) := drop_consI zs k hkl
      clear hkl
      obtain ⟨c, hc⟩ : ∃ c, Hid (c = zs.getD k 0) := ⟨_, rfl⟩
      rw [← hc.out] at c0 hcb HD
      by_cases h1 : c = 1
      · subst h1
        have HE : Hid (cut zs = (0, ts, k + 1)) := by show _ = _; rw [← HC.out.1, HD.out, cutA_one]
        clear hcb
        obtain ⟨a5, c5, rfl, hI5⟩ := own_isI HR.out
        have hcv := conv_rd wr a5 c5 m ts HC.out.2 hI5.rd
        clear hI5
        go_wp2_with fail
        go_ret3
        exact ⟨by rw [HE.out]; simp, hbel⟩
      · have n1 : (c == 1) = false := by simpa using h1
        by_cases h0 : c = 0
        · subst h0
          have HE : Hid (cut zs = (11, [], 0)) := by show _ = _; rw [← HC.out.1, HD.out, cutA_zero]
          clear hcb
          go_wp2_with fail
          go_ret3
          exact rct_err HE.out hbel
        · have n0 : (c == 0) = false := by simpa using h0
          by_cases h2 : c = 2
          · subst h2
            clear hcb h1 h0 n1 n0
            by_cases hke : k + 1 = len
            · have HE : Hid (cut zs = (10, [], 0)) := by
                show _ = _
                rw [← HC.out.1, HD.out, List.drop_eq_nil_of_le (by rw [HI.out.1.hl]; omega), cutA_two_end]
              have hke' : (len : Int) ≤ (k : Int) + 1 := by omega
              clear hke
              go_wp2_with fail
              go_ret3
              exact rct_err HE.out hbel
            · have hke' : ¬ (len : Int) ≤ (k : Int) + 1 := by omega
              have hkl2 : k + 1 < zs.length := by rw [HI.out.1.hl]; omega
              obtain ⟨g', off', eg, hg', c1⟩ := ((HS.out.1 wr (HS.out.2.1.trans (hbel.mono HS.out.2.2))).rd).cell hkl2
              cases eg
              have hxb := bytes_at HI.out.2 (k + 1)
              have HD2 : Hid (zs.drop (k + 1) = zs.getD (k + 1) 0 :: zs.drop (k + 1 + 1)) := drop_consI zs (k + 1) hkl2
              obtain ⟨x, hx⟩ : ∃ x, Hid (x = zs.getD (k + 1) 0) := ⟨_, rfl⟩
              rw [← hx.out] at c1 hxb HD2
              clear hkl2
              have hk1 : (k : Int) + 1 < (len : Int) := by omega
              have hk2 : (0 : Int) ≤ (k : Int) + 1 := by omega
              have hk3 : ((k : Int) + 1).toNat = k + 1 := by omega
              by_cases hx3 : x < 3
              · have HE : Hid (cut zs = (11, [], 0)) := by show _ = _; rw [← HC.out.1, HD.out, HD2.out, cutA_two_bad _ _ _ _ (.inl hx3)]
                go_wp2_with fail
                go_ret3
                exact rct_err HE.out hbel
              · by_cases hx5 : 5 < x
                · have HE : Hid (cut zs = (11, [], 0)) := by show _ = _; rw [← HC.out.1, HD.out, HD2.out, cutA_two_bad _ _ _ _ (.inr hx5)]
                  go_wp2_with fail
                  go_ret3
                  exact rct_err HE.out hbel
                · have HE : Hid (cutA (ts ++ [x - 3]) (k + 1 + 1) (zs.drop (k + 1 + 1)) = cut zs) := by
                    show _ = _
                    rw [← HC.out.1, HD.out, HD2.out, cutA_two _ _ _ _ (by omega)]
                  go_wp2_with (at_builtin; refine wpList_append_own _ rfl (.tmp 45) (.tmp 52) 32 rfl w.heap.size 5 i0 (.int .u8 0) 1 1 Try.underlying32 hi hz0 hz1 hz2 rfl (by decide) _ m _ rfl (HR.out.alloc _) ⟨wr.heap.size, 0, none⟩ 1 1 [.int .u8 (x - 3)] rfl rfl (one_at wr _ _) (one_one _) (by unfold maxLen; omega) (by omega) (by simp; omega) ?_; intro v2 w2 ho2 hg2 _)
                  go_roundw
                  case rel =>
                    refine ⟨k + 1 + 1, m + 1, ts ++ [x - 3], by go_num, by omega, by omega, ⟨HE.out, by simp [HC.out.2]⟩, ?_, (hbel.alloc hbase _).grown hg2 (by simp; omega) (fun j hj => (HR.out.lt j hj).1)⟩
                    show World.ownsRow _ _ _ _ _ _ _
                    rw [List.map_append]; exact ho2
                  case measure => simp [intOf]; omega
          · have n2 : (c == 2) = false := by simpa using h2
            have HE : Hid (cutA (ts ++ [c]) (k + 1) (zs.drop (k + 1)) = cut zs) := by
              show _ = _
              rw [← HC.out.1, HD.out, cutA_else _ _ _ _ h1 h0 h2]
            go_wp2_with (at_builtin; refine wpList_append_own _ rfl (.tmp 56) (.tmp 58) 32 rfl w.heap.size 5 i0 (.int .u8 0) 1 1 Try.underlying32 hi hz0 hz1 hz2 rfl (by decide) _ m _ rfl (HR.out.alloc _) ⟨wr.heap.size, 0, none⟩ 1 1 [.int .u8 c] rfl rfl (one_at wr _ _) (one_one _) (by unfold maxLen; omega) (by omega) (by simp; omega) ?_; intro v2 w2 ho2 hg2 _)
            go_roundw
            case rel =>
              refine ⟨k + 1, m + 1, ts ++ [c], by go_num, by omega, by omega, ⟨HE.out, by simp [HC.out.2]⟩, ?_, (hbel.alloc hbase _).grown hg2 (by simp; omega) (fun j hj => (HR.out.lt j hj).1)⟩
              show World.ownsRow _ _ _ _ _ _ _
              rw [List.map_append]; exact ho2
            case measure => simp [intOf]; omega
    · have hlt' : ¬ (k : Int) < (len : Int) := by omega
      have HE : Hid (cut zs = (10, [], 0)) := by show _ = _; rw [← HC.out.1, List.drop_eq_nil_of_le (by rw [HI.out.1.hl]; omega), cutA_nil]
      go_wp2_with fail
      go_ret3
      exact rct_err HE.out hbel
end Go.Proofs.Ythklkhdcmoonkaa
