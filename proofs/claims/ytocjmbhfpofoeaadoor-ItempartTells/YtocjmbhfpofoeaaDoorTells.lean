/- ItempartTells: what a file of rising items tells, of any item, from any on, of any beginning: true for every input. Conditions: the table of half bytes holds what the program's text lays. -/
import Derived.Test.YtocjmbhfpofoeaaDoorParts
import Derived.Test.YtocjmbhfpofoeaaDoorDp
namespace Go.Proofs.YtocjmbhfpofoeaaDoor
open Go.ChangeShapes Go.WideShapes Go.ChangeAt Go.RowKit Go.Lib

theorem mem_take (L : List (List Int)) (x : List Int) {k : Nat} (h : k < L.length) : decide (x ∈ L.take (k + 1)) = (decide (x ∈ L.take k) || decide (L.getD k [] = x)) := by
  rw [List.take_succ_eq_append_getElem h]
  have e : L.getD k [] = L[k] := by simp [List.getD, h]
  rw [e]
  simp only [List.mem_append, List.mem_singleton, Bool.decide_or]
  congr 1
  exact decide_eq_decide.2 ⟨fun h => h.symm, fun h => h.symm⟩
theorem hsd_iff {L : List (List Int)} (h : Rz L) (x : List Int) : hsd ((L.filter (nl x)).take 1) x = decide (x ∈ L) := by
  by_cases hx : x ∈ L
  · rw [hsd_mem h hx, decide_eq_true hx]
  · rw [decide_eq_false hx]
    unfold hsd
    refine decide_eq_false ?_
    rintro ⟨h1, h2⟩
    refine hx ?_
    cases hf : L.filter (nl x) with
    | nil => rw [hf] at h1; simp at h1
    | cons y R =>
      rw [hf] at h2
      simp [List.getD] at h2
      have : y ∈ L.filter (nl x) := by rw [hf]; exact List.mem_cons_self ..
      rw [← h2]; exact (List.mem_filter.1 this).1

set_option linter.unusedSimpArgs false in
set_option maxRecDepth 100000 in
set_option maxHeartbeats 8000000 in
theorem itempartTells_walk {w : World} (a : Option Addr) (len cap : Nat) (ls : List (List Int)) (hR : IsR w a len cap ls) (hwf : WfR ls) (ax : Option Addr) (nx cx : Nat) (x : List Int) (hX : IsI .u8 w ax nx cx x) (hbx : Bytes x) (most : Int) (_hmo : -9223372036854775808 ≤ most ∧ most ≤ 9223372036854775807) (hH : Ha w) :
    Calls Tryd.prog 4 #[.slice a len cap, .slice ax nx cx, .int .i64 most] w fun e w' => e = .returned (.bool true) ∧ Below w.heap.size w w' := by
  have HI : Hid (IsR w a len cap ls ∧ WfR ls ∧ Ha w) := ⟨hR, hwf, hH⟩
  have HX : Hid (IsI .u8 w ax nx cx x ∧ Bytes x) := ⟨hX, hbx⟩
  have hcap := hR.hc
  have hcm := hR.hm
  unfold maxLen at hcm
  clear hR hwf hH hX hbx
  go_enter Tryd.func4, Tryd.ntmps4
  go_wp2_with fail
  refine (awake_any w HI.out.2.2).mono ?_
  rintro e w1 ⟨rfl, hb1⟩
  have HB1 : Hid (Below w.heap.size w w1) := hb1
  clear hb1
  have HFw : Hid _ := few_any a len cap ls w1 (HI.out.1.below HB1.out)
  obtain ⟨fw, hfw⟩ : ∃ b, Hid (b = fewb ls) := ⟨_, rfl⟩
  rw [← hfw.out] at HFw
  go_wp2_with fail
  refine Calls.mono HFw.out ?_
  rintro e w2 ⟨rfl, hb2⟩
  have HB2 : Hid (Below w.heap.size w w2) := HB1.out.trans (hb2.mono HB1.out.size)
  clear hb2 HFw
  cases fw with
  | false =>
    go_wp2_with fail
    go_ret
    exact ⟨rfl, HB2.out⟩
  | true =>
    have hlen : len ≤ 100 := by
      have := (fewb_iff.1 hfw.out.symm).1
      have := HI.out.1.hl
      omega
    by_cases h3 : 500 < nx
    · have h3' : (500 : Int) < (nx : Int) := by omega
      go_wp2_with fail
      go_ret
      exact ⟨rfl, HB2.out⟩
    · have h3' : ¬ (500 : Int) < (nx : Int) := by omega
      have HCk : Hid _ := check_doc a len cap ls w2 (HI.out.1.below HB2.out) HI.out.2.1
      obtain ⟨kc, hkc⟩ : ∃ k, Hid (k = chkF ls) := ⟨_, rfl⟩
      rw [← hkc.out] at HCk
      go_wp2_with fail
      refine Calls.mono HCk.out ?_
      rintro e w3 ⟨rfl, hb3⟩
      have HB3 : Hid (Below w.heap.size w w3) := HB2.out.trans (hb3.mono HB2.out.size)
      clear hb3 HCk
      by_cases hk0 : kc = 0
      · subst hk0
        have hc0 := hkc.out.symm
        have hz3 := chkF_zero hc0
        have HRz : Hid (Rz ls ∧ 0 < ls.length ∧ (∀ y ∈ ls, y ≠ [])) := ⟨good_rz hz3.2.2, List.length_pos_iff.2 hz3.2.1, fun y hy => by
          obtain ⟨i, hi, rfl⟩ := List.getElem_of_mem hy
          have := (good_len hz3.2.2 hi).1
          simp only [List.getD, List.getElem?_eq_getElem hi, Option.getD_some] at this
          exact List.length_pos_iff.1 this⟩
        have hbt := bt_few hc0 (by have := HI.out.1.hl; omega) HI.out.2.1
        have hfl := fil_le hbt
        have HBu : Hid _ := build_any a len cap ls w3 (HI.out.1.below HB3.out) HI.out.2.1 (HI.out.2.2.below HB3.out) (by omega)
        rw [hbt] at HBu
        have HZ : Hid (bt ls = (0, fil ls) ∧ Bytes (fil ls)) := ⟨hbt, fil_bytes hc0 HI.out.2.1⟩
        clear hz3 hbt hc0
        go_wp2_with fail
        refine Calls.mono HBu.out ?_
        rintro e w4 ⟨hb4, v, rfl, ho⟩
        obtain ⟨ab, cb, rfl, hI4⟩ := own_isI ho
        dsimp only at hI4 ⊢
        obtain ⟨nb, hnb⟩ : ∃ n, n = (fil ls).length := ⟨_, rfl⟩
        rw [← hnb] at hI4 hfl ⊢
        have HB4 : Hid (Below w.heap.size w w4 ∧ IsI .u8 w4 ab nb cb (fil ls)) := ⟨HB3.out.trans (hb4.mono HB3.out.size), hI4⟩
        clear hb4 hI4 ho HBu hnb
        have HOp : Hid _ := open_any ab nb cb (fil ls) w4 HB4.out.2 HZ.out.2 (HI.out.2.2.below HB4.out.1) (by omega)
        go_wp2_with fail
        refine Calls.mono HOp.out ?_
        rintro e w5 ⟨hb5, (⟨L, q, hL, rfl, hP⟩ | ⟨hno, _⟩)⟩
        case inr => exact absurd HZ.out.1 (hno ls)
        obtain rfl := bt_inj hL HZ.out.1
        have H5 : Hid (PtI w5 q L ∧ Below w.heap.size w w5) := ⟨hP, HB4.out.1.trans (hb5.mono HB4.out.1.size)⟩
        clear hb5 hL hP HOp
        have HLn : Hid (L.length = len) := HI.out.1.hl
        go_wp2_with fail
        go_loopw [13, 14] (fun hv i wr => ∃ (k q' : Nat) (V : World), i = .int .i64 (k : Int) ∧ k ≤ len ∧ hv = .bool (decide (x ∈ L.take k)) ∧ Hid (Below w5.heap.size w5 V) ∧ wr = V.drewN q') (fun _ i _ => len - (RowKit.intOf i).toNat)
        case atStart => exact ⟨0, 0, w5, rfl, Nat.zero_le _, by simp, Below.refl _ _, (drewN_zero _).symm⟩
        case round =>
          obtain ⟨k, q', V, rfl, hk, rfl, HV, rfl⟩ := hrel
          by_cases hlt : k < len
          · have hlt' : (k : Int) < (len : Int) := by omega
            have hk0 : (0 : Int) ≤ (k : Int) := by omega
            have hw : IntKind.i64.wrap ((k : Int) + 1) = (k : Int) + 1 := by rw [IntKind.wrap_i64]; omega
            have hkl2 : k < L.length := by rw [HLn.out]; omega
            have hbV := H5.out.2.trans (HV.out.mono H5.out.2.size)
            obtain ⟨g, off, ai, ni, ci, rfl, hg, c0, hi⟩ := (HI.out.1.below hbV).rd.at hkl2
            have v0 := conv_drew V ai ci ni _ hi
            have v1 := conv_drew V ax cx nx _ (HX.out.1.below hbV)
            have hl := str_same (HI.out.2.1 _ (getD_memR hkl2)) HX.out.2
            have HM : Hid _ := mem_take L x hkl2
            obtain ⟨r, hr⟩ : ∃ r, Hid (r = decide (L.getD k [] = x)) := ⟨_, rfl⟩
            rw [← hr.out] at hl
            obtain ⟨h0, hh0⟩ : ∃ h0, Hid (h0 = decide (x ∈ L.take k)) := ⟨_, rfl⟩
            rw [← hh0.out]
            generalize strOfNums (L.getD k []) = M at *
            generalize strOfNums x = E at *
            clear hi hkl2 hbV
            cases h0 with
            | true =>
              go_wp2
              go_quiet (fail)
              go_wp2
              go_roundw
              case rel => exact ⟨k + 1, _, V, by go_num, by omega, by rw [HM.out, ← hh0.out]; rfl, HV, rfl⟩
              case measure => simp [RowKit.intOf]; omega
            | false =>
              go_wp2
              go_quiet (fail)
              go_wp2
              go_roundw
              case rel => exact ⟨k + 1, _, V, by go_num, by omega, by rw [HM.out, ← hh0.out, ← hr.out]; rfl, HV, rfl⟩
              case measure => simp [RowKit.intOf]; omega
          · have hlt' : ¬ (k : Int) < (len : Int) := by omega
            obtain rfl : k = len := by omega
            obtain ⟨wr, hwr⟩ : ∃ W, W = V.drewN q' := ⟨_, rfl⟩
            have hbr : Below w5.heap.size w5 wr := by rw [hwr]; exact HV.out.trans ((below_dr V q').mono HV.out.size)
            rw [← hwr]
            clear hwr HV
            have H9 : Hid (PtI wr q L ∧ Below w.heap.size w wr) := ⟨H5.out.1.below hbr, H5.out.2.trans (hbr.mono H5.out.2.size)⟩
            clear hbr
            obtain ⟨hb, hhb⟩ : ∃ b, b = hsd ((L.filter (nl x)).take 1) x := ⟨_, rfl⟩
            have hmem : decide (x ∈ L.take k) = hb := by rw [hhb, hsd_iff HRz.out.1, List.take_of_length_le (by rw [HLn.out]; exact Nat.le_refl _)]
            rw [hmem]
            have HH : Hid (hb = hsd ((L.filter (nl x)).take 1) x) := hhb
            clear hmem hhb
            have hpL : 0 < L.length := HRz.out.2.1
            have hlp : (0 : Int) < (k : Int) := by have := HLn.out; omega
            obtain ⟨g, off, rfl, hg, hcl⟩ : ∃ g off, a = some ⟨g, off, none⟩ ∧ g < w.heap.size ∧ ∀ i, i < L.length → ∃ ai ni ci, w.cell? ⟨g, off + i, none⟩ = some (.slice ai ni ci) ∧ IsI .u8 w ai ni ci (L.getD i []) := by
              rcases HI.out.1.rd with e | ⟨b, o, e1, e2, e3⟩
              · rw [e] at hpL; simp at hpL
              · exact ⟨b, o, e1, e2, e3⟩
            obtain ⟨af, nf, cf, d0, hF0⟩ := hcl 0 hpL
            obtain ⟨j, hj⟩ : ∃ j, j = k - 1 := ⟨_, rfl⟩
            obtain ⟨ag, ng, cg, d1, hF1⟩ := hcl j (by have := HLn.out; omega)
            have hjj : L.length - 1 = j := by have := HLn.out; omega
            have hj1 : (k : Int) - 1 = (j : Int) := by omega
            have hwj : IntKind.i64.wrap (j : Int) = (j : Int) := by rw [IntKind.wrap_i64]; omega
            have hj0 : (0 : Int) ≤ (j : Int) := by omega
            have hjl : (j : Int) < (k : Int) := by omega
            obtain ⟨l7, hl7⟩ : ∃ l, l = k + 7 := ⟨_, rfl⟩
            have hl7' : (k : Int) + 7 = (l7 : Int) := by omega
            have hw7 : IntKind.i64.wrap (l7 : Int) = (l7 : Int) := by rw [IntKind.wrap_i64]; omega
            obtain ⟨nb2, hnb2⟩ : ∃ l, l = l7 / 8 := ⟨_, rfl⟩
            have hq8 : (l7 : Int).tdiv 8 = (nb2 : Int) := by rw [hnb2]; rfl
            have hwb : IntKind.i64.wrap (nb2 : Int) = (nb2 : Int) := by rw [IntKind.wrap_i64]; omega
            have hchl : (ch L).length = nb2 := by rw [ch_len, HLn.out, hnb2, hl7]
            obtain ⟨S0, hS0⟩ : ∃ M, M = strOfNums (L.getD 0 []) := ⟨_, rfl⟩
            obtain ⟨S1, hS1⟩ : ∃ M, M = strOfNums (L.getD j []) := ⟨_, rfl⟩
            have HV : Hid (∀ W, Below wr.heap.size wr W → (W.cell? ⟨g, off, none⟩ = some (.slice af nf cf) ∧ Sem.run Tryd.prog (convert 23 9 (.slice af nf cf)) W = .ok (.string S0) W) ∧ W.cell? ⟨g, off + j, none⟩ = some (.slice ag ng cg) ∧ Sem.run Tryd.prog (convert 23 9 (.slice ag ng cg)) W = .ok (.string S1) W) := fun W hW => by
              have hb := H9.out.2.trans (hW.mono H9.out.2.size)
              rw [hS0, hS1]
              exact ⟨⟨(hb.cell (p := ⟨g, off, none⟩) hg).trans d0, conv_rd W af cf nf _ hF0.hl (hF0.below hb).rd⟩, (hb.cell (p := ⟨g, off + j, none⟩) hg).trans d1, conv_rd W ag cg ng _ hF1.hl (hF1.below hb).rd⟩
            have HC0 : Hid (∀ W (b : Option Addr) (m c : Nat), IsI .u8 W b m c (L.getD 0 []) → Sem.run Tryd.prog (convert 23 9 (.slice b m c)) W = .ok (.string S0) W) := fun W b m c h => by rw [hS0]; exact conv_rd W b c m _ h.hl h.rd
            have HC1 : Hid (∀ W (b : Option Addr) (m c : Nat), IsI .u8 W b m c (L.getD j []) → Sem.run Tryd.prog (convert 23 9 (.slice b m c)) W = .ok (.string S1) W) := fun W b m c h => by rw [hS1]; exact conv_rd W b c m _ h.hl h.rd
            obtain ⟨R1, hR1⟩ : ∃ R, R = (L.filter (nl x)).take most.toNat := ⟨_, rfl⟩
            obtain ⟨R2, hR2⟩ : ∃ R, R = L.filter (fun y => pfx y x) := ⟨_, rfl⟩
            have hw1 : WfR R1 := fun y hy => HI.out.2.1 y (by rw [hR1] at hy; exact (List.mem_filter.1 (List.mem_of_mem_take hy)).1)
            have hw2 : WfR R2 := fun y hy => HI.out.2.1 y (by rw [hR2] at hy; exact (List.mem_filter.1 hy).1)
            have HW : Hid (∀ W, Below wr.heap.size wr W → PtI W q L ∧ IsI .u8 W ax nx cx x ∧ IsR W (some ⟨g, off, none⟩) k cap L) := fun W hW => ⟨H9.out.1.below hW, HX.out.1.below (H9.out.2.trans (hW.mono H9.out.2.size)), HI.out.1.below (H9.out.2.trans (hW.mono H9.out.2.size))⟩
            have K18 : Hid (∀ W, Below wr.heap.size wr W → Calls Tryd.prog 18 #[.pointer (some ⟨q, 0, none⟩)] W fun e w' => e = .returned (.int .i64 (k : Int)) ∧ Below W.heap.size W w') := fun W hW => by
              have := len_any q L W (HW.out W hW).1
              rwa [HLn.out] at this
            have K19 : Hid (∀ W, Below wr.heap.size wr W → Calls Tryd.prog 19 #[.pointer (some ⟨q, 0, none⟩)] W fun e w' => e = .returned (.int .i64 (nb2 : Int)) ∧ w' = W) := fun W hW => by
              have := blocks_any q L W (HW.out W hW).1
              rwa [hchl] at this
            have K20 : Hid (∀ W, Below wr.heap.size wr W → Calls Tryd.prog 20 #[.pointer (some ⟨q, 0, none⟩)] W (NewI (L.getD 0 []) W)) := fun W hW => first_part q L W (HW.out W hW).1
            have K21 : Hid (∀ W, Below wr.heap.size wr W → Calls Tryd.prog 21 #[.pointer (some ⟨q, 0, none⟩)] W (NewI (L.getD j []) W)) := fun W hW => by
              have := last_part q L W (HW.out W hW).1
              rwa [hjj] at this
            have K22 : Hid (∀ W, Below wr.heap.size wr W → Calls Tryd.prog 22 #[.pointer (some ⟨q, 0, none⟩), .slice ax nx cx] W fun e w' => e = .returned (.bool hb) ∧ Below W.heap.size W w') := fun W hW => by
              rw [HH.out]; exact has_any q ax nx cx x L W (HW.out W hW).1 (HW.out W hW).2.1 HX.out.2
            have K16 : Hid (∀ W, Below wr.heap.size wr W → Calls Tryd.prog 16 #[.pointer (some ⟨q, 0, none⟩), .slice ax nx cx, .int .i64 most] W (Whl R1 W)) := fun W hW => by
              rw [hR1]; exact from_any q ax nx cx x L most W (HW.out W hW).1 (HW.out W hW).2.1 HX.out.2
            have K23 : Hid (∀ W, Below wr.heap.size wr W → Calls Tryd.prog 23 #[.slice (some ⟨g, off, none⟩) k cap, .slice ax nx cx, .int .i64 most] W (Out R1 W)) := fun W hW => by
              rw [hR1]; exact from_doc _ k cap L ax nx cx x most W (HW.out W hW).2.2 HI.out.2.1 (HW.out W hW).2.1 HX.out.2 (by omega)
            have K24 : Hid (∀ W, Below wr.heap.size wr W → Calls Tryd.prog 24 #[.pointer (some ⟨q, 0, none⟩), .slice ax nx cx] W (Whl R2 W)) := fun W hW => by
              have := prefixes_any q ax nx cx x L W (HW.out W hW).1 (HW.out W hW).2.1 HX.out.2
              rw [tw_pfx _ _ HRz.out.1] at this
              rw [hR2]; exact this
            have K25 : Hid (∀ W, Below wr.heap.size wr W → Calls Tryd.prog 25 #[.slice (some ⟨g, off, none⟩) k cap, .slice ax nx cx] W (Out R2 W)) := fun W hW => by
              rw [hR2]; exact prefix_doc _ k cap L ax nx cx x W (HW.out W hW).2.2 HI.out.2.1 (HW.out W hW).2.1 HX.out.2 (by omega)
            have KS : Hid (∀ (R : List (List Int)), WfR R → ∀ W (b1 : Option Addr) (m1 c1 : Nat) (b2 : Option Addr) (m2 c2 : Nat), IsR W b1 m1 c1 R → IsR W b2 m2 c2 R → Calls Tryd.prog 15 #[.slice b1 m1 c1, .slice b2 m2 c2] W fun e w' => e = .returned (.bool true) ∧ Below W.heap.size W w') := fun R hR W b1 m1 c1 b2 m2 c2 h1 h2 => by
              have := same_any b1 m1 c1 R b2 m2 c2 R W h1 hR h2 hR
              rwa [decide_eq_true rfl] at this
            clear hF0 hF1 hcl d0 d1 hj hl7 hnb2 hS0 hS1 hR1 hR2 hchl hjj
            go_wp2_with fail
            refine wp_region_M (by kernel_rfl) (by kernel_rfl) (fun _ W => Below wr.heap.size wr W) (TL [Ceq (.pointer (some ⟨q, 0, none⟩)), Ceq (.int .i64 (k : Int)), Ceq (.slice (some ⟨g, off, none⟩) k cap), Ceq (.int .i64 (k : Int)), Ceq (.bool true), Ceq (.bool true), Ceq (.pointer (some ⟨q, 0, none⟩)), Ceq (.int .i64 (nb2 : Int)), Ceq (.slice (some ⟨g, off, none⟩) k cap), Ceq (.int .i64 (k : Int)), Ceq (.int .i64 (l7 : Int)), Ceq (.int .i64 (nb2 : Int)), Ceq (.bool true), Ceq (.bool true), Ceq (.bool true), Ceq (.pointer (some ⟨q, 0, none⟩)), (fun v W => ∃ b m c, v = .slice b m c ∧ IsI .u8 W b m c (L.getD 0 [])), Ceq (.string S0), Ceq (.slice (some ⟨g, off, none⟩) k cap), Ceq (.pointer (some ⟨g, off, none⟩)), Ceq (.slice af nf cf), Ceq (.string S0), Ceq (.bool true), Ceq (.bool true), Ceq (.bool true), Ceq (.pointer (some ⟨q, 0, none⟩)), (fun v W => ∃ b m c, v = .slice b m c ∧ IsI .u8 W b m c (L.getD j [])), Ceq (.string S1), Ceq (.slice (some ⟨g, off, none⟩) k cap), Ceq (.slice (some ⟨g, off, none⟩) k cap), Ceq (.int .i64 (k : Int)), Ceq (.int .i64 (j : Int)), Ceq (.pointer (some ⟨g, off + j, none⟩)), Ceq (.slice ag ng cg), Ceq (.string S1), Ceq (.bool true), Ceq (.bool true), Ceq (.bool true), Ceq (.pointer (some ⟨q, 0, none⟩)), Ceq (.slice ax nx cx), Ceq (.bool hb), Ceq (.bool hb), Ceq (.bool true), Ceq (.bool true), Ceq (.bool true), Ceq (.pointer (some ⟨q, 0, none⟩)), Ceq (.slice ax nx cx), Ceq (.int .i64 most), (fun v W => ∃ b m c, v = .slice b m c ∧ IsR W b m c R1), Ceq (.slice (some ⟨g, off, none⟩) k cap), Ceq (.slice ax nx cx), Ceq (.int .i64 most), (fun v W => ∃ b m c, v = .slice b m c ∧ IsR W b m c R1), Ceq (.bool true), Ceq (.bool true), Ceq (.bool true), Ceq (.pointer (some ⟨q, 0, none⟩)), Ceq (.slice ax nx cx), (fun v W => ∃ b m c, v = .slice b m c ∧ IsR W b m c R2), Ceq (.slice (some ⟨g, off, none⟩) k cap), Ceq (.slice ax nx cx), (fun v W => ∃ b m c, v = .slice b m c ∧ IsR W b m c R2), Ceq (.bool true), Ceq (.bool true), Ceq (.bool true)]) (Below.refl _ _).drew (allL_cons ?_ (allL_cons ?_ (allL_cons ?_ (allL_cons ?_ (allL_cons ?_ (allL_cons ?_ (allL_cons ?_ (allL_cons ?_ (allL_cons ?_ (allL_cons ?_ (allL_cons ?_ (allL_cons ?_ (allL_cons ?_ (allL_cons ?_ (allL_cons ?_ (allL_cons ?_ (allL_cons ?_ (allL_cons ?_ (allL_cons ?_ (allL_cons ?_ (allL_cons ?_ (allL_cons ?_ (allL_cons ?_ (allL_cons ?_ (allL_cons ?_ (allL_cons ?_ (allL_cons ?_ (allL_cons ?_ (allL_cons ?_ (allL_cons ?_ (allL_cons ?_ (allL_cons ?_ (allL_cons ?_ (allL_cons ?_ (allL_cons ?_ (allL_cons ?_ (allL_cons ?_ (allL_cons ?_ (allL_cons ?_ (allL_cons ?_ (allL_cons ?_ (allL_cons ?_ (allL_cons ?_ (allL_cons ?_ (allL_cons ?_ (allL_cons ?_ (allL_cons ?_ (allL_cons ?_ (allL_cons ?_ (allL_cons ?_ (allL_cons ?_ (allL_cons ?_ (allL_cons ?_ (allL_cons ?_ (allL_cons ?_ (allL_cons ?_ (allL_cons ?_ (allL_cons ?_ (allL_cons ?_ (allL_cons ?_ (allL_cons ?_ (allL_cons ?_ (allL_cons ?_ (allL_cons ?_ (allL_cons ?_ allL_nil))))))))))))))))))))))))))))))))))))))))))))))))))))))))))))))))) ?_
            · intro Lq a wx hS h
              rw [if_pos (wanted_none rfl)]
              have s11 : a.eval (.tmp 11) = .pointer (some ⟨q, 0, none⟩) := (h.fix 11 (by kernel_rfl)).trans rfl
              have t11 := (ev_tmp a 11).symm.trans s11
              refine does_val (v := .pointer (some ⟨q, 0, none⟩)) (w' := wx) ?_ ⟨rfl, hS, fun _ _ _ h => h⟩
              simp [execOp, go_sem, t11]
            · intro Lq a wx hS h
              rw [if_pos (wanted_none rfl)]
              have s65 : a.eval (.tmp 65) = .pointer (some ⟨q, 0, none⟩) := h.slot 0 0 65 rfl rfl
              have t65 := (ev_tmp a 65).symm.trans s65
              refine does_call (f := 18) (args := #[.pointer (some ⟨q, 0, none⟩)]) (w' := wx) (by simp [go_sem, t65]) ?_
              refine Calls.mono (K18.out wx hS) ?_
              rintro r' w' ⟨rfl, hb'⟩
              exact ⟨_, rfl, rfl, hS.trans (hb'.mono hS.size), fun j' u' hj' hT => tl_stab (w := wx) (w' := w') (List.forall_mem_cons.2 ⟨fun _ h => h, (List.forall_mem_cons.2 ⟨fun _ h => h, (List.forall_mem_cons.2 ⟨fun _ h => h, (List.forall_mem_cons.2 ⟨fun _ h => h, (List.forall_mem_cons.2 ⟨fun _ h => h, (List.forall_mem_cons.2 ⟨fun _ h => h, (List.forall_mem_cons.2 ⟨fun _ h => h, (List.forall_mem_cons.2 ⟨fun _ h => h, (List.forall_mem_cons.2 ⟨fun _ h => h, (List.forall_mem_cons.2 ⟨fun _ h => h, (List.forall_mem_cons.2 ⟨fun _ h => h, (List.forall_mem_cons.2 ⟨fun _ h => h, (List.forall_mem_cons.2 ⟨fun _ h => h, (List.forall_mem_cons.2 ⟨fun _ h => h, (List.forall_mem_cons.2 ⟨fun _ h => h, (List.forall_mem_cons.2 ⟨fun _ h => h, (List.forall_mem_cons.2 ⟨fun _ ⟨b, m, c, e, h⟩ => ⟨b, m, c, e, h.below hb'⟩, (List.forall_mem_cons.2 ⟨fun _ h => h, (List.forall_mem_cons.2 ⟨fun _ h => h, (List.forall_mem_cons.2 ⟨fun _ h => h, (List.forall_mem_cons.2 ⟨fun _ h => h, (List.forall_mem_cons.2 ⟨fun _ h => h, (List.forall_mem_cons.2 ⟨fun _ h => h, (List.forall_mem_cons.2 ⟨fun _ h => h, (List.forall_mem_cons.2 ⟨fun _ h => h, (List.forall_mem_cons.2 ⟨fun _ h => h, (List.forall_mem_cons.2 ⟨fun _ ⟨b, m, c, e, h⟩ => ⟨b, m, c, e, h.below hb'⟩, (List.forall_mem_cons.2 ⟨fun _ h => h, (List.forall_mem_cons.2 ⟨fun _ h => h, (List.forall_mem_cons.2 ⟨fun _ h => h, (List.forall_mem_cons.2 ⟨fun _ h => h, (List.forall_mem_cons.2 ⟨fun _ h => h, (List.forall_mem_cons.2 ⟨fun _ h => h, (List.forall_mem_cons.2 ⟨fun _ h => h, (List.forall_mem_cons.2 ⟨fun _ h => h, (List.forall_mem_cons.2 ⟨fun _ h => h, (List.forall_mem_cons.2 ⟨fun _ h => h, (List.forall_mem_cons.2 ⟨fun _ h => h, (List.forall_mem_cons.2 ⟨fun _ h => h, (List.forall_mem_cons.2 ⟨fun _ h => h, (List.forall_mem_cons.2 ⟨fun _ h => h, (List.forall_mem_cons.2 ⟨fun _ h => h, (List.forall_mem_cons.2 ⟨fun _ h => h, (List.forall_mem_cons.2 ⟨fun _ h => h, (List.forall_mem_cons.2 ⟨fun _ h => h, (List.forall_mem_cons.2 ⟨fun _ h => h, (List.forall_mem_cons.2 ⟨fun _ h => h, (List.forall_mem_cons.2 ⟨fun _ h => h, (List.forall_mem_cons.2 ⟨fun _ ⟨b, m, c, e, h⟩ => ⟨b, m, c, e, h.below hb'⟩, (List.forall_mem_cons.2 ⟨fun _ h => h, (List.forall_mem_cons.2 ⟨fun _ h => h, (List.forall_mem_cons.2 ⟨fun _ h => h, (List.forall_mem_cons.2 ⟨fun _ ⟨b, m, c, e, h⟩ => ⟨b, m, c, e, h.below hb'⟩, (List.forall_mem_cons.2 ⟨fun _ h => h, (List.forall_mem_cons.2 ⟨fun _ h => h, (List.forall_mem_cons.2 ⟨fun _ h => h, (List.forall_mem_cons.2 ⟨fun _ h => h, (List.forall_mem_cons.2 ⟨fun _ h => h, (List.forall_mem_cons.2 ⟨fun _ ⟨b, m, c, e, h⟩ => ⟨b, m, c, e, h.below hb'⟩, (List.forall_mem_cons.2 ⟨fun _ h => h, (List.forall_mem_cons.2 ⟨fun _ h => h, (List.forall_mem_cons.2 ⟨fun _ ⟨b, m, c, e, h⟩ => ⟨b, m, c, e, h.below hb'⟩, (List.forall_mem_cons.2 ⟨fun _ h => h, (List.forall_mem_cons.2 ⟨fun _ h => h, (List.forall_mem_cons.2 ⟨fun _ h => h, (fun _ h => by cases h)⟩)⟩)⟩)⟩)⟩)⟩)⟩)⟩)⟩)⟩)⟩)⟩)⟩)⟩)⟩)⟩)⟩)⟩)⟩)⟩)⟩)⟩)⟩)⟩)⟩)⟩)⟩)⟩)⟩)⟩)⟩)⟩)⟩)⟩)⟩)⟩)⟩)⟩)⟩)⟩)⟩)⟩)⟩)⟩)⟩)⟩)⟩)⟩)⟩)⟩)⟩)⟩)⟩)⟩)⟩)⟩)⟩)⟩)⟩)⟩)⟩)⟩)⟩)⟩)⟩) hT⟩
            · intro Lq a wx hS h
              rw [if_pos (wanted_none rfl)]
              have s0 : a.eval (.tmp 0) = .slice (some ⟨g, off, none⟩) k cap := (h.fix 0 (by kernel_rfl)).trans rfl
              have t0 := (ev_tmp a 0).symm.trans s0
              refine does_val (v := .slice (some ⟨g, off, none⟩) k cap) (w' := wx) ?_ ⟨rfl, hS, fun _ _ _ h => h⟩
              simp [execOp, go_sem, t0]
            · intro Lq a wx hS h
              rw [if_pos (wanted_none rfl)]
              have s67 : a.eval (.tmp 67) = .slice (some ⟨g, off, none⟩) k cap := h.slot 0 2 67 rfl rfl
              have t67 := (ev_tmp a 67).symm.trans s67
              refine does_val (v := .int .i64 (k : Int)) (w' := wx) ?_ ⟨rfl, hS, fun _ _ _ h => h⟩
              simp [execOp, go_sem, t67]
            · intro Lq a wx hS h
              rw [if_pos (wanted_none rfl)]
              have s66 : a.eval (.tmp 66) = .int .i64 (k : Int) := h.slot 0 1 66 rfl rfl
              have t66 := (ev_tmp a 66).symm.trans s66
              have s68 : a.eval (.tmp 68) = .int .i64 (k : Int) := h.slot 1 3 68 rfl rfl
              have t68 := (ev_tmp a 68).symm.trans s68
              refine does_val (v := .bool true) (w' := wx) ?_ ⟨rfl, hS, fun _ _ _ h => h⟩
              simp [execOp, go_sem, t66, t68]
            · intro Lq a wx hS h
              rw [if_pos (wanted_none rfl)]
              have s69 : a.eval (.tmp 69) = .bool true := h.slot 0 4 69 rfl rfl
              have t69 := (ev_tmp a 69).symm.trans s69
              refine does_val (v := .bool true) (w' := wx) ?_ ⟨rfl, hS, fun _ _ _ h => h⟩
              simp [execOp, go_sem, t69]
            · intro Lq a wx hS h
              have gg : a.eval (.tmp 70) = .bool true := h.slot 0 5 70 rfl rfl
              rw [if_pos (wanted_of (g := 5) (d := 70) (b := true) rfl rfl gg)]
              have s11 : a.eval (.tmp 11) = .pointer (some ⟨q, 0, none⟩) := (h.fix 11 (by kernel_rfl)).trans rfl
              have t11 := (ev_tmp a 11).symm.trans s11
              refine does_val (v := .pointer (some ⟨q, 0, none⟩)) (w' := wx) ?_ ⟨rfl, hS, fun _ _ _ h => h⟩
              simp [execOp, go_sem, t11]
            · intro Lq a wx hS h
              have gg : a.eval (.tmp 70) = .bool true := h.slot 1 5 70 rfl rfl
              rw [if_pos (wanted_of (g := 5) (d := 70) (b := true) rfl rfl gg)]
              have s71 : a.eval (.tmp 71) = .pointer (some ⟨q, 0, none⟩) := h.slot 0 6 71 rfl rfl
              have t71 := (ev_tmp a 71).symm.trans s71
              refine does_call (f := 19) (args := #[.pointer (some ⟨q, 0, none⟩)]) (w' := wx) (by simp [go_sem, t71]) ?_
              refine Calls.mono (K19.out wx hS) ?_
              rintro r' w' ⟨rfl, rfl⟩
              exact ⟨_, rfl, rfl, hS, fun _ _ _ h => h⟩
            · intro Lq a wx hS h
              have gg : a.eval (.tmp 70) = .bool true := h.slot 0 5 70 rfl rfl
              rw [if_pos (wanted_of (g := 5) (d := 70) (b := true) rfl rfl gg)]
              have s0 : a.eval (.tmp 0) = .slice (some ⟨g, off, none⟩) k cap := (h.fix 0 (by kernel_rfl)).trans rfl
              have t0 := (ev_tmp a 0).symm.trans s0
              refine does_val (v := .slice (some ⟨g, off, none⟩) k cap) (w' := wx) ?_ ⟨rfl, hS, fun _ _ _ h => h⟩
              simp [execOp, go_sem, t0]
            · intro Lq a wx hS h
              have gg : a.eval (.tmp 70) = .bool true := h.slot 1 5 70 rfl rfl
              rw [if_pos (wanted_of (g := 5) (d := 70) (b := true) rfl rfl gg)]
              have s73 : a.eval (.tmp 73) = .slice (some ⟨g, off, none⟩) k cap := h.slot 0 8 73 rfl rfl
              have t73 := (ev_tmp a 73).symm.trans s73
              refine does_val (v := .int .i64 (k : Int)) (w' := wx) ?_ ⟨rfl, hS, fun _ _ _ h => h⟩
              simp [execOp, go_sem, t73]
            · intro Lq a wx hS h
              have gg : a.eval (.tmp 70) = .bool true := h.slot 1 5 70 rfl rfl
              rw [if_pos (wanted_of (g := 5) (d := 70) (b := true) rfl rfl gg)]
              have s74 : a.eval (.tmp 74) = .int .i64 (k : Int) := h.slot 0 9 74 rfl rfl
              have t74 := (ev_tmp a 74).symm.trans s74
              refine does_val (v := .int .i64 (l7 : Int)) (w' := wx) ?_ ⟨rfl, hS, fun _ _ _ h => h⟩
              simp [execOp, go_sem, t74, hl7', hw7]
            · intro Lq a wx hS h
              have gg : a.eval (.tmp 70) = .bool true := h.slot 1 5 70 rfl rfl
              rw [if_pos (wanted_of (g := 5) (d := 70) (b := true) rfl rfl gg)]
              have s75 : a.eval (.tmp 75) = .int .i64 (l7 : Int) := h.slot 0 10 75 rfl rfl
              have t75 := (ev_tmp a 75).symm.trans s75
              refine does_val (v := .int .i64 (nb2 : Int)) (w' := wx) ?_ ⟨rfl, hS, fun _ _ _ h => h⟩
              simp [execOp, go_sem, t75, hq8, hwb]
            · intro Lq a wx hS h
              have gg : a.eval (.tmp 70) = .bool true := h.slot 2 5 70 rfl rfl
              rw [if_pos (wanted_of (g := 5) (d := 70) (b := true) rfl rfl gg)]
              have s72 : a.eval (.tmp 72) = .int .i64 (nb2 : Int) := h.slot 0 7 72 rfl rfl
              have t72 := (ev_tmp a 72).symm.trans s72
              have s76 : a.eval (.tmp 76) = .int .i64 (nb2 : Int) := h.slot 1 11 76 rfl rfl
              have t76 := (ev_tmp a 76).symm.trans s76
              refine does_val (v := .bool true) (w' := wx) ?_ ⟨rfl, hS, fun _ _ _ h => h⟩
              simp [execOp, go_sem, t72, t76]
            · intro Lq a wx hS h
              rw [if_pos (wanted_none rfl)]
              have s70 : a.eval (.tmp 70) = .bool true := h.slot 0 5 70 rfl rfl
              have t70 := (ev_tmp a 70).symm.trans s70
              have s77 : a.eval (.tmp 77) = .bool true := h.slot 1 12 77 rfl rfl
              have t77 := (ev_tmp a 77).symm.trans s77
              refine does_val (v := .bool true) (w' := wx) ?_ ⟨rfl, hS, fun _ _ _ h => h⟩
              simp [execOp, go_sem, t70, t77]
            · intro Lq a wx hS h
              rw [if_pos (wanted_none rfl)]
              have s78 : a.eval (.tmp 78) = .bool true := h.slot 0 13 78 rfl rfl
              have t78 := (ev_tmp a 78).symm.trans s78
              refine does_val (v := .bool true) (w' := wx) ?_ ⟨rfl, hS, fun _ _ _ h => h⟩
              simp [execOp, go_sem, t78]
            · intro Lq a wx hS h
              have gg : a.eval (.tmp 79) = .bool true := h.slot 0 14 79 rfl rfl
              rw [if_pos (wanted_of (g := 14) (d := 79) (b := true) rfl rfl gg)]
              have s11 : a.eval (.tmp 11) = .pointer (some ⟨q, 0, none⟩) := (h.fix 11 (by kernel_rfl)).trans rfl
              have t11 := (ev_tmp a 11).symm.trans s11
              refine does_val (v := .pointer (some ⟨q, 0, none⟩)) (w' := wx) ?_ ⟨rfl, hS, fun _ _ _ h => h⟩
              simp [execOp, go_sem, t11]
            · intro Lq a wx hS h
              have gg : a.eval (.tmp 79) = .bool true := h.slot 1 14 79 rfl rfl
              rw [if_pos (wanted_of (g := 14) (d := 79) (b := true) rfl rfl gg)]
              have s80 : a.eval (.tmp 80) = .pointer (some ⟨q, 0, none⟩) := h.slot 0 15 80 rfl rfl
              have t80 := (ev_tmp a 80).symm.trans s80
              refine does_call (f := 20) (args := #[.pointer (some ⟨q, 0, none⟩)]) (w' := wx) (by simp [go_sem, t80]) ?_
              refine Calls.mono (K20.out wx hS) ?_
              rintro r' w' ⟨hb', b0, m0, c0, rfl, hR0⟩
              exact ⟨_, rfl, ⟨b0, m0, c0, rfl, hR0⟩, hS.trans (hb'.mono hS.size), fun j' u' hj' hT => tl_stab (w := wx) (w' := w') (List.forall_mem_cons.2 ⟨fun _ h => h, (List.forall_mem_cons.2 ⟨fun _ h => h, (List.forall_mem_cons.2 ⟨fun _ h => h, (List.forall_mem_cons.2 ⟨fun _ h => h, (List.forall_mem_cons.2 ⟨fun _ h => h, (List.forall_mem_cons.2 ⟨fun _ h => h, (List.forall_mem_cons.2 ⟨fun _ h => h, (List.forall_mem_cons.2 ⟨fun _ h => h, (List.forall_mem_cons.2 ⟨fun _ h => h, (List.forall_mem_cons.2 ⟨fun _ h => h, (List.forall_mem_cons.2 ⟨fun _ h => h, (List.forall_mem_cons.2 ⟨fun _ h => h, (List.forall_mem_cons.2 ⟨fun _ h => h, (List.forall_mem_cons.2 ⟨fun _ h => h, (List.forall_mem_cons.2 ⟨fun _ h => h, (List.forall_mem_cons.2 ⟨fun _ h => h, (List.forall_mem_cons.2 ⟨fun _ ⟨b, m, c, e, h⟩ => ⟨b, m, c, e, h.below hb'⟩, (List.forall_mem_cons.2 ⟨fun _ h => h, (List.forall_mem_cons.2 ⟨fun _ h => h, (List.forall_mem_cons.2 ⟨fun _ h => h, (List.forall_mem_cons.2 ⟨fun _ h => h, (List.forall_mem_cons.2 ⟨fun _ h => h, (List.forall_mem_cons.2 ⟨fun _ h => h, (List.forall_mem_cons.2 ⟨fun _ h => h, (List.forall_mem_cons.2 ⟨fun _ h => h, (List.forall_mem_cons.2 ⟨fun _ h => h, (List.forall_mem_cons.2 ⟨fun _ ⟨b, m, c, e, h⟩ => ⟨b, m, c, e, h.below hb'⟩, (List.forall_mem_cons.2 ⟨fun _ h => h, (List.forall_mem_cons.2 ⟨fun _ h => h, (List.forall_mem_cons.2 ⟨fun _ h => h, (List.forall_mem_cons.2 ⟨fun _ h => h, (List.forall_mem_cons.2 ⟨fun _ h => h, (List.forall_mem_cons.2 ⟨fun _ h => h, (List.forall_mem_cons.2 ⟨fun _ h => h, (List.forall_mem_cons.2 ⟨fun _ h => h, (List.forall_mem_cons.2 ⟨fun _ h => h, (List.forall_mem_cons.2 ⟨fun _ h => h, (List.forall_mem_cons.2 ⟨fun _ h => h, (List.forall_mem_cons.2 ⟨fun _ h => h, (List.forall_mem_cons.2 ⟨fun _ h => h, (List.forall_mem_cons.2 ⟨fun _ h => h, (List.forall_mem_cons.2 ⟨fun _ h => h, (List.forall_mem_cons.2 ⟨fun _ h => h, (List.forall_mem_cons.2 ⟨fun _ h => h, (List.forall_mem_cons.2 ⟨fun _ h => h, (List.forall_mem_cons.2 ⟨fun _ h => h, (List.forall_mem_cons.2 ⟨fun _ h => h, (List.forall_mem_cons.2 ⟨fun _ h => h, (List.forall_mem_cons.2 ⟨fun _ ⟨b, m, c, e, h⟩ => ⟨b, m, c, e, h.below hb'⟩, (List.forall_mem_cons.2 ⟨fun _ h => h, (List.forall_mem_cons.2 ⟨fun _ h => h, (List.forall_mem_cons.2 ⟨fun _ h => h, (List.forall_mem_cons.2 ⟨fun _ ⟨b, m, c, e, h⟩ => ⟨b, m, c, e, h.below hb'⟩, (List.forall_mem_cons.2 ⟨fun _ h => h, (List.forall_mem_cons.2 ⟨fun _ h => h, (List.forall_mem_cons.2 ⟨fun _ h => h, (List.forall_mem_cons.2 ⟨fun _ h => h, (List.forall_mem_cons.2 ⟨fun _ h => h, (List.forall_mem_cons.2 ⟨fun _ ⟨b, m, c, e, h⟩ => ⟨b, m, c, e, h.below hb'⟩, (List.forall_mem_cons.2 ⟨fun _ h => h, (List.forall_mem_cons.2 ⟨fun _ h => h, (List.forall_mem_cons.2 ⟨fun _ ⟨b, m, c, e, h⟩ => ⟨b, m, c, e, h.below hb'⟩, (List.forall_mem_cons.2 ⟨fun _ h => h, (List.forall_mem_cons.2 ⟨fun _ h => h, (List.forall_mem_cons.2 ⟨fun _ h => h, (fun _ h => by cases h)⟩)⟩)⟩)⟩)⟩)⟩)⟩)⟩)⟩)⟩)⟩)⟩)⟩)⟩)⟩)⟩)⟩)⟩)⟩)⟩)⟩)⟩)⟩)⟩)⟩)⟩)⟩)⟩)⟩)⟩)⟩)⟩)⟩)⟩)⟩)⟩)⟩)⟩)⟩)⟩)⟩)⟩)⟩)⟩)⟩)⟩)⟩)⟩)⟩)⟩)⟩)⟩)⟩)⟩)⟩)⟩)⟩)⟩)⟩)⟩)⟩)⟩)⟩)⟩)⟩) hT⟩
            · intro Lq a wx hS h
              have gg : a.eval (.tmp 79) = .bool true := h.slot 1 14 79 rfl rfl
              rw [if_pos (wanted_of (g := 14) (d := 79) (b := true) rfl rfl gg)]
              obtain ⟨b81, m81, c81, s81, i81⟩ := (h.slot 0 16 81 rfl rfl : (fun v W => ∃ b m c, v = .slice b m c ∧ IsI .u8 W b m c (L.getD 0 [])) (a.eval (.tmp 81)) wx)
              have t81 := (ev_tmp a 81).symm.trans s81
              refine does_val (v := .string S0) (w' := wx) ?_ ⟨rfl, hS, fun _ _ _ h => h⟩
              simp [execOp, go_sem, t81, HC0.out wx _ _ _ i81]
            · intro Lq a wx hS h
              have gg : a.eval (.tmp 79) = .bool true := h.slot 0 14 79 rfl rfl
              rw [if_pos (wanted_of (g := 14) (d := 79) (b := true) rfl rfl gg)]
              have s0 : a.eval (.tmp 0) = .slice (some ⟨g, off, none⟩) k cap := (h.fix 0 (by kernel_rfl)).trans rfl
              have t0 := (ev_tmp a 0).symm.trans s0
              refine does_val (v := .slice (some ⟨g, off, none⟩) k cap) (w' := wx) ?_ ⟨rfl, hS, fun _ _ _ h => h⟩
              simp [execOp, go_sem, t0]
            · intro Lq a wx hS h
              have gg : a.eval (.tmp 79) = .bool true := h.slot 1 14 79 rfl rfl
              rw [if_pos (wanted_of (g := 14) (d := 79) (b := true) rfl rfl gg)]
              have s83 : a.eval (.tmp 83) = .slice (some ⟨g, off, none⟩) k cap := h.slot 0 18 83 rfl rfl
              have t83 := (ev_tmp a 83).symm.trans s83
              refine does_val (v := .pointer (some ⟨g, off, none⟩)) (w' := wx) ?_ ⟨rfl, hS, fun _ _ _ h => h⟩
              simp [execOp, go_sem, t83, hlp]
              first | done | (intro h; omega)
            · intro Lq a wx hS h
              have gg : a.eval (.tmp 79) = .bool true := h.slot 1 14 79 rfl rfl
              rw [if_pos (wanted_of (g := 14) (d := 79) (b := true) rfl rfl gg)]
              have s84 : a.eval (.tmp 84) = .pointer (some ⟨g, off, none⟩) := h.slot 0 19 84 rfl rfl
              have t84 := (ev_tmp a 84).symm.trans s84
              refine does_val (v := .slice af nf cf) (w' := wx) ?_ ⟨rfl, hS, fun _ _ _ h => h⟩
              simp [execOp, go_sem, t84, (HV.out wx hS).1.1]
            · intro Lq a wx hS h
              have gg : a.eval (.tmp 79) = .bool true := h.slot 1 14 79 rfl rfl
              rw [if_pos (wanted_of (g := 14) (d := 79) (b := true) rfl rfl gg)]
              have s85 : a.eval (.tmp 85) = .slice af nf cf := h.slot 0 20 85 rfl rfl
              have t85 := (ev_tmp a 85).symm.trans s85
              refine does_val (v := .string S0) (w' := wx) ?_ ⟨rfl, hS, fun _ _ _ h => h⟩
              simp [execOp, go_sem, t85, (HV.out wx hS).1.2]
            · intro Lq a wx hS h
              have gg : a.eval (.tmp 79) = .bool true := h.slot 2 14 79 rfl rfl
              rw [if_pos (wanted_of (g := 14) (d := 79) (b := true) rfl rfl gg)]
              have s82 : a.eval (.tmp 82) = .string S0 := h.slot 0 17 82 rfl rfl
              have t82 := (ev_tmp a 82).symm.trans s82
              have s86 : a.eval (.tmp 86) = .string S0 := h.slot 1 21 86 rfl rfl
              have t86 := (ev_tmp a 86).symm.trans s86
              refine does_val (v := .bool true) (w' := wx) ?_ ⟨rfl, hS, fun _ _ _ h => h⟩
              simp [execOp, go_sem, t82, t86]
            · intro Lq a wx hS h
              rw [if_pos (wanted_none rfl)]
              have s79 : a.eval (.tmp 79) = .bool true := h.slot 0 14 79 rfl rfl
              have t79 := (ev_tmp a 79).symm.trans s79
              have s87 : a.eval (.tmp 87) = .bool true := h.slot 1 22 87 rfl rfl
              have t87 := (ev_tmp a 87).symm.trans s87
              refine does_val (v := .bool true) (w' := wx) ?_ ⟨rfl, hS, fun _ _ _ h => h⟩
              simp [execOp, go_sem, t79, t87]
            · intro Lq a wx hS h
              rw [if_pos (wanted_none rfl)]
              have s88 : a.eval (.tmp 88) = .bool true := h.slot 0 23 88 rfl rfl
              have t88 := (ev_tmp a 88).symm.trans s88
              refine does_val (v := .bool true) (w' := wx) ?_ ⟨rfl, hS, fun _ _ _ h => h⟩
              simp [execOp, go_sem, t88]
            · intro Lq a wx hS h
              have gg : a.eval (.tmp 89) = .bool true := h.slot 0 24 89 rfl rfl
              rw [if_pos (wanted_of (g := 24) (d := 89) (b := true) rfl rfl gg)]
              have s11 : a.eval (.tmp 11) = .pointer (some ⟨q, 0, none⟩) := (h.fix 11 (by kernel_rfl)).trans rfl
              have t11 := (ev_tmp a 11).symm.trans s11
              refine does_val (v := .pointer (some ⟨q, 0, none⟩)) (w' := wx) ?_ ⟨rfl, hS, fun _ _ _ h => h⟩
              simp [execOp, go_sem, t11]
            · intro Lq a wx hS h
              have gg : a.eval (.tmp 89) = .bool true := h.slot 1 24 89 rfl rfl
              rw [if_pos (wanted_of (g := 24) (d := 89) (b := true) rfl rfl gg)]
              have s90 : a.eval (.tmp 90) = .pointer (some ⟨q, 0, none⟩) := h.slot 0 25 90 rfl rfl
              have t90 := (ev_tmp a 90).symm.trans s90
              refine does_call (f := 21) (args := #[.pointer (some ⟨q, 0, none⟩)]) (w' := wx) (by simp [go_sem, t90]) ?_
              refine Calls.mono (K21.out wx hS) ?_
              rintro r' w' ⟨hb', b0, m0, c0, rfl, hR0⟩
              exact ⟨_, rfl, ⟨b0, m0, c0, rfl, hR0⟩, hS.trans (hb'.mono hS.size), fun j' u' hj' hT => tl_stab (w := wx) (w' := w') (List.forall_mem_cons.2 ⟨fun _ h => h, (List.forall_mem_cons.2 ⟨fun _ h => h, (List.forall_mem_cons.2 ⟨fun _ h => h, (List.forall_mem_cons.2 ⟨fun _ h => h, (List.forall_mem_cons.2 ⟨fun _ h => h, (List.forall_mem_cons.2 ⟨fun _ h => h, (List.forall_mem_cons.2 ⟨fun _ h => h, (List.forall_mem_cons.2 ⟨fun _ h => h, (List.forall_mem_cons.2 ⟨fun _ h => h, (List.forall_mem_cons.2 ⟨fun _ h => h, (List.forall_mem_cons.2 ⟨fun _ h => h, (List.forall_mem_cons.2 ⟨fun _ h => h, (List.forall_mem_cons.2 ⟨fun _ h => h, (List.forall_mem_cons.2 ⟨fun _ h => h, (List.forall_mem_cons.2 ⟨fun _ h => h, (List.forall_mem_cons.2 ⟨fun _ h => h, (List.forall_mem_cons.2 ⟨fun _ ⟨b, m, c, e, h⟩ => ⟨b, m, c, e, h.below hb'⟩, (List.forall_mem_cons.2 ⟨fun _ h => h, (List.forall_mem_cons.2 ⟨fun _ h => h, (List.forall_mem_cons.2 ⟨fun _ h => h, (List.forall_mem_cons.2 ⟨fun _ h => h, (List.forall_mem_cons.2 ⟨fun _ h => h, (List.forall_mem_cons.2 ⟨fun _ h => h, (List.forall_mem_cons.2 ⟨fun _ h => h, (List.forall_mem_cons.2 ⟨fun _ h => h, (List.forall_mem_cons.2 ⟨fun _ h => h, (List.forall_mem_cons.2 ⟨fun _ ⟨b, m, c, e, h⟩ => ⟨b, m, c, e, h.below hb'⟩, (List.forall_mem_cons.2 ⟨fun _ h => h, (List.forall_mem_cons.2 ⟨fun _ h => h, (List.forall_mem_cons.2 ⟨fun _ h => h, (List.forall_mem_cons.2 ⟨fun _ h => h, (List.forall_mem_cons.2 ⟨fun _ h => h, (List.forall_mem_cons.2 ⟨fun _ h => h, (List.forall_mem_cons.2 ⟨fun _ h => h, (List.forall_mem_cons.2 ⟨fun _ h => h, (List.forall_mem_cons.2 ⟨fun _ h => h, (List.forall_mem_cons.2 ⟨fun _ h => h, (List.forall_mem_cons.2 ⟨fun _ h => h, (List.forall_mem_cons.2 ⟨fun _ h => h, (List.forall_mem_cons.2 ⟨fun _ h => h, (List.forall_mem_cons.2 ⟨fun _ h => h, (List.forall_mem_cons.2 ⟨fun _ h => h, (List.forall_mem_cons.2 ⟨fun _ h => h, (List.forall_mem_cons.2 ⟨fun _ h => h, (List.forall_mem_cons.2 ⟨fun _ h => h, (List.forall_mem_cons.2 ⟨fun _ h => h, (List.forall_mem_cons.2 ⟨fun _ h => h, (List.forall_mem_cons.2 ⟨fun _ h => h, (List.forall_mem_cons.2 ⟨fun _ ⟨b, m, c, e, h⟩ => ⟨b, m, c, e, h.below hb'⟩, (List.forall_mem_cons.2 ⟨fun _ h => h, (List.forall_mem_cons.2 ⟨fun _ h => h, (List.forall_mem_cons.2 ⟨fun _ h => h, (List.forall_mem_cons.2 ⟨fun _ ⟨b, m, c, e, h⟩ => ⟨b, m, c, e, h.below hb'⟩, (List.forall_mem_cons.2 ⟨fun _ h => h, (List.forall_mem_cons.2 ⟨fun _ h => h, (List.forall_mem_cons.2 ⟨fun _ h => h, (List.forall_mem_cons.2 ⟨fun _ h => h, (List.forall_mem_cons.2 ⟨fun _ h => h, (List.forall_mem_cons.2 ⟨fun _ ⟨b, m, c, e, h⟩ => ⟨b, m, c, e, h.below hb'⟩, (List.forall_mem_cons.2 ⟨fun _ h => h, (List.forall_mem_cons.2 ⟨fun _ h => h, (List.forall_mem_cons.2 ⟨fun _ ⟨b, m, c, e, h⟩ => ⟨b, m, c, e, h.below hb'⟩, (List.forall_mem_cons.2 ⟨fun _ h => h, (List.forall_mem_cons.2 ⟨fun _ h => h, (List.forall_mem_cons.2 ⟨fun _ h => h, (fun _ h => by cases h)⟩)⟩)⟩)⟩)⟩)⟩)⟩)⟩)⟩)⟩)⟩)⟩)⟩)⟩)⟩)⟩)⟩)⟩)⟩)⟩)⟩)⟩)⟩)⟩)⟩)⟩)⟩)⟩)⟩)⟩)⟩)⟩)⟩)⟩)⟩)⟩)⟩)⟩)⟩)⟩)⟩)⟩)⟩)⟩)⟩)⟩)⟩)⟩)⟩)⟩)⟩)⟩)⟩)⟩)⟩)⟩)⟩)⟩)⟩)⟩)⟩)⟩)⟩)⟩)⟩) hT⟩
            · intro Lq a wx hS h
              have gg : a.eval (.tmp 89) = .bool true := h.slot 1 24 89 rfl rfl
              rw [if_pos (wanted_of (g := 24) (d := 89) (b := true) rfl rfl gg)]
              obtain ⟨b91, m91, c91, s91, i91⟩ := (h.slot 0 26 91 rfl rfl : (fun v W => ∃ b m c, v = .slice b m c ∧ IsI .u8 W b m c (L.getD j [])) (a.eval (.tmp 91)) wx)
              have t91 := (ev_tmp a 91).symm.trans s91
              refine does_val (v := .string S1) (w' := wx) ?_ ⟨rfl, hS, fun _ _ _ h => h⟩
              simp [execOp, go_sem, t91, HC1.out wx _ _ _ i91]
            · intro Lq a wx hS h
              have gg : a.eval (.tmp 89) = .bool true := h.slot 0 24 89 rfl rfl
              rw [if_pos (wanted_of (g := 24) (d := 89) (b := true) rfl rfl gg)]
              have s0 : a.eval (.tmp 0) = .slice (some ⟨g, off, none⟩) k cap := (h.fix 0 (by kernel_rfl)).trans rfl
              have t0 := (ev_tmp a 0).symm.trans s0
              refine does_val (v := .slice (some ⟨g, off, none⟩) k cap) (w' := wx) ?_ ⟨rfl, hS, fun _ _ _ h => h⟩
              simp [execOp, go_sem, t0]
            · intro Lq a wx hS h
              have gg : a.eval (.tmp 89) = .bool true := h.slot 0 24 89 rfl rfl
              rw [if_pos (wanted_of (g := 24) (d := 89) (b := true) rfl rfl gg)]
              have s0 : a.eval (.tmp 0) = .slice (some ⟨g, off, none⟩) k cap := (h.fix 0 (by kernel_rfl)).trans rfl
              have t0 := (ev_tmp a 0).symm.trans s0
              refine does_val (v := .slice (some ⟨g, off, none⟩) k cap) (w' := wx) ?_ ⟨rfl, hS, fun _ _ _ h => h⟩
              simp [execOp, go_sem, t0]
            · intro Lq a wx hS h
              have gg : a.eval (.tmp 89) = .bool true := h.slot 1 24 89 rfl rfl
              rw [if_pos (wanted_of (g := 24) (d := 89) (b := true) rfl rfl gg)]
              have s94 : a.eval (.tmp 94) = .slice (some ⟨g, off, none⟩) k cap := h.slot 0 29 94 rfl rfl
              have t94 := (ev_tmp a 94).symm.trans s94
              refine does_val (v := .int .i64 (k : Int)) (w' := wx) ?_ ⟨rfl, hS, fun _ _ _ h => h⟩
              simp [execOp, go_sem, t94]
            · intro Lq a wx hS h
              have gg : a.eval (.tmp 89) = .bool true := h.slot 1 24 89 rfl rfl
              rw [if_pos (wanted_of (g := 24) (d := 89) (b := true) rfl rfl gg)]
              have s95 : a.eval (.tmp 95) = .int .i64 (k : Int) := h.slot 0 30 95 rfl rfl
              have t95 := (ev_tmp a 95).symm.trans s95
              refine does_val (v := .int .i64 (j : Int)) (w' := wx) ?_ ⟨rfl, hS, fun _ _ _ h => h⟩
              simp [execOp, go_sem, t95, hj1, hwj]
            · intro Lq a wx hS h
              have gg : a.eval (.tmp 89) = .bool true := h.slot 2 24 89 rfl rfl
              rw [if_pos (wanted_of (g := 24) (d := 89) (b := true) rfl rfl gg)]
              have s93 : a.eval (.tmp 93) = .slice (some ⟨g, off, none⟩) k cap := h.slot 0 28 93 rfl rfl
              have t93 := (ev_tmp a 93).symm.trans s93
              have s96 : a.eval (.tmp 96) = .int .i64 (j : Int) := h.slot 1 31 96 rfl rfl
              have t96 := (ev_tmp a 96).symm.trans s96
              refine does_val (v := .pointer (some ⟨g, off + j, none⟩)) (w' := wx) ?_ ⟨rfl, hS, fun _ _ _ h => h⟩
              simp [execOp, go_sem, t93, t96, hj0, hjl, Addr.add]
            · intro Lq a wx hS h
              have gg : a.eval (.tmp 89) = .bool true := h.slot 1 24 89 rfl rfl
              rw [if_pos (wanted_of (g := 24) (d := 89) (b := true) rfl rfl gg)]
              have s97 : a.eval (.tmp 97) = .pointer (some ⟨g, off + j, none⟩) := h.slot 0 32 97 rfl rfl
              have t97 := (ev_tmp a 97).symm.trans s97
              refine does_val (v := .slice ag ng cg) (w' := wx) ?_ ⟨rfl, hS, fun _ _ _ h => h⟩
              simp [execOp, go_sem, t97, (HV.out wx hS).2.1]
            · intro Lq a wx hS h
              have gg : a.eval (.tmp 89) = .bool true := h.slot 1 24 89 rfl rfl
              rw [if_pos (wanted_of (g := 24) (d := 89) (b := true) rfl rfl gg)]
              have s98 : a.eval (.tmp 98) = .slice ag ng cg := h.slot 0 33 98 rfl rfl
              have t98 := (ev_tmp a 98).symm.trans s98
              refine does_val (v := .string S1) (w' := wx) ?_ ⟨rfl, hS, fun _ _ _ h => h⟩
              simp [execOp, go_sem, t98, (HV.out wx hS).2.2]
            · intro Lq a wx hS h
              have gg : a.eval (.tmp 89) = .bool true := h.slot 2 24 89 rfl rfl
              rw [if_pos (wanted_of (g := 24) (d := 89) (b := true) rfl rfl gg)]
              have s92 : a.eval (.tmp 92) = .string S1 := h.slot 0 27 92 rfl rfl
              have t92 := (ev_tmp a 92).symm.trans s92
              have s99 : a.eval (.tmp 99) = .string S1 := h.slot 1 34 99 rfl rfl
              have t99 := (ev_tmp a 99).symm.trans s99
              refine does_val (v := .bool true) (w' := wx) ?_ ⟨rfl, hS, fun _ _ _ h => h⟩
              simp [execOp, go_sem, t92, t99]
            · intro Lq a wx hS h
              rw [if_pos (wanted_none rfl)]
              have s89 : a.eval (.tmp 89) = .bool true := h.slot 0 24 89 rfl rfl
              have t89 := (ev_tmp a 89).symm.trans s89
              have s100 : a.eval (.tmp 100) = .bool true := h.slot 1 35 100 rfl rfl
              have t100 := (ev_tmp a 100).symm.trans s100
              refine does_val (v := .bool true) (w' := wx) ?_ ⟨rfl, hS, fun _ _ _ h => h⟩
              simp [execOp, go_sem, t89, t100]
            · intro Lq a wx hS h
              rw [if_pos (wanted_none rfl)]
              have s101 : a.eval (.tmp 101) = .bool true := h.slot 0 36 101 rfl rfl
              have t101 := (ev_tmp a 101).symm.trans s101
              refine does_val (v := .bool true) (w' := wx) ?_ ⟨rfl, hS, fun _ _ _ h => h⟩
              simp [execOp, go_sem, t101]
            · intro Lq a wx hS h
              have gg : a.eval (.tmp 102) = .bool true := h.slot 0 37 102 rfl rfl
              rw [if_pos (wanted_of (g := 37) (d := 102) (b := true) rfl rfl gg)]
              have s11 : a.eval (.tmp 11) = .pointer (some ⟨q, 0, none⟩) := (h.fix 11 (by kernel_rfl)).trans rfl
              have t11 := (ev_tmp a 11).symm.trans s11
              refine does_val (v := .pointer (some ⟨q, 0, none⟩)) (w' := wx) ?_ ⟨rfl, hS, fun _ _ _ h => h⟩
              simp [execOp, go_sem, t11]
            · intro Lq a wx hS h
              have gg : a.eval (.tmp 102) = .bool true := h.slot 0 37 102 rfl rfl
              rw [if_pos (wanted_of (g := 37) (d := 102) (b := true) rfl rfl gg)]
              have s1 : a.eval (.tmp 1) = .slice ax nx cx := (h.fix 1 (by kernel_rfl)).trans rfl
              have t1 := (ev_tmp a 1).symm.trans s1
              refine does_val (v := .slice ax nx cx) (w' := wx) ?_ ⟨rfl, hS, fun _ _ _ h => h⟩
              simp [execOp, go_sem, t1]
            · intro Lq a wx hS h
              have gg : a.eval (.tmp 102) = .bool true := h.slot 2 37 102 rfl rfl
              rw [if_pos (wanted_of (g := 37) (d := 102) (b := true) rfl rfl gg)]
              have s103 : a.eval (.tmp 103) = .pointer (some ⟨q, 0, none⟩) := h.slot 0 38 103 rfl rfl
              have t103 := (ev_tmp a 103).symm.trans s103
              have s104 : a.eval (.tmp 104) = .slice ax nx cx := h.slot 1 39 104 rfl rfl
              have t104 := (ev_tmp a 104).symm.trans s104
              refine does_call (f := 22) (args := #[.pointer (some ⟨q, 0, none⟩), .slice ax nx cx]) (w' := wx) (by simp [go_sem, t103, t104]) ?_
              refine Calls.mono (K22.out wx hS) ?_
              rintro r' w' ⟨rfl, hb'⟩
              exact ⟨_, rfl, rfl, hS.trans (hb'.mono hS.size), fun j' u' hj' hT => tl_stab (w := wx) (w' := w') (List.forall_mem_cons.2 ⟨fun _ h => h, (List.forall_mem_cons.2 ⟨fun _ h => h, (List.forall_mem_cons.2 ⟨fun _ h => h, (List.forall_mem_cons.2 ⟨fun _ h => h, (List.forall_mem_cons.2 ⟨fun _ h => h, (List.forall_mem_cons.2 ⟨fun _ h => h, (List.forall_mem_cons.2 ⟨fun _ h => h, (List.forall_mem_cons.2 ⟨fun _ h => h, (List.forall_mem_cons.2 ⟨fun _ h => h, (List.forall_mem_cons.2 ⟨fun _ h => h, (List.forall_mem_cons.2 ⟨fun _ h => h, (List.forall_mem_cons.2 ⟨fun _ h => h, (List.forall_mem_cons.2 ⟨fun _ h => h, (List.forall_mem_cons.2 ⟨fun _ h => h, (List.forall_mem_cons.2 ⟨fun _ h => h, (List.forall_mem_cons.2 ⟨fun _ h => h, (List.forall_mem_cons.2 ⟨fun _ ⟨b, m, c, e, h⟩ => ⟨b, m, c, e, h.below hb'⟩, (List.forall_mem_cons.2 ⟨fun _ h => h, (List.forall_mem_cons.2 ⟨fun _ h => h, (List.forall_mem_cons.2 ⟨fun _ h => h, (List.forall_mem_cons.2 ⟨fun _ h => h, (List.forall_mem_cons.2 ⟨fun _ h => h, (List.forall_mem_cons.2 ⟨fun _ h => h, (List.forall_mem_cons.2 ⟨fun _ h => h, (List.forall_mem_cons.2 ⟨fun _ h => h, (List.forall_mem_cons.2 ⟨fun _ h => h, (List.forall_mem_cons.2 ⟨fun _ ⟨b, m, c, e, h⟩ => ⟨b, m, c, e, h.below hb'⟩, (List.forall_mem_cons.2 ⟨fun _ h => h, (List.forall_mem_cons.2 ⟨fun _ h => h, (List.forall_mem_cons.2 ⟨fun _ h => h, (List.forall_mem_cons.2 ⟨fun _ h => h, (List.forall_mem_cons.2 ⟨fun _ h => h, (List.forall_mem_cons.2 ⟨fun _ h => h, (List.forall_mem_cons.2 ⟨fun _ h => h, (List.forall_mem_cons.2 ⟨fun _ h => h, (List.forall_mem_cons.2 ⟨fun _ h => h, (List.forall_mem_cons.2 ⟨fun _ h => h, (List.forall_mem_cons.2 ⟨fun _ h => h, (List.forall_mem_cons.2 ⟨fun _ h => h, (List.forall_mem_cons.2 ⟨fun _ h => h, (List.forall_mem_cons.2 ⟨fun _ h => h, (List.forall_mem_cons.2 ⟨fun _ h => h, (List.forall_mem_cons.2 ⟨fun _ h => h, (List.forall_mem_cons.2 ⟨fun _ h => h, (List.forall_mem_cons.2 ⟨fun _ h => h, (List.forall_mem_cons.2 ⟨fun _ h => h, (List.forall_mem_cons.2 ⟨fun _ h => h, (List.forall_mem_cons.2 ⟨fun _ h => h, (List.forall_mem_cons.2 ⟨fun _ ⟨b, m, c, e, h⟩ => ⟨b, m, c, e, h.below hb'⟩, (List.forall_mem_cons.2 ⟨fun _ h => h, (List.forall_mem_cons.2 ⟨fun _ h => h, (List.forall_mem_cons.2 ⟨fun _ h => h, (List.forall_mem_cons.2 ⟨fun _ ⟨b, m, c, e, h⟩ => ⟨b, m, c, e, h.below hb'⟩, (List.forall_mem_cons.2 ⟨fun _ h => h, (List.forall_mem_cons.2 ⟨fun _ h => h, (List.forall_mem_cons.2 ⟨fun _ h => h, (List.forall_mem_cons.2 ⟨fun _ h => h, (List.forall_mem_cons.2 ⟨fun _ h => h, (List.forall_mem_cons.2 ⟨fun _ ⟨b, m, c, e, h⟩ => ⟨b, m, c, e, h.below hb'⟩, (List.forall_mem_cons.2 ⟨fun _ h => h, (List.forall_mem_cons.2 ⟨fun _ h => h, (List.forall_mem_cons.2 ⟨fun _ ⟨b, m, c, e, h⟩ => ⟨b, m, c, e, h.below hb'⟩, (List.forall_mem_cons.2 ⟨fun _ h => h, (List.forall_mem_cons.2 ⟨fun _ h => h, (List.forall_mem_cons.2 ⟨fun _ h => h, (fun _ h => by cases h)⟩)⟩)⟩)⟩)⟩)⟩)⟩)⟩)⟩)⟩)⟩)⟩)⟩)⟩)⟩)⟩)⟩)⟩)⟩)⟩)⟩)⟩)⟩)⟩)⟩)⟩)⟩)⟩)⟩)⟩)⟩)⟩)⟩)⟩)⟩)⟩)⟩)⟩)⟩)⟩)⟩)⟩)⟩)⟩)⟩)⟩)⟩)⟩)⟩)⟩)⟩)⟩)⟩)⟩)⟩)⟩)⟩)⟩)⟩)⟩)⟩)⟩)⟩)⟩)⟩) hT⟩
            · intro Lq a wx hS h
              have gg : a.eval (.tmp 102) = .bool true := h.slot 0 37 102 rfl rfl
              rw [if_pos (wanted_of (g := 37) (d := 102) (b := true) rfl rfl gg)]
              have s13 : a.eval (.tmp 13) = .bool hb := (h.fix 13 (by kernel_rfl)).trans rfl
              have t13 := (ev_tmp a 13).symm.trans s13
              refine does_val (v := .bool hb) (w' := wx) ?_ ⟨rfl, hS, fun _ _ _ h => h⟩
              simp [execOp, go_sem, t13]
            · intro Lq a wx hS h
              have gg : a.eval (.tmp 102) = .bool true := h.slot 2 37 102 rfl rfl
              rw [if_pos (wanted_of (g := 37) (d := 102) (b := true) rfl rfl gg)]
              have s105 : a.eval (.tmp 105) = .bool hb := h.slot 0 40 105 rfl rfl
              have t105 := (ev_tmp a 105).symm.trans s105
              have s106 : a.eval (.tmp 106) = .bool hb := h.slot 1 41 106 rfl rfl
              have t106 := (ev_tmp a 106).symm.trans s106
              refine does_val (v := .bool true) (w' := wx) ?_ ⟨rfl, hS, fun _ _ _ h => h⟩
              simp [execOp, go_sem, t105, t106]
            · intro Lq a wx hS h
              rw [if_pos (wanted_none rfl)]
              have s102 : a.eval (.tmp 102) = .bool true := h.slot 0 37 102 rfl rfl
              have t102 := (ev_tmp a 102).symm.trans s102
              have s107 : a.eval (.tmp 107) = .bool true := h.slot 1 42 107 rfl rfl
              have t107 := (ev_tmp a 107).symm.trans s107
              refine does_val (v := .bool true) (w' := wx) ?_ ⟨rfl, hS, fun _ _ _ h => h⟩
              simp [execOp, go_sem, t102, t107]
            · intro Lq a wx hS h
              rw [if_pos (wanted_none rfl)]
              have s108 : a.eval (.tmp 108) = .bool true := h.slot 0 43 108 rfl rfl
              have t108 := (ev_tmp a 108).symm.trans s108
              refine does_val (v := .bool true) (w' := wx) ?_ ⟨rfl, hS, fun _ _ _ h => h⟩
              simp [execOp, go_sem, t108]
            · intro Lq a wx hS h
              have gg : a.eval (.tmp 109) = .bool true := h.slot 0 44 109 rfl rfl
              rw [if_pos (wanted_of (g := 44) (d := 109) (b := true) rfl rfl gg)]
              have s11 : a.eval (.tmp 11) = .pointer (some ⟨q, 0, none⟩) := (h.fix 11 (by kernel_rfl)).trans rfl
              have t11 := (ev_tmp a 11).symm.trans s11
              refine does_val (v := .pointer (some ⟨q, 0, none⟩)) (w' := wx) ?_ ⟨rfl, hS, fun _ _ _ h => h⟩
              simp [execOp, go_sem, t11]
            · intro Lq a wx hS h
              have gg : a.eval (.tmp 109) = .bool true := h.slot 0 44 109 rfl rfl
              rw [if_pos (wanted_of (g := 44) (d := 109) (b := true) rfl rfl gg)]
              have s1 : a.eval (.tmp 1) = .slice ax nx cx := (h.fix 1 (by kernel_rfl)).trans rfl
              have t1 := (ev_tmp a 1).symm.trans s1
              refine does_val (v := .slice ax nx cx) (w' := wx) ?_ ⟨rfl, hS, fun _ _ _ h => h⟩
              simp [execOp, go_sem, t1]
            · intro Lq a wx hS h
              have gg : a.eval (.tmp 109) = .bool true := h.slot 0 44 109 rfl rfl
              rw [if_pos (wanted_of (g := 44) (d := 109) (b := true) rfl rfl gg)]
              have s2 : a.eval (.tmp 2) = .int .i64 most := (h.fix 2 (by kernel_rfl)).trans rfl
              have t2 := (ev_tmp a 2).symm.trans s2
              refine does_val (v := .int .i64 most) (w' := wx) ?_ ⟨rfl, hS, fun _ _ _ h => h⟩
              simp [execOp, go_sem, t2]
            · intro Lq a wx hS h
              have gg : a.eval (.tmp 109) = .bool true := h.slot 3 44 109 rfl rfl
              rw [if_pos (wanted_of (g := 44) (d := 109) (b := true) rfl rfl gg)]
              have s110 : a.eval (.tmp 110) = .pointer (some ⟨q, 0, none⟩) := h.slot 0 45 110 rfl rfl
              have t110 := (ev_tmp a 110).symm.trans s110
              have s111 : a.eval (.tmp 111) = .slice ax nx cx := h.slot 1 46 111 rfl rfl
              have t111 := (ev_tmp a 111).symm.trans s111
              have s112 : a.eval (.tmp 112) = .int .i64 most := h.slot 2 47 112 rfl rfl
              have t112 := (ev_tmp a 112).symm.trans s112
              refine does_call (f := 16) (args := #[.pointer (some ⟨q, 0, none⟩), .slice ax nx cx, .int .i64 most]) (w' := wx) (by simp [go_sem, t110, t111, t112]) ?_
              refine Calls.mono (K16.out wx hS) ?_
              rintro r' w' ⟨hb', b0, m0, c0, rfl, hR0, _⟩
              exact ⟨_, rfl, ⟨b0, m0, c0, rfl, hR0⟩, hS.trans (hb'.mono hS.size), fun j' u' hj' hT => tl_stab (w := wx) (w' := w') (List.forall_mem_cons.2 ⟨fun _ h => h, (List.forall_mem_cons.2 ⟨fun _ h => h, (List.forall_mem_cons.2 ⟨fun _ h => h, (List.forall_mem_cons.2 ⟨fun _ h => h, (List.forall_mem_cons.2 ⟨fun _ h => h, (List.forall_mem_cons.2 ⟨fun _ h => h, (List.forall_mem_cons.2 ⟨fun _ h => h, (List.forall_mem_cons.2 ⟨fun _ h => h, (List.forall_mem_cons.2 ⟨fun _ h => h, (List.forall_mem_cons.2 ⟨fun _ h => h, (List.forall_mem_cons.2 ⟨fun _ h => h, (List.forall_mem_cons.2 ⟨fun _ h => h, (List.forall_mem_cons.2 ⟨fun _ h => h, (List.forall_mem_cons.2 ⟨fun _ h => h, (List.forall_mem_cons.2 ⟨fun _ h => h, (List.forall_mem_cons.2 ⟨fun _ h => h, (List.forall_mem_cons.2 ⟨fun _ ⟨b, m, c, e, h⟩ => ⟨b, m, c, e, h.below hb'⟩, (List.forall_mem_cons.2 ⟨fun _ h => h, (List.forall_mem_cons.2 ⟨fun _ h => h, (List.forall_mem_cons.2 ⟨fun _ h => h, (List.forall_mem_cons.2 ⟨fun _ h => h, (List.forall_mem_cons.2 ⟨fun _ h => h, (List.forall_mem_cons.2 ⟨fun _ h => h, (List.forall_mem_cons.2 ⟨fun _ h => h, (List.forall_mem_cons.2 ⟨fun _ h => h, (List.forall_mem_cons.2 ⟨fun _ h => h, (List.forall_mem_cons.2 ⟨fun _ ⟨b, m, c, e, h⟩ => ⟨b, m, c, e, h.below hb'⟩, (List.forall_mem_cons.2 ⟨fun _ h => h, (List.forall_mem_cons.2 ⟨fun _ h => h, (List.forall_mem_cons.2 ⟨fun _ h => h, (List.forall_mem_cons.2 ⟨fun _ h => h, (List.forall_mem_cons.2 ⟨fun _ h => h, (List.forall_mem_cons.2 ⟨fun _ h => h, (List.forall_mem_cons.2 ⟨fun _ h => h, (List.forall_mem_cons.2 ⟨fun _ h => h, (List.forall_mem_cons.2 ⟨fun _ h => h, (List.forall_mem_cons.2 ⟨fun _ h => h, (List.forall_mem_cons.2 ⟨fun _ h => h, (List.forall_mem_cons.2 ⟨fun _ h => h, (List.forall_mem_cons.2 ⟨fun _ h => h, (List.forall_mem_cons.2 ⟨fun _ h => h, (List.forall_mem_cons.2 ⟨fun _ h => h, (List.forall_mem_cons.2 ⟨fun _ h => h, (List.forall_mem_cons.2 ⟨fun _ h => h, (List.forall_mem_cons.2 ⟨fun _ h => h, (List.forall_mem_cons.2 ⟨fun _ h => h, (List.forall_mem_cons.2 ⟨fun _ h => h, (List.forall_mem_cons.2 ⟨fun _ h => h, (List.forall_mem_cons.2 ⟨fun _ ⟨b, m, c, e, h⟩ => ⟨b, m, c, e, h.below hb'⟩, (List.forall_mem_cons.2 ⟨fun _ h => h, (List.forall_mem_cons.2 ⟨fun _ h => h, (List.forall_mem_cons.2 ⟨fun _ h => h, (List.forall_mem_cons.2 ⟨fun _ ⟨b, m, c, e, h⟩ => ⟨b, m, c, e, h.below hb'⟩, (List.forall_mem_cons.2 ⟨fun _ h => h, (List.forall_mem_cons.2 ⟨fun _ h => h, (List.forall_mem_cons.2 ⟨fun _ h => h, (List.forall_mem_cons.2 ⟨fun _ h => h, (List.forall_mem_cons.2 ⟨fun _ h => h, (List.forall_mem_cons.2 ⟨fun _ ⟨b, m, c, e, h⟩ => ⟨b, m, c, e, h.below hb'⟩, (List.forall_mem_cons.2 ⟨fun _ h => h, (List.forall_mem_cons.2 ⟨fun _ h => h, (List.forall_mem_cons.2 ⟨fun _ ⟨b, m, c, e, h⟩ => ⟨b, m, c, e, h.below hb'⟩, (List.forall_mem_cons.2 ⟨fun _ h => h, (List.forall_mem_cons.2 ⟨fun _ h => h, (List.forall_mem_cons.2 ⟨fun _ h => h, (fun _ h => by cases h)⟩)⟩)⟩)⟩)⟩)⟩)⟩)⟩)⟩)⟩)⟩)⟩)⟩)⟩)⟩)⟩)⟩)⟩)⟩)⟩)⟩)⟩)⟩)⟩)⟩)⟩)⟩)⟩)⟩)⟩)⟩)⟩)⟩)⟩)⟩)⟩)⟩)⟩)⟩)⟩)⟩)⟩)⟩)⟩)⟩)⟩)⟩)⟩)⟩)⟩)⟩)⟩)⟩)⟩)⟩)⟩)⟩)⟩)⟩)⟩)⟩)⟩)⟩)⟩)⟩) hT⟩
            · intro Lq a wx hS h
              have gg : a.eval (.tmp 109) = .bool true := h.slot 0 44 109 rfl rfl
              rw [if_pos (wanted_of (g := 44) (d := 109) (b := true) rfl rfl gg)]
              have s0 : a.eval (.tmp 0) = .slice (some ⟨g, off, none⟩) k cap := (h.fix 0 (by kernel_rfl)).trans rfl
              have t0 := (ev_tmp a 0).symm.trans s0
              refine does_val (v := .slice (some ⟨g, off, none⟩) k cap) (w' := wx) ?_ ⟨rfl, hS, fun _ _ _ h => h⟩
              simp [execOp, go_sem, t0]
            · intro Lq a wx hS h
              have gg : a.eval (.tmp 109) = .bool true := h.slot 0 44 109 rfl rfl
              rw [if_pos (wanted_of (g := 44) (d := 109) (b := true) rfl rfl gg)]
              have s1 : a.eval (.tmp 1) = .slice ax nx cx := (h.fix 1 (by kernel_rfl)).trans rfl
              have t1 := (ev_tmp a 1).symm.trans s1
              refine does_val (v := .slice ax nx cx) (w' := wx) ?_ ⟨rfl, hS, fun _ _ _ h => h⟩
              simp [execOp, go_sem, t1]
            · intro Lq a wx hS h
              have gg : a.eval (.tmp 109) = .bool true := h.slot 0 44 109 rfl rfl
              rw [if_pos (wanted_of (g := 44) (d := 109) (b := true) rfl rfl gg)]
              have s2 : a.eval (.tmp 2) = .int .i64 most := (h.fix 2 (by kernel_rfl)).trans rfl
              have t2 := (ev_tmp a 2).symm.trans s2
              refine does_val (v := .int .i64 most) (w' := wx) ?_ ⟨rfl, hS, fun _ _ _ h => h⟩
              simp [execOp, go_sem, t2]
            · intro Lq a wx hS h
              have gg : a.eval (.tmp 109) = .bool true := h.slot 4 44 109 rfl rfl
              rw [if_pos (wanted_of (g := 44) (d := 109) (b := true) rfl rfl gg)]
              have s114 : a.eval (.tmp 114) = .slice (some ⟨g, off, none⟩) k cap := h.slot 0 49 114 rfl rfl
              have t114 := (ev_tmp a 114).symm.trans s114
              have s115 : a.eval (.tmp 115) = .slice ax nx cx := h.slot 1 50 115 rfl rfl
              have t115 := (ev_tmp a 115).symm.trans s115
              have s116 : a.eval (.tmp 116) = .int .i64 most := h.slot 2 51 116 rfl rfl
              have t116 := (ev_tmp a 116).symm.trans s116
              refine does_call (f := 23) (args := #[.slice (some ⟨g, off, none⟩) k cap, .slice ax nx cx, .int .i64 most]) (w' := wx) (by simp [go_sem, t114, t115, t116]) ?_
              refine Calls.mono (K23.out wx hS) ?_
              rintro r' w' ⟨hb', b0, m0, c0, rfl, hR0⟩
              exact ⟨_, rfl, ⟨b0, m0, c0, rfl, hR0⟩, hS.trans (hb'.mono hS.size), fun j' u' hj' hT => tl_stab (w := wx) (w' := w') (List.forall_mem_cons.2 ⟨fun _ h => h, (List.forall_mem_cons.2 ⟨fun _ h => h, (List.forall_mem_cons.2 ⟨fun _ h => h, (List.forall_mem_cons.2 ⟨fun _ h => h, (List.forall_mem_cons.2 ⟨fun _ h => h, (List.forall_mem_cons.2 ⟨fun _ h => h, (List.forall_mem_cons.2 ⟨fun _ h => h, (List.forall_mem_cons.2 ⟨fun _ h => h, (List.forall_mem_cons.2 ⟨fun _ h => h, (List.forall_mem_cons.2 ⟨fun _ h => h, (List.forall_mem_cons.2 ⟨fun _ h => h, (List.forall_mem_cons.2 ⟨fun _ h => h, (List.forall_mem_cons.2 ⟨fun _ h => h, (List.forall_mem_cons.2 ⟨fun _ h => h, (List.forall_mem_cons.2 ⟨fun _ h => h, (List.forall_mem_cons.2 ⟨fun _ h => h, (List.forall_mem_cons.2 ⟨fun _ ⟨b, m, c, e, h⟩ => ⟨b, m, c, e, h.below hb'⟩, (List.forall_mem_cons.2 ⟨fun _ h => h, (List.forall_mem_cons.2 ⟨fun _ h => h, (List.forall_mem_cons.2 ⟨fun _ h => h, (List.forall_mem_cons.2 ⟨fun _ h => h, (List.forall_mem_cons.2 ⟨fun _ h => h, (List.forall_mem_cons.2 ⟨fun _ h => h, (List.forall_mem_cons.2 ⟨fun _ h => h, (List.forall_mem_cons.2 ⟨fun _ h => h, (List.forall_mem_cons.2 ⟨fun _ h => h, (List.forall_mem_cons.2 ⟨fun _ ⟨b, m, c, e, h⟩ => ⟨b, m, c, e, h.below hb'⟩, (List.forall_mem_cons.2 ⟨fun _ h => h, (List.forall_mem_cons.2 ⟨fun _ h => h, (List.forall_mem_cons.2 ⟨fun _ h => h, (List.forall_mem_cons.2 ⟨fun _ h => h, (List.forall_mem_cons.2 ⟨fun _ h => h, (List.forall_mem_cons.2 ⟨fun _ h => h, (List.forall_mem_cons.2 ⟨fun _ h => h, (List.forall_mem_cons.2 ⟨fun _ h => h, (List.forall_mem_cons.2 ⟨fun _ h => h, (List.forall_mem_cons.2 ⟨fun _ h => h, (List.forall_mem_cons.2 ⟨fun _ h => h, (List.forall_mem_cons.2 ⟨fun _ h => h, (List.forall_mem_cons.2 ⟨fun _ h => h, (List.forall_mem_cons.2 ⟨fun _ h => h, (List.forall_mem_cons.2 ⟨fun _ h => h, (List.forall_mem_cons.2 ⟨fun _ h => h, (List.forall_mem_cons.2 ⟨fun _ h => h, (List.forall_mem_cons.2 ⟨fun _ h => h, (List.forall_mem_cons.2 ⟨fun _ h => h, (List.forall_mem_cons.2 ⟨fun _ h => h, (List.forall_mem_cons.2 ⟨fun _ h => h, (List.forall_mem_cons.2 ⟨fun _ ⟨b, m, c, e, h⟩ => ⟨b, m, c, e, h.below hb'⟩, (List.forall_mem_cons.2 ⟨fun _ h => h, (List.forall_mem_cons.2 ⟨fun _ h => h, (List.forall_mem_cons.2 ⟨fun _ h => h, (List.forall_mem_cons.2 ⟨fun _ ⟨b, m, c, e, h⟩ => ⟨b, m, c, e, h.below hb'⟩, (List.forall_mem_cons.2 ⟨fun _ h => h, (List.forall_mem_cons.2 ⟨fun _ h => h, (List.forall_mem_cons.2 ⟨fun _ h => h, (List.forall_mem_cons.2 ⟨fun _ h => h, (List.forall_mem_cons.2 ⟨fun _ h => h, (List.forall_mem_cons.2 ⟨fun _ ⟨b, m, c, e, h⟩ => ⟨b, m, c, e, h.below hb'⟩, (List.forall_mem_cons.2 ⟨fun _ h => h, (List.forall_mem_cons.2 ⟨fun _ h => h, (List.forall_mem_cons.2 ⟨fun _ ⟨b, m, c, e, h⟩ => ⟨b, m, c, e, h.below hb'⟩, (List.forall_mem_cons.2 ⟨fun _ h => h, (List.forall_mem_cons.2 ⟨fun _ h => h, (List.forall_mem_cons.2 ⟨fun _ h => h, (fun _ h => by cases h)⟩)⟩)⟩)⟩)⟩)⟩)⟩)⟩)⟩)⟩)⟩)⟩)⟩)⟩)⟩)⟩)⟩)⟩)⟩)⟩)⟩)⟩)⟩)⟩)⟩)⟩)⟩)⟩)⟩)⟩)⟩)⟩)⟩)⟩)⟩)⟩)⟩)⟩)⟩)⟩)⟩)⟩)⟩)⟩)⟩)⟩)⟩)⟩)⟩)⟩)⟩)⟩)⟩)⟩)⟩)⟩)⟩)⟩)⟩)⟩)⟩)⟩)⟩)⟩)⟩) hT⟩
            · intro Lq a wx hS h
              have gg : a.eval (.tmp 109) = .bool true := h.slot 3 44 109 rfl rfl
              rw [if_pos (wanted_of (g := 44) (d := 109) (b := true) rfl rfl gg)]
              obtain ⟨b113, m113, c113, s113, i113⟩ := (h.slot 0 48 113 rfl rfl : (fun v W => ∃ b m c, v = .slice b m c ∧ IsR W b m c R1) (a.eval (.tmp 113)) wx)
              have t113 := (ev_tmp a 113).symm.trans s113
              obtain ⟨b117, m117, c117, s117, i117⟩ := (h.slot 1 52 117 rfl rfl : (fun v W => ∃ b m c, v = .slice b m c ∧ IsR W b m c R1) (a.eval (.tmp 117)) wx)
              have t117 := (ev_tmp a 117).symm.trans s117
              refine does_call (f := 15) (args := #[.slice b113 m113 c113, .slice b117 m117 c117]) (w' := wx) (by simp [go_sem, t113, t117]) ?_
              refine Calls.mono (KS.out R1 hw1 wx _ _ _ _ _ _ i113 i117) ?_
              rintro r' w' ⟨rfl, hb'⟩
              exact ⟨_, rfl, rfl, hS.trans (hb'.mono hS.size), fun j' u' hj' hT => tl_stab (w := wx) (w' := w') (List.forall_mem_cons.2 ⟨fun _ h => h, (List.forall_mem_cons.2 ⟨fun _ h => h, (List.forall_mem_cons.2 ⟨fun _ h => h, (List.forall_mem_cons.2 ⟨fun _ h => h, (List.forall_mem_cons.2 ⟨fun _ h => h, (List.forall_mem_cons.2 ⟨fun _ h => h, (List.forall_mem_cons.2 ⟨fun _ h => h, (List.forall_mem_cons.2 ⟨fun _ h => h, (List.forall_mem_cons.2 ⟨fun _ h => h, (List.forall_mem_cons.2 ⟨fun _ h => h, (List.forall_mem_cons.2 ⟨fun _ h => h, (List.forall_mem_cons.2 ⟨fun _ h => h, (List.forall_mem_cons.2 ⟨fun _ h => h, (List.forall_mem_cons.2 ⟨fun _ h => h, (List.forall_mem_cons.2 ⟨fun _ h => h, (List.forall_mem_cons.2 ⟨fun _ h => h, (List.forall_mem_cons.2 ⟨fun _ ⟨b, m, c, e, h⟩ => ⟨b, m, c, e, h.below hb'⟩, (List.forall_mem_cons.2 ⟨fun _ h => h, (List.forall_mem_cons.2 ⟨fun _ h => h, (List.forall_mem_cons.2 ⟨fun _ h => h, (List.forall_mem_cons.2 ⟨fun _ h => h, (List.forall_mem_cons.2 ⟨fun _ h => h, (List.forall_mem_cons.2 ⟨fun _ h => h, (List.forall_mem_cons.2 ⟨fun _ h => h, (List.forall_mem_cons.2 ⟨fun _ h => h, (List.forall_mem_cons.2 ⟨fun _ h => h, (List.forall_mem_cons.2 ⟨fun _ ⟨b, m, c, e, h⟩ => ⟨b, m, c, e, h.below hb'⟩, (List.forall_mem_cons.2 ⟨fun _ h => h, (List.forall_mem_cons.2 ⟨fun _ h => h, (List.forall_mem_cons.2 ⟨fun _ h => h, (List.forall_mem_cons.2 ⟨fun _ h => h, (List.forall_mem_cons.2 ⟨fun _ h => h, (List.forall_mem_cons.2 ⟨fun _ h => h, (List.forall_mem_cons.2 ⟨fun _ h => h, (List.forall_mem_cons.2 ⟨fun _ h => h, (List.forall_mem_cons.2 ⟨fun _ h => h, (List.forall_mem_cons.2 ⟨fun _ h => h, (List.forall_mem_cons.2 ⟨fun _ h => h, (List.forall_mem_cons.2 ⟨fun _ h => h, (List.forall_mem_cons.2 ⟨fun _ h => h, (List.forall_mem_cons.2 ⟨fun _ h => h, (List.forall_mem_cons.2 ⟨fun _ h => h, (List.forall_mem_cons.2 ⟨fun _ h => h, (List.forall_mem_cons.2 ⟨fun _ h => h, (List.forall_mem_cons.2 ⟨fun _ h => h, (List.forall_mem_cons.2 ⟨fun _ h => h, (List.forall_mem_cons.2 ⟨fun _ h => h, (List.forall_mem_cons.2 ⟨fun _ h => h, (List.forall_mem_cons.2 ⟨fun _ ⟨b, m, c, e, h⟩ => ⟨b, m, c, e, h.below hb'⟩, (List.forall_mem_cons.2 ⟨fun _ h => h, (List.forall_mem_cons.2 ⟨fun _ h => h, (List.forall_mem_cons.2 ⟨fun _ h => h, (List.forall_mem_cons.2 ⟨fun _ ⟨b, m, c, e, h⟩ => ⟨b, m, c, e, h.below hb'⟩, (List.forall_mem_cons.2 ⟨fun _ h => h, (List.forall_mem_cons.2 ⟨fun _ h => h, (List.forall_mem_cons.2 ⟨fun _ h => h, (List.forall_mem_cons.2 ⟨fun _ h => h, (List.forall_mem_cons.2 ⟨fun _ h => h, (List.forall_mem_cons.2 ⟨fun _ ⟨b, m, c, e, h⟩ => ⟨b, m, c, e, h.below hb'⟩, (List.forall_mem_cons.2 ⟨fun _ h => h, (List.forall_mem_cons.2 ⟨fun _ h => h, (List.forall_mem_cons.2 ⟨fun _ ⟨b, m, c, e, h⟩ => ⟨b, m, c, e, h.below hb'⟩, (List.forall_mem_cons.2 ⟨fun _ h => h, (List.forall_mem_cons.2 ⟨fun _ h => h, (List.forall_mem_cons.2 ⟨fun _ h => h, (fun _ h => by cases h)⟩)⟩)⟩)⟩)⟩)⟩)⟩)⟩)⟩)⟩)⟩)⟩)⟩)⟩)⟩)⟩)⟩)⟩)⟩)⟩)⟩)⟩)⟩)⟩)⟩)⟩)⟩)⟩)⟩)⟩)⟩)⟩)⟩)⟩)⟩)⟩)⟩)⟩)⟩)⟩)⟩)⟩)⟩)⟩)⟩)⟩)⟩)⟩)⟩)⟩)⟩)⟩)⟩)⟩)⟩)⟩)⟩)⟩)⟩)⟩)⟩)⟩)⟩)⟩)⟩) hT⟩
            · intro Lq a wx hS h
              rw [if_pos (wanted_none rfl)]
              have s109 : a.eval (.tmp 109) = .bool true := h.slot 0 44 109 rfl rfl
              have t109 := (ev_tmp a 109).symm.trans s109
              have s118 : a.eval (.tmp 118) = .bool true := h.slot 1 53 118 rfl rfl
              have t118 := (ev_tmp a 118).symm.trans s118
              refine does_val (v := .bool true) (w' := wx) ?_ ⟨rfl, hS, fun _ _ _ h => h⟩
              simp [execOp, go_sem, t109, t118]
            · intro Lq a wx hS h
              rw [if_pos (wanted_none rfl)]
              have s119 : a.eval (.tmp 119) = .bool true := h.slot 0 54 119 rfl rfl
              have t119 := (ev_tmp a 119).symm.trans s119
              refine does_val (v := .bool true) (w' := wx) ?_ ⟨rfl, hS, fun _ _ _ h => h⟩
              simp [execOp, go_sem, t119]
            · intro Lq a wx hS h
              have gg : a.eval (.tmp 120) = .bool true := h.slot 0 55 120 rfl rfl
              rw [if_pos (wanted_of (g := 55) (d := 120) (b := true) rfl rfl gg)]
              have s11 : a.eval (.tmp 11) = .pointer (some ⟨q, 0, none⟩) := (h.fix 11 (by kernel_rfl)).trans rfl
              have t11 := (ev_tmp a 11).symm.trans s11
              refine does_val (v := .pointer (some ⟨q, 0, none⟩)) (w' := wx) ?_ ⟨rfl, hS, fun _ _ _ h => h⟩
              simp [execOp, go_sem, t11]
            · intro Lq a wx hS h
              have gg : a.eval (.tmp 120) = .bool true := h.slot 0 55 120 rfl rfl
              rw [if_pos (wanted_of (g := 55) (d := 120) (b := true) rfl rfl gg)]
              have s1 : a.eval (.tmp 1) = .slice ax nx cx := (h.fix 1 (by kernel_rfl)).trans rfl
              have t1 := (ev_tmp a 1).symm.trans s1
              refine does_val (v := .slice ax nx cx) (w' := wx) ?_ ⟨rfl, hS, fun _ _ _ h => h⟩
              simp [execOp, go_sem, t1]
            · intro Lq a wx hS h
              have gg : a.eval (.tmp 120) = .bool true := h.slot 2 55 120 rfl rfl
              rw [if_pos (wanted_of (g := 55) (d := 120) (b := true) rfl rfl gg)]
              have s121 : a.eval (.tmp 121) = .pointer (some ⟨q, 0, none⟩) := h.slot 0 56 121 rfl rfl
              have t121 := (ev_tmp a 121).symm.trans s121
              have s122 : a.eval (.tmp 122) = .slice ax nx cx := h.slot 1 57 122 rfl rfl
              have t122 := (ev_tmp a 122).symm.trans s122
              refine does_call (f := 24) (args := #[.pointer (some ⟨q, 0, none⟩), .slice ax nx cx]) (w' := wx) (by simp [go_sem, t121, t122]) ?_
              refine Calls.mono (K24.out wx hS) ?_
              rintro r' w' ⟨hb', b0, m0, c0, rfl, hR0, _⟩
              exact ⟨_, rfl, ⟨b0, m0, c0, rfl, hR0⟩, hS.trans (hb'.mono hS.size), fun j' u' hj' hT => tl_stab (w := wx) (w' := w') (List.forall_mem_cons.2 ⟨fun _ h => h, (List.forall_mem_cons.2 ⟨fun _ h => h, (List.forall_mem_cons.2 ⟨fun _ h => h, (List.forall_mem_cons.2 ⟨fun _ h => h, (List.forall_mem_cons.2 ⟨fun _ h => h, (List.forall_mem_cons.2 ⟨fun _ h => h, (List.forall_mem_cons.2 ⟨fun _ h => h, (List.forall_mem_cons.2 ⟨fun _ h => h, (List.forall_mem_cons.2 ⟨fun _ h => h, (List.forall_mem_cons.2 ⟨fun _ h => h, (List.forall_mem_cons.2 ⟨fun _ h => h, (List.forall_mem_cons.2 ⟨fun _ h => h, (List.forall_mem_cons.2 ⟨fun _ h => h, (List.forall_mem_cons.2 ⟨fun _ h => h, (List.forall_mem_cons.2 ⟨fun _ h => h, (List.forall_mem_cons.2 ⟨fun _ h => h, (List.forall_mem_cons.2 ⟨fun _ ⟨b, m, c, e, h⟩ => ⟨b, m, c, e, h.below hb'⟩, (List.forall_mem_cons.2 ⟨fun _ h => h, (List.forall_mem_cons.2 ⟨fun _ h => h, (List.forall_mem_cons.2 ⟨fun _ h => h, (List.forall_mem_cons.2 ⟨fun _ h => h, (List.forall_mem_cons.2 ⟨fun _ h => h, (List.forall_mem_cons.2 ⟨fun _ h => h, (List.forall_mem_cons.2 ⟨fun _ h => h, (List.forall_mem_cons.2 ⟨fun _ h => h, (List.forall_mem_cons.2 ⟨fun _ h => h, (List.forall_mem_cons.2 ⟨fun _ ⟨b, m, c, e, h⟩ => ⟨b, m, c, e, h.below hb'⟩, (List.forall_mem_cons.2 ⟨fun _ h => h, (List.forall_mem_cons.2 ⟨fun _ h => h, (List.forall_mem_cons.2 ⟨fun _ h => h, (List.forall_mem_cons.2 ⟨fun _ h => h, (List.forall_mem_cons.2 ⟨fun _ h => h, (List.forall_mem_cons.2 ⟨fun _ h => h, (List.forall_mem_cons.2 ⟨fun _ h => h, (List.forall_mem_cons.2 ⟨fun _ h => h, (List.forall_mem_cons.2 ⟨fun _ h => h, (List.forall_mem_cons.2 ⟨fun _ h => h, (List.forall_mem_cons.2 ⟨fun _ h => h, (List.forall_mem_cons.2 ⟨fun _ h => h, (List.forall_mem_cons.2 ⟨fun _ h => h, (List.forall_mem_cons.2 ⟨fun _ h => h, (List.forall_mem_cons.2 ⟨fun _ h => h, (List.forall_mem_cons.2 ⟨fun _ h => h, (List.forall_mem_cons.2 ⟨fun _ h => h, (List.forall_mem_cons.2 ⟨fun _ h => h, (List.forall_mem_cons.2 ⟨fun _ h => h, (List.forall_mem_cons.2 ⟨fun _ h => h, (List.forall_mem_cons.2 ⟨fun _ h => h, (List.forall_mem_cons.2 ⟨fun _ ⟨b, m, c, e, h⟩ => ⟨b, m, c, e, h.below hb'⟩, (List.forall_mem_cons.2 ⟨fun _ h => h, (List.forall_mem_cons.2 ⟨fun _ h => h, (List.forall_mem_cons.2 ⟨fun _ h => h, (List.forall_mem_cons.2 ⟨fun _ ⟨b, m, c, e, h⟩ => ⟨b, m, c, e, h.below hb'⟩, (List.forall_mem_cons.2 ⟨fun _ h => h, (List.forall_mem_cons.2 ⟨fun _ h => h, (List.forall_mem_cons.2 ⟨fun _ h => h, (List.forall_mem_cons.2 ⟨fun _ h => h, (List.forall_mem_cons.2 ⟨fun _ h => h, (List.forall_mem_cons.2 ⟨fun _ ⟨b, m, c, e, h⟩ => ⟨b, m, c, e, h.below hb'⟩, (List.forall_mem_cons.2 ⟨fun _ h => h, (List.forall_mem_cons.2 ⟨fun _ h => h, (List.forall_mem_cons.2 ⟨fun _ ⟨b, m, c, e, h⟩ => ⟨b, m, c, e, h.below hb'⟩, (List.forall_mem_cons.2 ⟨fun _ h => h, (List.forall_mem_cons.2 ⟨fun _ h => h, (List.forall_mem_cons.2 ⟨fun _ h => h, (fun _ h => by cases h)⟩)⟩)⟩)⟩)⟩)⟩)⟩)⟩)⟩)⟩)⟩)⟩)⟩)⟩)⟩)⟩)⟩)⟩)⟩)⟩)⟩)⟩)⟩)⟩)⟩)⟩)⟩)⟩)⟩)⟩)⟩)⟩)⟩)⟩)⟩)⟩)⟩)⟩)⟩)⟩)⟩)⟩)⟩)⟩)⟩)⟩)⟩)⟩)⟩)⟩)⟩)⟩)⟩)⟩)⟩)⟩)⟩)⟩)⟩)⟩)⟩)⟩)⟩)⟩)⟩) hT⟩
            · intro Lq a wx hS h
              have gg : a.eval (.tmp 120) = .bool true := h.slot 0 55 120 rfl rfl
              rw [if_pos (wanted_of (g := 55) (d := 120) (b := true) rfl rfl gg)]
              have s0 : a.eval (.tmp 0) = .slice (some ⟨g, off, none⟩) k cap := (h.fix 0 (by kernel_rfl)).trans rfl
              have t0 := (ev_tmp a 0).symm.trans s0
              refine does_val (v := .slice (some ⟨g, off, none⟩) k cap) (w' := wx) ?_ ⟨rfl, hS, fun _ _ _ h => h⟩
              simp [execOp, go_sem, t0]
            · intro Lq a wx hS h
              have gg : a.eval (.tmp 120) = .bool true := h.slot 0 55 120 rfl rfl
              rw [if_pos (wanted_of (g := 55) (d := 120) (b := true) rfl rfl gg)]
              have s1 : a.eval (.tmp 1) = .slice ax nx cx := (h.fix 1 (by kernel_rfl)).trans rfl
              have t1 := (ev_tmp a 1).symm.trans s1
              refine does_val (v := .slice ax nx cx) (w' := wx) ?_ ⟨rfl, hS, fun _ _ _ h => h⟩
              simp [execOp, go_sem, t1]
            · intro Lq a wx hS h
              have gg : a.eval (.tmp 120) = .bool true := h.slot 3 55 120 rfl rfl
              rw [if_pos (wanted_of (g := 55) (d := 120) (b := true) rfl rfl gg)]
              have s124 : a.eval (.tmp 124) = .slice (some ⟨g, off, none⟩) k cap := h.slot 0 59 124 rfl rfl
              have t124 := (ev_tmp a 124).symm.trans s124
              have s125 : a.eval (.tmp 125) = .slice ax nx cx := h.slot 1 60 125 rfl rfl
              have t125 := (ev_tmp a 125).symm.trans s125
              refine does_call (f := 25) (args := #[.slice (some ⟨g, off, none⟩) k cap, .slice ax nx cx]) (w' := wx) (by simp [go_sem, t124, t125]) ?_
              refine Calls.mono (K25.out wx hS) ?_
              rintro r' w' ⟨hb', b0, m0, c0, rfl, hR0⟩
              exact ⟨_, rfl, ⟨b0, m0, c0, rfl, hR0⟩, hS.trans (hb'.mono hS.size), fun j' u' hj' hT => tl_stab (w := wx) (w' := w') (List.forall_mem_cons.2 ⟨fun _ h => h, (List.forall_mem_cons.2 ⟨fun _ h => h, (List.forall_mem_cons.2 ⟨fun _ h => h, (List.forall_mem_cons.2 ⟨fun _ h => h, (List.forall_mem_cons.2 ⟨fun _ h => h, (List.forall_mem_cons.2 ⟨fun _ h => h, (List.forall_mem_cons.2 ⟨fun _ h => h, (List.forall_mem_cons.2 ⟨fun _ h => h, (List.forall_mem_cons.2 ⟨fun _ h => h, (List.forall_mem_cons.2 ⟨fun _ h => h, (List.forall_mem_cons.2 ⟨fun _ h => h, (List.forall_mem_cons.2 ⟨fun _ h => h, (List.forall_mem_cons.2 ⟨fun _ h => h, (List.forall_mem_cons.2 ⟨fun _ h => h, (List.forall_mem_cons.2 ⟨fun _ h => h, (List.forall_mem_cons.2 ⟨fun _ h => h, (List.forall_mem_cons.2 ⟨fun _ ⟨b, m, c, e, h⟩ => ⟨b, m, c, e, h.below hb'⟩, (List.forall_mem_cons.2 ⟨fun _ h => h, (List.forall_mem_cons.2 ⟨fun _ h => h, (List.forall_mem_cons.2 ⟨fun _ h => h, (List.forall_mem_cons.2 ⟨fun _ h => h, (List.forall_mem_cons.2 ⟨fun _ h => h, (List.forall_mem_cons.2 ⟨fun _ h => h, (List.forall_mem_cons.2 ⟨fun _ h => h, (List.forall_mem_cons.2 ⟨fun _ h => h, (List.forall_mem_cons.2 ⟨fun _ h => h, (List.forall_mem_cons.2 ⟨fun _ ⟨b, m, c, e, h⟩ => ⟨b, m, c, e, h.below hb'⟩, (List.forall_mem_cons.2 ⟨fun _ h => h, (List.forall_mem_cons.2 ⟨fun _ h => h, (List.forall_mem_cons.2 ⟨fun _ h => h, (List.forall_mem_cons.2 ⟨fun _ h => h, (List.forall_mem_cons.2 ⟨fun _ h => h, (List.forall_mem_cons.2 ⟨fun _ h => h, (List.forall_mem_cons.2 ⟨fun _ h => h, (List.forall_mem_cons.2 ⟨fun _ h => h, (List.forall_mem_cons.2 ⟨fun _ h => h, (List.forall_mem_cons.2 ⟨fun _ h => h, (List.forall_mem_cons.2 ⟨fun _ h => h, (List.forall_mem_cons.2 ⟨fun _ h => h, (List.forall_mem_cons.2 ⟨fun _ h => h, (List.forall_mem_cons.2 ⟨fun _ h => h, (List.forall_mem_cons.2 ⟨fun _ h => h, (List.forall_mem_cons.2 ⟨fun _ h => h, (List.forall_mem_cons.2 ⟨fun _ h => h, (List.forall_mem_cons.2 ⟨fun _ h => h, (List.forall_mem_cons.2 ⟨fun _ h => h, (List.forall_mem_cons.2 ⟨fun _ h => h, (List.forall_mem_cons.2 ⟨fun _ h => h, (List.forall_mem_cons.2 ⟨fun _ ⟨b, m, c, e, h⟩ => ⟨b, m, c, e, h.below hb'⟩, (List.forall_mem_cons.2 ⟨fun _ h => h, (List.forall_mem_cons.2 ⟨fun _ h => h, (List.forall_mem_cons.2 ⟨fun _ h => h, (List.forall_mem_cons.2 ⟨fun _ ⟨b, m, c, e, h⟩ => ⟨b, m, c, e, h.below hb'⟩, (List.forall_mem_cons.2 ⟨fun _ h => h, (List.forall_mem_cons.2 ⟨fun _ h => h, (List.forall_mem_cons.2 ⟨fun _ h => h, (List.forall_mem_cons.2 ⟨fun _ h => h, (List.forall_mem_cons.2 ⟨fun _ h => h, (List.forall_mem_cons.2 ⟨fun _ ⟨b, m, c, e, h⟩ => ⟨b, m, c, e, h.below hb'⟩, (List.forall_mem_cons.2 ⟨fun _ h => h, (List.forall_mem_cons.2 ⟨fun _ h => h, (List.forall_mem_cons.2 ⟨fun _ ⟨b, m, c, e, h⟩ => ⟨b, m, c, e, h.below hb'⟩, (List.forall_mem_cons.2 ⟨fun _ h => h, (List.forall_mem_cons.2 ⟨fun _ h => h, (List.forall_mem_cons.2 ⟨fun _ h => h, (fun _ h => by cases h)⟩)⟩)⟩)⟩)⟩)⟩)⟩)⟩)⟩)⟩)⟩)⟩)⟩)⟩)⟩)⟩)⟩)⟩)⟩)⟩)⟩)⟩)⟩)⟩)⟩)⟩)⟩)⟩)⟩)⟩)⟩)⟩)⟩)⟩)⟩)⟩)⟩)⟩)⟩)⟩)⟩)⟩)⟩)⟩)⟩)⟩)⟩)⟩)⟩)⟩)⟩)⟩)⟩)⟩)⟩)⟩)⟩)⟩)⟩)⟩)⟩)⟩)⟩)⟩)⟩) hT⟩
            · intro Lq a wx hS h
              have gg : a.eval (.tmp 120) = .bool true := h.slot 3 55 120 rfl rfl
              rw [if_pos (wanted_of (g := 55) (d := 120) (b := true) rfl rfl gg)]
              obtain ⟨b123, m123, c123, s123, i123⟩ := (h.slot 0 58 123 rfl rfl : (fun v W => ∃ b m c, v = .slice b m c ∧ IsR W b m c R2) (a.eval (.tmp 123)) wx)
              have t123 := (ev_tmp a 123).symm.trans s123
              obtain ⟨b126, m126, c126, s126, i126⟩ := (h.slot 1 61 126 rfl rfl : (fun v W => ∃ b m c, v = .slice b m c ∧ IsR W b m c R2) (a.eval (.tmp 126)) wx)
              have t126 := (ev_tmp a 126).symm.trans s126
              refine does_call (f := 15) (args := #[.slice b123 m123 c123, .slice b126 m126 c126]) (w' := wx) (by simp [go_sem, t123, t126]) ?_
              refine Calls.mono (KS.out R2 hw2 wx _ _ _ _ _ _ i123 i126) ?_
              rintro r' w' ⟨rfl, hb'⟩
              exact ⟨_, rfl, rfl, hS.trans (hb'.mono hS.size), fun j' u' hj' hT => tl_stab (w := wx) (w' := w') (List.forall_mem_cons.2 ⟨fun _ h => h, (List.forall_mem_cons.2 ⟨fun _ h => h, (List.forall_mem_cons.2 ⟨fun _ h => h, (List.forall_mem_cons.2 ⟨fun _ h => h, (List.forall_mem_cons.2 ⟨fun _ h => h, (List.forall_mem_cons.2 ⟨fun _ h => h, (List.forall_mem_cons.2 ⟨fun _ h => h, (List.forall_mem_cons.2 ⟨fun _ h => h, (List.forall_mem_cons.2 ⟨fun _ h => h, (List.forall_mem_cons.2 ⟨fun _ h => h, (List.forall_mem_cons.2 ⟨fun _ h => h, (List.forall_mem_cons.2 ⟨fun _ h => h, (List.forall_mem_cons.2 ⟨fun _ h => h, (List.forall_mem_cons.2 ⟨fun _ h => h, (List.forall_mem_cons.2 ⟨fun _ h => h, (List.forall_mem_cons.2 ⟨fun _ h => h, (List.forall_mem_cons.2 ⟨fun _ ⟨b, m, c, e, h⟩ => ⟨b, m, c, e, h.below hb'⟩, (List.forall_mem_cons.2 ⟨fun _ h => h, (List.forall_mem_cons.2 ⟨fun _ h => h, (List.forall_mem_cons.2 ⟨fun _ h => h, (List.forall_mem_cons.2 ⟨fun _ h => h, (List.forall_mem_cons.2 ⟨fun _ h => h, (List.forall_mem_cons.2 ⟨fun _ h => h, (List.forall_mem_cons.2 ⟨fun _ h => h, (List.forall_mem_cons.2 ⟨fun _ h => h, (List.forall_mem_cons.2 ⟨fun _ h => h, (List.forall_mem_cons.2 ⟨fun _ ⟨b, m, c, e, h⟩ => ⟨b, m, c, e, h.below hb'⟩, (List.forall_mem_cons.2 ⟨fun _ h => h, (List.forall_mem_cons.2 ⟨fun _ h => h, (List.forall_mem_cons.2 ⟨fun _ h => h, (List.forall_mem_cons.2 ⟨fun _ h => h, (List.forall_mem_cons.2 ⟨fun _ h => h, (List.forall_mem_cons.2 ⟨fun _ h => h, (List.forall_mem_cons.2 ⟨fun _ h => h, (List.forall_mem_cons.2 ⟨fun _ h => h, (List.forall_mem_cons.2 ⟨fun _ h => h, (List.forall_mem_cons.2 ⟨fun _ h => h, (List.forall_mem_cons.2 ⟨fun _ h => h, (List.forall_mem_cons.2 ⟨fun _ h => h, (List.forall_mem_cons.2 ⟨fun _ h => h, (List.forall_mem_cons.2 ⟨fun _ h => h, (List.forall_mem_cons.2 ⟨fun _ h => h, (List.forall_mem_cons.2 ⟨fun _ h => h, (List.forall_mem_cons.2 ⟨fun _ h => h, (List.forall_mem_cons.2 ⟨fun _ h => h, (List.forall_mem_cons.2 ⟨fun _ h => h, (List.forall_mem_cons.2 ⟨fun _ h => h, (List.forall_mem_cons.2 ⟨fun _ h => h, (List.forall_mem_cons.2 ⟨fun _ ⟨b, m, c, e, h⟩ => ⟨b, m, c, e, h.below hb'⟩, (List.forall_mem_cons.2 ⟨fun _ h => h, (List.forall_mem_cons.2 ⟨fun _ h => h, (List.forall_mem_cons.2 ⟨fun _ h => h, (List.forall_mem_cons.2 ⟨fun _ ⟨b, m, c, e, h⟩ => ⟨b, m, c, e, h.below hb'⟩, (List.forall_mem_cons.2 ⟨fun _ h => h, (List.forall_mem_cons.2 ⟨fun _ h => h, (List.forall_mem_cons.2 ⟨fun _ h => h, (List.forall_mem_cons.2 ⟨fun _ h => h, (List.forall_mem_cons.2 ⟨fun _ h => h, (List.forall_mem_cons.2 ⟨fun _ ⟨b, m, c, e, h⟩ => ⟨b, m, c, e, h.below hb'⟩, (List.forall_mem_cons.2 ⟨fun _ h => h, (List.forall_mem_cons.2 ⟨fun _ h => h, (List.forall_mem_cons.2 ⟨fun _ ⟨b, m, c, e, h⟩ => ⟨b, m, c, e, h.below hb'⟩, (List.forall_mem_cons.2 ⟨fun _ h => h, (List.forall_mem_cons.2 ⟨fun _ h => h, (List.forall_mem_cons.2 ⟨fun _ h => h, (fun _ h => by cases h)⟩)⟩)⟩)⟩)⟩)⟩)⟩)⟩)⟩)⟩)⟩)⟩)⟩)⟩)⟩)⟩)⟩)⟩)⟩)⟩)⟩)⟩)⟩)⟩)⟩)⟩)⟩)⟩)⟩)⟩)⟩)⟩)⟩)⟩)⟩)⟩)⟩)⟩)⟩)⟩)⟩)⟩)⟩)⟩)⟩)⟩)⟩)⟩)⟩)⟩)⟩)⟩)⟩)⟩)⟩)⟩)⟩)⟩)⟩)⟩)⟩)⟩)⟩)⟩)⟩) hT⟩
            · intro Lq a wx hS h
              rw [if_pos (wanted_none rfl)]
              have s120 : a.eval (.tmp 120) = .bool true := h.slot 0 55 120 rfl rfl
              have t120 := (ev_tmp a 120).symm.trans s120
              have s127 : a.eval (.tmp 127) = .bool true := h.slot 1 62 127 rfl rfl
              have t127 := (ev_tmp a 127).symm.trans s127
              refine does_val (v := .bool true) (w' := wx) ?_ ⟨rfl, hS, fun _ _ _ h => h⟩
              simp [execOp, go_sem, t120, t127]
            · intro Lq a wx hS h
              rw [if_pos (wanted_none rfl)]
              have s128 : a.eval (.tmp 128) = .bool true := h.slot 0 63 128 rfl rfl
              have t128 := (ev_tmp a 128).symm.trans s128
              refine does_val (v := .bool true) (w' := wx) ?_ ⟨rfl, hS, fun _ _ _ h => h⟩
              simp [execOp, go_sem, t128]
            intro a u2 Lq hS hall hts hd hdone hfree
            have e6 : a.eval (.tmp 6) = .bool true := done_slot hdone 64 6 rfl
            obtain ⟨x65, ex65⟩ : ∃ x, a.eval (.tmp 65) = x := ⟨_, rfl⟩
            obtain ⟨x66, ex66⟩ : ∃ x, a.eval (.tmp 66) = x := ⟨_, rfl⟩
            obtain ⟨x67, ex67⟩ : ∃ x, a.eval (.tmp 67) = x := ⟨_, rfl⟩
            obtain ⟨x68, ex68⟩ : ∃ x, a.eval (.tmp 68) = x := ⟨_, rfl⟩
            obtain ⟨x69, ex69⟩ : ∃ x, a.eval (.tmp 69) = x := ⟨_, rfl⟩
            obtain ⟨x70, ex70⟩ : ∃ x, a.eval (.tmp 70) = x := ⟨_, rfl⟩
            obtain ⟨x71, ex71⟩ : ∃ x, a.eval (.tmp 71) = x := ⟨_, rfl⟩
            obtain ⟨x72, ex72⟩ : ∃ x, a.eval (.tmp 72) = x := ⟨_, rfl⟩
            obtain ⟨x73, ex73⟩ : ∃ x, a.eval (.tmp 73) = x := ⟨_, rfl⟩
            obtain ⟨x74, ex74⟩ : ∃ x, a.eval (.tmp 74) = x := ⟨_, rfl⟩
            obtain ⟨x75, ex75⟩ : ∃ x, a.eval (.tmp 75) = x := ⟨_, rfl⟩
            obtain ⟨x76, ex76⟩ : ∃ x, a.eval (.tmp 76) = x := ⟨_, rfl⟩
            obtain ⟨x77, ex77⟩ : ∃ x, a.eval (.tmp 77) = x := ⟨_, rfl⟩
            obtain ⟨x78, ex78⟩ : ∃ x, a.eval (.tmp 78) = x := ⟨_, rfl⟩
            obtain ⟨x79, ex79⟩ : ∃ x, a.eval (.tmp 79) = x := ⟨_, rfl⟩
            obtain ⟨x80, ex80⟩ : ∃ x, a.eval (.tmp 80) = x := ⟨_, rfl⟩
            obtain ⟨x81, ex81⟩ : ∃ x, a.eval (.tmp 81) = x := ⟨_, rfl⟩
            obtain ⟨x82, ex82⟩ : ∃ x, a.eval (.tmp 82) = x := ⟨_, rfl⟩
            obtain ⟨x83, ex83⟩ : ∃ x, a.eval (.tmp 83) = x := ⟨_, rfl⟩
            obtain ⟨x84, ex84⟩ : ∃ x, a.eval (.tmp 84) = x := ⟨_, rfl⟩
            obtain ⟨x85, ex85⟩ : ∃ x, a.eval (.tmp 85) = x := ⟨_, rfl⟩
            obtain ⟨x86, ex86⟩ : ∃ x, a.eval (.tmp 86) = x := ⟨_, rfl⟩
            obtain ⟨x87, ex87⟩ : ∃ x, a.eval (.tmp 87) = x := ⟨_, rfl⟩
            obtain ⟨x88, ex88⟩ : ∃ x, a.eval (.tmp 88) = x := ⟨_, rfl⟩
            obtain ⟨x89, ex89⟩ : ∃ x, a.eval (.tmp 89) = x := ⟨_, rfl⟩
            obtain ⟨x90, ex90⟩ : ∃ x, a.eval (.tmp 90) = x := ⟨_, rfl⟩
            obtain ⟨x91, ex91⟩ : ∃ x, a.eval (.tmp 91) = x := ⟨_, rfl⟩
            obtain ⟨x92, ex92⟩ : ∃ x, a.eval (.tmp 92) = x := ⟨_, rfl⟩
            obtain ⟨x93, ex93⟩ : ∃ x, a.eval (.tmp 93) = x := ⟨_, rfl⟩
            obtain ⟨x94, ex94⟩ : ∃ x, a.eval (.tmp 94) = x := ⟨_, rfl⟩
            obtain ⟨x95, ex95⟩ : ∃ x, a.eval (.tmp 95) = x := ⟨_, rfl⟩
            obtain ⟨x96, ex96⟩ : ∃ x, a.eval (.tmp 96) = x := ⟨_, rfl⟩
            obtain ⟨x97, ex97⟩ : ∃ x, a.eval (.tmp 97) = x := ⟨_, rfl⟩
            obtain ⟨x98, ex98⟩ : ∃ x, a.eval (.tmp 98) = x := ⟨_, rfl⟩
            obtain ⟨x99, ex99⟩ : ∃ x, a.eval (.tmp 99) = x := ⟨_, rfl⟩
            obtain ⟨x100, ex100⟩ : ∃ x, a.eval (.tmp 100) = x := ⟨_, rfl⟩
            obtain ⟨x101, ex101⟩ : ∃ x, a.eval (.tmp 101) = x := ⟨_, rfl⟩
            obtain ⟨x102, ex102⟩ : ∃ x, a.eval (.tmp 102) = x := ⟨_, rfl⟩
            obtain ⟨x103, ex103⟩ : ∃ x, a.eval (.tmp 103) = x := ⟨_, rfl⟩
            obtain ⟨x104, ex104⟩ : ∃ x, a.eval (.tmp 104) = x := ⟨_, rfl⟩
            obtain ⟨x105, ex105⟩ : ∃ x, a.eval (.tmp 105) = x := ⟨_, rfl⟩
            obtain ⟨x106, ex106⟩ : ∃ x, a.eval (.tmp 106) = x := ⟨_, rfl⟩
            obtain ⟨x107, ex107⟩ : ∃ x, a.eval (.tmp 107) = x := ⟨_, rfl⟩
            obtain ⟨x108, ex108⟩ : ∃ x, a.eval (.tmp 108) = x := ⟨_, rfl⟩
            obtain ⟨x109, ex109⟩ : ∃ x, a.eval (.tmp 109) = x := ⟨_, rfl⟩
            obtain ⟨x110, ex110⟩ : ∃ x, a.eval (.tmp 110) = x := ⟨_, rfl⟩
            obtain ⟨x111, ex111⟩ : ∃ x, a.eval (.tmp 111) = x := ⟨_, rfl⟩
            obtain ⟨x112, ex112⟩ : ∃ x, a.eval (.tmp 112) = x := ⟨_, rfl⟩
            obtain ⟨x113, ex113⟩ : ∃ x, a.eval (.tmp 113) = x := ⟨_, rfl⟩
            obtain ⟨x114, ex114⟩ : ∃ x, a.eval (.tmp 114) = x := ⟨_, rfl⟩
            obtain ⟨x115, ex115⟩ : ∃ x, a.eval (.tmp 115) = x := ⟨_, rfl⟩
            obtain ⟨x116, ex116⟩ : ∃ x, a.eval (.tmp 116) = x := ⟨_, rfl⟩
            obtain ⟨x117, ex117⟩ : ∃ x, a.eval (.tmp 117) = x := ⟨_, rfl⟩
            obtain ⟨x118, ex118⟩ : ∃ x, a.eval (.tmp 118) = x := ⟨_, rfl⟩
            obtain ⟨x119, ex119⟩ : ∃ x, a.eval (.tmp 119) = x := ⟨_, rfl⟩
            obtain ⟨x120, ex120⟩ : ∃ x, a.eval (.tmp 120) = x := ⟨_, rfl⟩
            obtain ⟨x121, ex121⟩ : ∃ x, a.eval (.tmp 121) = x := ⟨_, rfl⟩
            obtain ⟨x122, ex122⟩ : ∃ x, a.eval (.tmp 122) = x := ⟨_, rfl⟩
            obtain ⟨x123, ex123⟩ : ∃ x, a.eval (.tmp 123) = x := ⟨_, rfl⟩
            obtain ⟨x124, ex124⟩ : ∃ x, a.eval (.tmp 124) = x := ⟨_, rfl⟩
            obtain ⟨x125, ex125⟩ : ∃ x, a.eval (.tmp 125) = x := ⟨_, rfl⟩
            obtain ⟨x126, ex126⟩ : ∃ x, a.eval (.tmp 126) = x := ⟨_, rfl⟩
            obtain ⟨x127, ex127⟩ : ∃ x, a.eval (.tmp 127) = x := ⟨_, rfl⟩
            obtain ⟨x128, ex128⟩ : ∃ x, a.eval (.tmp 128) = x := ⟨_, rfl⟩
            have hact := act_puts hts hd hfree
            simp only [putAll, List.foldl_cons, List.foldl_nil, ex65, ex66, ex67, ex68, ex69, ex70, ex71, ex72, ex73, ex74, ex75, ex76, ex77, ex78, ex79, ex80, ex81, ex82, ex83, ex84, ex85, ex86, ex87, ex88, ex89, ex90, ex91, ex92, ex93, ex94, ex95, ex96, ex97, ex98, ex99, ex100, ex101, ex102, ex103, ex104, ex105, ex106, ex107, ex108, ex109, ex110, ex111, ex112, ex113, ex114, ex115, ex116, ex117, ex118, ex119, ex120, ex121, ex122, ex123, ex124, ex125, ex126, ex127, ex128, e6, Act.put] at hact
            simp at hact
            clear ex65 ex66 ex67 ex68 ex69 ex70 ex71 ex72 ex73 ex74 ex75 ex76 ex77 ex78 ex79 ex80 ex81 ex82 ex83 ex84 ex85 ex86 ex87 ex88 ex89 ex90 ex91 ex92 ex93 ex94 ex95 ex96 ex97 ex98 ex99 ex100 ex101 ex102 ex103 ex104 ex105 ex106 ex107 ex108 ex109 ex110 ex111 ex112 ex113 ex114 ex115 ex116 ex117 ex118 ex119 ex120 ex121 ex122 ex123 ex124 ex125 ex126 ex127 ex128 e6 hts hd hdone hfree hall
            subst hact
            go_wp2_with fail
            go_ret
            exact ⟨rfl, H9.out.2.trans (hS.mono H9.out.2.size)⟩
      · have hk1 : (kc != 0) = true := by simpa using hk0
        go_wp2_with fail
        go_ret
        exact ⟨rfl, HB3.out⟩
set_option maxRecDepth 100000 in
theorem itempartTells_lifted (os : Os) (started : os.Started) (H : Type) (enc : TypeId × Value → H) :
    ReturnsInHanded {} Tryd.checked os 4 .any (fun w args => (Rows.itempartTellsSpec.pre enc Tryd.prog Tryd.f4 [] false w args ∧ laidMetH Tryd.prog Rows.itempartTellsRow.laid w) ∧ sizedMet enc Tryd.prog Tryd.f4 (OpenSpec.ofChange Rows.itempartTellsSpec) false w args)
      (Rows.itempartTellsSpec.post enc Tryd.prog Tryd.f4 false true false false) := by
  refine returns_and_shaped (C := Tryd.checked) (X := fun w _ => laidMetH Tryd.prog Rows.itempartTellsRow.laid w) (fun _ _ _ hh h => h.of_heap hh) own started (by kernel_rfl) Tryd.func4
    (ChangeSpec.witness_shaped (enc := enc) (C := Tryd.checked) (os := os) (X := fun w _ => laidMetH Tryd.prog Rows.itempartTellsRow.laid w) false (World.laidAll Tryd.prog os Rows.itempartTellsRow.laid) #[.slice none 0 0, .slice none 0 0, .int .i64 0] 8 (World.laidAll_os _ _ _)
      (World.shaped_of_ZipB (by kernel_rfl) (by kernel_rfl)) (by kernel_rfl) (by kernel_rfl) (by kernel_rfl)
      (by rw [MakeChecks.laidMetH_plain _ _ _ (by kernel_rfl)]; exact laidMet_laidAll _ (by kernel_rfl) (by kernel_rfl))) ?_
  intro W base args ds gs before hval0 hW hL hsh
  have hval : ∀ (j : Nat) t v, Tryd.f4.params[j]? = some t → args[j]? = some v → Value.okWide Tryd.prog W .any base t v := hval0
  have hW' := hW
  obtain ⟨p, q, hA0, hV, rfl, _, _⟩ := hW
  have hA : DataW.TrodAll enc Tryd.prog W 0 (fun _ => true) true Tryd.f4.params.toList args.toList ds p := hA0
  rw [Tryd.params4] at hA hval
  obtain ⟨v0, vs0, d0, ds0, p0, q0, hargs, rfl, rfl, h0, r0⟩ := trodAll_cons hA
  obtain ⟨v1, vs1, d1, ds1, p1, q1, rfl, rfl, rfl, h1, r1⟩ := trodAll_cons r0
  obtain ⟨v2, vs2, d2, ds2, p2, q2, rfl, rfl, rfl, h2, r2⟩ := trodAll_cons r1
  obtain ⟨rfl, rfl, rfl⟩ := trodAll_nil r2
  obtain rfl : args = #[v0, v1, v2] := by cases args; simp_all
  obtain ⟨rfl, rfl⟩ := trodVars_none hV
  obtain ⟨a0, len0, cap0, rfl⟩ := okWide_slice Tryd.underlying22 (hval 0 22 v0 rfl rfl)
  have k0 := h0
  have lt0 : ∀ x ∈ p0, x.block < W.heap.size := by obtain ⟨m, hm⟩ := k0; exact DataW.trod_lt m _ _ _ hm
  obtain ⟨vl0, w0, wf0⟩ : ∃ ls, IsR W a0 len0 cap0 ls ∧ WfR ls := by obtain ⟨fuel, hf⟩ := h0; exact isR_of hf
  obtain ⟨a1, len1, cap1, rfl⟩ := okWide_slice Tryd.underlying23 (hval 1 23 v1 rfl rfl)
  have k1 := h1
  have lt1 : ∀ x ∈ p1, x.block < W.heap.size := by obtain ⟨m, hm⟩ := k1; exact DataW.trod_lt m _ _ _ hm
  obtain ⟨vl1, w1, wf1⟩ : ∃ ms, IsI .u8 W a1 len1 cap1 ms ∧ Bytes ms := by obtain ⟨fuel, hf⟩ := h1; exact isI_of hf
  obtain ⟨a2, rfl, rfl, rfl, w2⟩ := open_int Tryd.underlying3 (hval 2 3 v2 rfl rfl) h2
  have hx2 : -9223372036854775808 ≤ a2 ∧ a2 ≤ 9223372036854775807 := by simpa [Lit.wf, IntKind.min, IntKind.max, IntKind.signed, IntKind.bits] using w2
  clear hA0 hval0
  rw [MakeChecks.laidMetH_plain _ _ _ (by kernel_rfl)] at hL
  refine (itempartTells_walk (w := W) a0 len0 cap0 vl0 w0 wf0 a1 len1 cap1 vl1 w1 wf1 a2 hx2 (ha_of (laidMet.reads hL (by simp [Rows.itempartTellsRow])))).mono fun e W' ⟨he, hb⟩ => ?_
  subst he
  exact ⟨_, rfl, _, _, _, [], _, [], hW', trodAll_mk1 (shut_bool Tryd.underlying4 _), (trodAll_cons_mk (Below.trod laidOut (by kernel_rfl) (of_decide_eq_true (by kernel_rfl)) k0 hb lt0) (trodAll_cons_mk (Below.trod laidOut (by kernel_rfl) (of_decide_eq_true (by kernel_rfl)) k1 hb lt1) (trodAll_cons_mk (shut_int Tryd.underlying3 w2) trodAll_mk0))), rfl, hb.frame _, fun h => by cases h⟩

theorem itempartTells_row : Rows.ItempartTellsSaid :=
  OpenClaim.holds_of_wide 4 Tryd.f4 rfl rfl rfl rfl rfl rfl rfl ⟨rfl, rfl, rfl, rfl, rfl⟩ rfl rfl rfl rfl rfl (by kernel_rfl) Tryd.func4 (by kernel_rfl)
    (of_decide_eq_true (by kernel_rfl)) (by unfold Func.isWrapper; first | (rw [if_pos (by decide +kernel)]; kernel_rfl) | (rw [if_neg (by decide +kernel)]; exact ⟨rfl, rfl⟩))
    (fun os started H enc _ => itempartTells_lifted os started H enc)

theorem itempartTells_holds : Rows.ItempartTellsCardSaid :=
  Claim7.holds_tied_plain_at .later [] [.data] true (true, "9750523fcd669dd7fa8d8d0d70ca6073e419f1af66238f26be0cb97ebfd56da8") false itempartTells_row (fun _ h => by cases h) (by kernel_rfl) (fun _ h => by cases h) itempartTells_row_tie rfl ⟨rfl, rfl⟩ (by kernel_rfl) rfl
    (fun f fn hf hfn => by
      obtain rfl : f = 4 := Option.some.inj ((show Tryd.prog.funcNamed Rows.itempartTellsRow.func = some 4 by kernel_rfl).symm.trans hf) |>.symm
      obtain rfl : fn = Tryd.f4 := (Option.some.inj (Tryd.func4.symm.trans hfn)).symm
      exact ⟨by kernel_rfl, fun j t ht => by
        rw [Tryd.params4] at ht
        have hm : t ∈ [22, 23, 3] := by simpa using Array.mem_of_getElem? ht
        have hall : ([22, 23, 3].all fun u => !Tryd.prog.wantsStandIn u) = true := by kernel_rfl
        exact (show Tryd.prog.wantsStandIn t = false by simpa using List.all_eq_true.1 hall t hm)⟩)
    (by kernel_rfl)
#print axioms itempartTells_holds
end Go.Proofs.YtocjmbhfpofoeaaDoor
