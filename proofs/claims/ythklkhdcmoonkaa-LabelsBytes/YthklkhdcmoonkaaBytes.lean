/- For every row of labels, any bytes and every text: labels have the bytes that the document says, bytes are unmarshalled as it says, or refused; so is a text, escaped, and cut: LabelsBytes returns true, and its arguments read as before. No conditions. -/
import Derived.Test.YthklkhdcmoonkaaS
import Derived.Test.YthklkhdcmoonkaaX
namespace Go.Proofs.Ythklkhdcmoonkaa
open Go.ChangeShapes Go.WideShapes Go.ChangeAt Go.RowKit Go.Lib
open Go.ChangeMaps (open_string shut_string)

theorem sl_own {w : World} {base : Nat} {u : Value} {s : ByteArray} (ho : w.ownsRow base 5 1 u (E (nums s)).length ((E (nums s)).map (Value.int .u8))) : Sl .u8 (E (nums s)) u w := by
  obtain ⟨g, cap, h1, h2, h3, h4, h5, h6, _⟩ := own_cell ho (by have := E_pos (nums s); omega)
  refine ⟨g, 0, cap, h1, h3, h4, h5, fun i hi => ?_⟩
  rw [Nat.zero_add]
  exact h6 _ _ (by simp [List.getD, hi])
theorem esc_sl2 (s : ByteArray) (w : World) (h : s.size ≤ 300) : Calls Try.prog 24 #[.string s] w fun e w' => ∃ u, e = .returned u ∧ Sl .u8 (E (nums s)) u w' ∧ Below w.heap.size w w' := by
  refine (escape_any s w (by omega)).mono ?_
  rintro e w' ⟨u, rfl, ho, hb⟩
  exact ⟨u, rfl, sl_own ho, hb⟩
theorem refesc_sl (s : ByteArray) (w : World) (h : s.size ≤ 300) : Calls Try.prog 25 #[.string s] w fun e w' => ∃ u, e = .returned u ∧ Sl .u8 (E (nums s)) u w' ∧ Below w.heap.size w w' := by
  refine (refescape_any s w (by omega)).mono ?_
  rintro e w' ⟨u, rfl, ho, hb⟩
  exact ⟨u, rfl, sl_own ho, hb⟩
theorem does_conv {o : Oper} {t : Nat} {a : Act} {w : World} {zs : List Int} (ho : o.op = Op.convert 32 9 (.tmp t)) (h : Sl .u8 zs (a.eval (.tmp t)) w) :
    does Try.prog o a.eval w (fun v w' => v = .string (strOfNums zs) ∧ Below w.heap.size w w') := by
  obtain ⟨g, off, cap, h1, h2, _, _, h5⟩ := h
  refine does_val (v := .string (strOfNums zs)) (w' := w) ?_ ⟨rfl, Below.refl _ _⟩
  have hc := conv_rd w (some ⟨g, off, none⟩) cap zs.length zs rfl (.inr ⟨g, off, rfl, h2, h5⟩)
  simp [execOp, ho, h1, hc]
theorem rst_zero {zs : List Int} (h : (cut zs).1 ≠ 0) : rst zs = [] := if_neg h
theorem unm_len (zs : List Int) : (unm zs).2.length ≤ 6 := by
  unfold unm
  split
  · simp
  · split
    · rename_i h; exact h.1.2.1
    · simp

set_option linter.unusedSimpArgs false in
set_option linter.unusedVariables false in
set_option maxRecDepth 40000 in
set_option maxHeartbeats 16000000 in
theorem labelsBytes_walk (a : Option Addr) (len cap : Nat) (ls : List Lb) {w0 : World} (hI : IsL w0 a len cap ls) (wf : WfL ls) (ab : Option Addr) (nb cb : Nat) (zs : List Int) (hB : IsI .u8 w0 ab nb cb zs) (hby : Bytes zs) (s : ByteArray) (hs : s.size ≤ maxLen) {w : World} (hw : w = w0) :
    Calls Try.prog 4 #[.slice a len cap, .slice ab nb cb, .string s] w fun r w' => r = .returned (.bool true) ∧ Below w.heap.size w w' := by
  subst hw
  have hbm := hB.hm
  have hbc := hB.hc
  unfold maxLen at hbm hs
  have HI : Hid ((IsL w a len cap ls ∧ WfL ls) ∧ IsI .u8 w ab nb cb zs ∧ Bytes zs) := ⟨⟨hI, wf⟩, hB, hby⟩
  clear hI wf hB hby
  go_enter Try.func4, Try.ntmps4
  go_wp2_with fail
  refine (awake_any _).mono ?_
  rintro e w1 ⟨rfl, b1⟩
  have H1 : Hid (IsL w1 a len cap ls ∧ IsI .u8 w1 ab nb cb zs ∧ Below w.heap.size w w1) := ⟨HI.out.1.1.below b1, HI.out.2.1.below b1, b1⟩
  clear b1
  go_wp2_with fail
  refine (few_any a len cap ls w1 H1.out.1 HI.out.1.2).mono ?_
  rintro e w' ⟨rfl, hw'⟩; rw [hw']; clear hw' w'
  obtain ⟨f1, hf1⟩ : ∃ f, Hid (f = few ls) := ⟨_, rfl⟩
  rw [← hf1.out]
  cases f1 with
  | false =>
    go_wp2_with fail
    go_ret
    exact ⟨rfl, H1.out.2.2⟩
  | true =>
  have g1 := few_len H1.out.1 hf1.out.symm
  clear hf1
  by_cases hb1 : 1000 < nb
  · have hb1' : (1000 : Int) < (nb : Int) := by omega
    go_wp2_with fail
    go_ret
    exact ⟨rfl, H1.out.2.2⟩
  by_cases hs3 : 300 < s.size
  · have hb1' : ¬ (1000 : Int) < (nb : Int) := by omega
    have hs3' : (300 : Int) < (s.size : Int) := by omega
    go_wp2_with fail
    go_ret
    exact ⟨rfl, H1.out.2.2⟩
  have hs3' : ¬ (300 : Int) < (s.size : Int) := by omega
  have hb1' : ¬ (1000 : Int) < (nb : Int) := by omega
  have HSS : Hid (s.size ≤ 300) := by show _ ≤ _; omega
  obtain ⟨er1, her1⟩ : ∃ x, Hid (x = cne ls) := ⟨_, rfl⟩
  obtain ⟨z2, hz2⟩ : ∃ z, Hid (z = (el (cnl ls)).length) := ⟨_, rfl⟩
  go_wp2_with fail
  refine (marshal_any a len cap ls w1 H1.out.1 HI.out.1.2).mono ?_
  rintro e w2 ⟨v2, rfl, ho2, hb2⟩
  rw [← her1.out]
  rw [← hz2.out] at ho2
  obtain ⟨a2, c2, rfl, hI2⟩ := own_isI ho2
  have H2 : Hid (IsI .u8 w2 a2 z2 c2 (el (cnl ls)) ∧ Below w1.heap.size w1 w2) := ⟨hI2, hb2⟩
  clear ho2 hI2 hb2
  go_wp2_with fail
  refine (refmarshal_any a len cap ls w2 (H1.out.1.below H2.out.2) HI.out.1.2).mono ?_
  rintro e w3 ⟨v3, rfl, ho3, hb3⟩
  rw [← her1.out]
  rw [← hz2.out] at ho3
  obtain ⟨a3, c3, rfl, hI3⟩ := own_isI ho3
  have H3 : Hid (IsI .u8 w3 a2 z2 c2 (el (cnl ls)) ∧ IsI .u8 w3 a3 z2 c3 (el (cnl ls)) ∧ Below w1.heap.size w1 w3) := ⟨H2.out.1.below hb3, hI3, H2.out.2.trans (hb3.mono H2.out.2.size)⟩
  clear ho3 hI3 hb3
  obtain ⟨er2, her2⟩ : ∃ x, Hid (x = (unm zs).1) := ⟨_, rfl⟩
  obtain ⟨n5, hn5⟩ : ∃ x, x = (unm zs).2.length := ⟨_, rfl⟩
  have hn56 : n5 ≤ 6 := by rw [hn5]; exact unm_len zs
  have HN5 : Hid (n5 = (unm zs).2.length) := hn5
  clear hn5
  go_wp2_with fail
  refine (unmarshal_any ab nb cb zs w3 (H1.out.2.1.below H3.out.2.2) HI.out.2.2 (by omega)).mono ?_
  rintro e w4 ⟨v4, rfl, ⟨a5, c5, rfl, hI5, _⟩, hb4⟩
  rw [← her2.out]
  rw [← HN5.out] at hI5 ⊢
  have H4 : Hid (IsI .u8 w4 a2 z2 c2 (el (cnl ls)) ∧ IsI .u8 w4 a3 z2 c3 (el (cnl ls)) ∧ IsL w4 a5 n5 c5 (unm zs).2 ∧ Below w1.heap.size w1 w4) := ⟨H3.out.1.below hb4, H3.out.2.1.below hb4, hI5, H3.out.2.2.trans (hb4.mono H3.out.2.2.size)⟩
  clear hI5 hb4
  go_wp2_with fail
  refine (refunmarshal_any ab nb cb zs w4 (H1.out.2.1.below H4.out.2.2.2) HI.out.2.2 (by omega)).mono ?_
  rintro e w5 ⟨v5, rfl, ⟨a6, c6, rfl, hI6, _⟩, hb5⟩
  rw [← her2.out]
  rw [← HN5.out] at hI6 ⊢
  have H5 : Hid (IsI .u8 w5 a2 z2 c2 (el (cnl ls)) ∧ IsI .u8 w5 a3 z2 c3 (el (cnl ls)) ∧ IsL w5 a5 n5 c5 (unm zs).2 ∧ IsL w5 a6 n5 c6 (unm zs).2 ∧ Below w1.heap.size w1 w5) := ⟨H4.out.1.below hb5, H4.out.2.1.below hb5, H4.out.2.2.1.below hb5, hI6, H4.out.2.2.2.trans (hb5.mono H4.out.2.2.2.size)⟩
  clear hI6 hb5
  obtain ⟨er, her⟩ : ∃ x, Hid (x = (cut zs).1) := ⟨_, rfl⟩
  obtain ⟨tx, htx⟩ : ∃ x, Hid (x = strOfNums (cut zs).2.1) := ⟨_, rfl⟩
  go_wp2_with fail
  refine (cut_any ab nb cb zs w5 (H1.out.2.1.below H5.out.2.2.2.2) HI.out.2.2 (by omega)).mono ?_
  rintro e w6 ⟨a7, m7, c7, rfl, hI7, hb6⟩
  rw [← her.out, ← htx.out]
  have H6 : Hid (IsI .u8 w6 a2 z2 c2 (el (cnl ls)) ∧ IsI .u8 w6 a3 z2 c3 (el (cnl ls)) ∧ IsL w6 a5 n5 c5 (unm zs).2 ∧ IsL w6 a6 n5 c6 (unm zs).2 ∧ IsI .u8 w6 a7 m7 c7 (rst zs) ∧ Below w1.heap.size w1 w6) := ⟨H5.out.1.below hb6, H5.out.2.1.below hb6, H5.out.2.2.1.below hb6, H5.out.2.2.2.1.below hb6, hI7, H5.out.2.2.2.2.trans (hb6.mono H5.out.2.2.2.2.size)⟩
  clear hI7 hb6
  obtain ⟨nn, hnn⟩ : ∃ x, Hid (x = (cut zs).2.2) := ⟨_, rfl⟩
  go_wp2_with fail
  refine (refcut_any w1.heap.size w1 ab nb cb zs w6 (fun W h => H1.out.2.1.below h) H6.out.2.2.2.2.2 H6.out.2.2.2.2.2.size HI.out.2.2 (by omega)).mono ?_
  rintro e w7 ⟨rfl, hb7⟩
  rw [← her.out, ← htx.out, ← hnn.out]
  have H7 : Hid (IsI .u8 w7 a2 z2 c2 (el (cnl ls)) ∧ IsI .u8 w7 a3 z2 c3 (el (cnl ls)) ∧ IsL w7 a5 n5 c5 (unm zs).2 ∧ IsL w7 a6 n5 c6 (unm zs).2 ∧ IsI .u8 w7 a7 m7 c7 (rst zs) ∧ Below w1.heap.size w1 w7 ∧ IsI .u8 w7 ab nb cb zs) := ⟨H6.out.1.below hb7, H6.out.2.1.below hb7, H6.out.2.2.1.below hb7, H6.out.2.2.2.1.below hb7, H6.out.2.2.2.2.1.below hb7, H6.out.2.2.2.2.2.trans (hb7.mono H6.out.2.2.2.2.2.size), (H1.out.2.1.below H6.out.2.2.2.2.2).below hb7⟩
  clear hb7
  obtain ⟨st, hst⟩ : ∃ x, Hid (x = strOfNums (el (cnl ls))) := ⟨_, rfl⟩
  have HCV : Hid ((∀ W, Below w7.heap.size w7 W → Sem.run Try.prog (convert 32 9 (.slice a2 z2 c2)) W = .ok (.string st) W) ∧ ∀ W, Below w7.heap.size w7 W → Sem.run Try.prog (convert 32 9 (.slice a3 z2 c3)) W = .ok (.string st) W) :=
    ⟨fun W h => by rw [hst.out]; exact conv_rd W a2 c2 z2 _ H7.out.1.hl (H7.out.1.rd.below h), fun W h => by rw [hst.out]; exact conv_rd W a3 c3 z2 _ H7.out.2.1.hl (H7.out.2.1.rd.below h)⟩
  have HSM : Hid (∀ W, Below w7.heap.size w7 W → Calls Try.prog 13 #[.slice a5 n5 c5, .slice a6 n5 c6] W fun e w' => e = .returned (.bool true) ∧ Below W.heap.size W w') := fun W h => same_any a5 a6 n5 c5 c6 _ W (by omega) (H7.out.2.2.1.below h) (H7.out.2.2.2.1.below h)
  have HB7 : Hid (Below w.heap.size w w7) := H1.out.2.2.trans (H7.out.2.2.2.2.2.1.mono H1.out.2.2.size)
  by_cases he : er = 0
  · subst he
    obtain ⟨s', r, hbs, hs', hc⟩ := cut_ok HI.out.2.2 her.out.symm
    have hE := E_pos s'
    have hnl : (E s').length + r.length = nb := by rw [← H1.out.2.1.hl, hbs, List.length_append]
    have hne : nn = (E s').length := by rw [hnn.out, hc]
    rw [← hne] at hnl hE
    have hrs : rst zs = r := by rw [hbs]; exact rst_E hs'
    obtain ⟨rs, hrs'⟩ : ∃ x, Hid (x = strOfNums r) := ⟨_, rfl⟩
    have hcv1 : ∀ q, Sem.run Try.prog (convert 32 9 (.slice a7 m7 c7)) (w7.drewN q) = .ok (.string rs) (w7.drewN q) := fun q => by
      have h7 := H7.out.2.2.2.2.1
      rw [hrs] at h7
      rw [hrs'.out]; exact conv_drew w7 a7 c7 m7 r h7.hl h7.rd q
    obtain ⟨g, off, rfl, _, _⟩ := H7.out.2.2.2.2.2.2.rd.cell (j := 0) (by rw [H7.out.2.2.2.2.2.2.hl]; omega)
    have hdr := H7.out.2.2.2.2.2.2.rd.drop H7.out.2.2.2.2.2.2.hl hbc (m := nn) (by omega)
    have hed : zs.drop nn = r := by rw [hbs, hne]; simp
    rw [hed] at hdr
    have s1 : (0 : Int) ≤ (nn : Int) := by omega
    have s2 : (nn : Int) ≤ (nb : Int) := by omega
    have s3 : (nn : Int) ≤ (cb : Int) := by omega
    by_cases hcn : cb = nn
    · have hr0 : r = [] := List.eq_nil_of_length_eq_zero (by omega)
      have hnb : nb = nn := by rw [hr0] at hnl; simp at hnl; omega
      have hcv2 : ∀ q, Sem.run Try.prog (convert 32 9 (.slice (some ⟨g, off, none⟩) 0 0)) (w7.drewN q) = .ok (.string rs) (w7.drewN q) := fun q => by
        rw [hrs'.out, hr0]; exact conv_drew w7 _ 0 0 [] rfl (.inl rfl) q
      clear hbs hs' hc hE hne hrs hdr hed hnl hr0
      subst hcn
      subst hnb
      go_wp2_with fail
      go_quiet (fail)
      go_wp2_with fail
      have hBQ : Hid (Below w7.heap.size w7 (w7.drewN nq)) := below_dr _ _
      refine wp_region_K (by kernel_rfl) (by kernel_rfl) [.eq (.bool true), .eq (.bool true), .eq (.int .i64 er1), .eq (.int .i64 er1), .eq (.bool true), .eq (.bool true), .eq (.bool true), .eq (.slice a2 z2 c2), .eq (.string st), .eq (.slice a3 z2 c3), .eq (.string st), .eq (.bool true), .eq (.bool true), .eq (.bool true), .eq (.int .i64 er2), .eq (.int .i64 er2), .eq (.bool true), .eq (.bool true), .eq (.bool true), .eq (.slice a5 n5 c5), .eq (.slice a6 n5 c6), .eq (.bool true), .eq (.bool true), .eq (.bool true), .eq (.string s), .rd .u8 (E (nums s)), .eq (.string (strOfNums (E (nums s)))), .eq (.string s), .rd .u8 (E (nums s)), .eq (.string (strOfNums (E (nums s)))), .eq (.bool true), .eq (.bool true), .eq (.bool true)] _ (Below.refl _ _) (allOps_cons ?_ (allOps_cons ?_ (allOps_cons ?_ (allOps_cons ?_ (allOps_cons ?_ (allOps_cons ?_ (allOps_cons ?_ (allOps_cons ?_ (allOps_cons ?_ (allOps_cons ?_ (allOps_cons ?_ (allOps_cons ?_ (allOps_cons ?_ (allOps_cons ?_ (allOps_cons ?_ (allOps_cons ?_ (allOps_cons ?_ (allOps_cons ?_ (allOps_cons ?_ (allOps_cons ?_ (allOps_cons ?_ (allOps_cons ?_ (allOps_cons ?_ (allOps_cons ?_ (allOps_cons ?_ (allOps_cons ?_ (allOps_cons ?_ (allOps_cons ?_ (allOps_cons ?_ (allOps_cons ?_ (allOps_cons ?_ (allOps_cons ?_ (allOps_cons ?_ allOps_nil))))))))))))))))))))))))))))))))) ?_
      · intro a wx hS hb hf
        have s23 : a.eval (.tmp 23) = .bool true := (hf 23 (by kernel_rfl)).trans rfl
        rw [if_pos (wanted_none rfl)]
        refine does_val (v := .bool true) (w' := wx) ?_ ⟨rfl, Below.refl _ _⟩
        have t23 := (ev_tmp a 23).symm.trans s23
        simp [execOp, go_sem, t23]
      · intro a wx hS hb hf
        have s103 : a.eval (.tmp 103) = .bool true := slot hb 0 0 103 rfl rfl
        rw [if_pos (wanted_none rfl)]
        refine does_val (v := .bool true) (w' := wx) ?_ ⟨rfl, Below.refl _ _⟩
        have t103 := (ev_tmp a 103).symm.trans s103
        simp [execOp, go_sem, t103]
      · intro a wx hS hb hf
        have s10 : a.eval (.tmp 10) = .int .i64 er1 := (hf 10 (by kernel_rfl)).trans rfl
        have s104 : a.eval (.tmp 104) = .bool true := slot hb 0 1 104 rfl rfl
        rw [if_pos (wanted_of (g := 1) (d := 104) (b := true) rfl rfl s104)]
        refine does_val (v := .int .i64 er1) (w' := wx) ?_ ⟨rfl, Below.refl _ _⟩
        have t10 := (ev_tmp a 10).symm.trans s10
        simp [execOp, go_sem, t10]
      · intro a wx hS hb hf
        have s12 : a.eval (.tmp 12) = .int .i64 er1 := (hf 12 (by kernel_rfl)).trans rfl
        have s104 : a.eval (.tmp 104) = .bool true := slot hb 0 1 104 rfl rfl
        rw [if_pos (wanted_of (g := 1) (d := 104) (b := true) rfl rfl s104)]
        refine does_val (v := .int .i64 er1) (w' := wx) ?_ ⟨rfl, Below.refl _ _⟩
        have t12 := (ev_tmp a 12).symm.trans s12
        simp [execOp, go_sem, t12]
      · intro a wx hS hb hf
        have s105 : a.eval (.tmp 105) = .int .i64 er1 := slot hb 0 2 105 rfl rfl
        have s106 : a.eval (.tmp 106) = .int .i64 er1 := slot hb 1 3 106 rfl rfl
        have s104 : a.eval (.tmp 104) = .bool true := slot hb 2 1 104 rfl rfl
        rw [if_pos (wanted_of (g := 1) (d := 104) (b := true) rfl rfl s104)]
        refine does_val (v := .bool true) (w' := wx) ?_ ⟨rfl, Below.refl _ _⟩
        have t105 := (ev_tmp a 105).symm.trans s105
        have t106 := (ev_tmp a 106).symm.trans s106
        simp [execOp, go_sem, t105, t106]
      · intro a wx hS hb hf
        have s104 : a.eval (.tmp 104) = .bool true := slot hb 0 1 104 rfl rfl
        have s107 : a.eval (.tmp 107) = .bool true := slot hb 1 4 107 rfl rfl
        rw [if_pos (wanted_none rfl)]
        refine does_val (v := .bool true) (w' := wx) ?_ ⟨rfl, Below.refl _ _⟩
        have t104 := (ev_tmp a 104).symm.trans s104
        have t107 := (ev_tmp a 107).symm.trans s107
        simp [execOp, go_sem, t104, t107]
      · intro a wx hS hb hf
        have s108 : a.eval (.tmp 108) = .bool true := slot hb 0 5 108 rfl rfl
        rw [if_pos (wanted_none rfl)]
        refine does_val (v := .bool true) (w' := wx) ?_ ⟨rfl, Below.refl _ _⟩
        have t108 := (ev_tmp a 108).symm.trans s108
        simp [execOp, go_sem, t108]
      · intro a wx hS hb hf
        have s9 : a.eval (.tmp 9) = .slice a2 z2 c2 := (hf 9 (by kernel_rfl)).trans rfl
        have s109 : a.eval (.tmp 109) = .bool true := slot hb 0 6 109 rfl rfl
        rw [if_pos (wanted_of (g := 6) (d := 109) (b := true) rfl rfl s109)]
        refine does_val (v := .slice a2 z2 c2) (w' := wx) ?_ ⟨rfl, Below.refl _ _⟩
        have t9 := (ev_tmp a 9).symm.trans s9
        simp [execOp, go_sem, t9]
      · intro a wx hS hb hf
        have s110 : a.eval (.tmp 110) = .slice a2 z2 c2 := slot hb 0 7 110 rfl rfl
        have s109 : a.eval (.tmp 109) = .bool true := slot hb 1 6 109 rfl rfl
        rw [if_pos (wanted_of (g := 6) (d := 109) (b := true) rfl rfl s109)]
        refine does_val (v := .string st) (w' := wx) ?_ ⟨rfl, Below.refl _ _⟩
        have t110 := (ev_tmp a 110).symm.trans s110
        have hc := HCV.out.1 wx (hBQ.out.trans (hS.mono hBQ.out.size))
        simp [execOp, go_sem, t110, hc]
      · intro a wx hS hb hf
        have s11 : a.eval (.tmp 11) = .slice a3 z2 c3 := (hf 11 (by kernel_rfl)).trans rfl
        have s109 : a.eval (.tmp 109) = .bool true := slot hb 0 6 109 rfl rfl
        rw [if_pos (wanted_of (g := 6) (d := 109) (b := true) rfl rfl s109)]
        refine does_val (v := .slice a3 z2 c3) (w' := wx) ?_ ⟨rfl, Below.refl _ _⟩
        have t11 := (ev_tmp a 11).symm.trans s11
        simp [execOp, go_sem, t11]
      · intro a wx hS hb hf
        have s112 : a.eval (.tmp 112) = .slice a3 z2 c3 := slot hb 0 9 112 rfl rfl
        have s109 : a.eval (.tmp 109) = .bool true := slot hb 1 6 109 rfl rfl
        rw [if_pos (wanted_of (g := 6) (d := 109) (b := true) rfl rfl s109)]
        refine does_val (v := .string st) (w' := wx) ?_ ⟨rfl, Below.refl _ _⟩
        have t112 := (ev_tmp a 112).symm.trans s112
        have hc := HCV.out.2 wx (hBQ.out.trans (hS.mono hBQ.out.size))
        simp [execOp, go_sem, t112, hc]
      · intro a wx hS hb hf
        have s111 : a.eval (.tmp 111) = .string st := slot hb 0 8 111 rfl rfl
        have s113 : a.eval (.tmp 113) = .string st := slot hb 1 10 113 rfl rfl
        have s109 : a.eval (.tmp 109) = .bool true := slot hb 2 6 109 rfl rfl
        rw [if_pos (wanted_of (g := 6) (d := 109) (b := true) rfl rfl s109)]
        refine does_val (v := .bool true) (w' := wx) ?_ ⟨rfl, Below.refl _ _⟩
        have t111 := (ev_tmp a 111).symm.trans s111
        have t113 := (ev_tmp a 113).symm.trans s113
        simp [execOp, go_sem, t111, t113]
      · intro a wx hS hb hf
        have s109 : a.eval (.tmp 109) = .bool true := slot hb 0 6 109 rfl rfl
        have s114 : a.eval (.tmp 114) = .bool true := slot hb 1 11 114 rfl rfl
        rw [if_pos (wanted_none rfl)]
        refine does_val (v := .bool true) (w' := wx) ?_ ⟨rfl, Below.refl _ _⟩
        have t109 := (ev_tmp a 109).symm.trans s109
        have t114 := (ev_tmp a 114).symm.trans s114
        simp [execOp, go_sem, t109, t114]
      · intro a wx hS hb hf
        have s115 : a.eval (.tmp 115) = .bool true := slot hb 0 12 115 rfl rfl
        rw [if_pos (wanted_none rfl)]
        refine does_val (v := .bool true) (w' := wx) ?_ ⟨rfl, Below.refl _ _⟩
        have t115 := (ev_tmp a 115).symm.trans s115
        simp [execOp, go_sem, t115]
      · intro a wx hS hb hf
        have s14 : a.eval (.tmp 14) = .int .i64 er2 := (hf 14 (by kernel_rfl)).trans rfl
        have s116 : a.eval (.tmp 116) = .bool true := slot hb 0 13 116 rfl rfl
        rw [if_pos (wanted_of (g := 13) (d := 116) (b := true) rfl rfl s116)]
        refine does_val (v := .int .i64 er2) (w' := wx) ?_ ⟨rfl, Below.refl _ _⟩
        have t14 := (ev_tmp a 14).symm.trans s14
        simp [execOp, go_sem, t14]
      · intro a wx hS hb hf
        have s16 : a.eval (.tmp 16) = .int .i64 er2 := (hf 16 (by kernel_rfl)).trans rfl
        have s116 : a.eval (.tmp 116) = .bool true := slot hb 0 13 116 rfl rfl
        rw [if_pos (wanted_of (g := 13) (d := 116) (b := true) rfl rfl s116)]
        refine does_val (v := .int .i64 er2) (w' := wx) ?_ ⟨rfl, Below.refl _ _⟩
        have t16 := (ev_tmp a 16).symm.trans s16
        simp [execOp, go_sem, t16]
      · intro a wx hS hb hf
        have s117 : a.eval (.tmp 117) = .int .i64 er2 := slot hb 0 14 117 rfl rfl
        have s118 : a.eval (.tmp 118) = .int .i64 er2 := slot hb 1 15 118 rfl rfl
        have s116 : a.eval (.tmp 116) = .bool true := slot hb 2 13 116 rfl rfl
        rw [if_pos (wanted_of (g := 13) (d := 116) (b := true) rfl rfl s116)]
        refine does_val (v := .bool true) (w' := wx) ?_ ⟨rfl, Below.refl _ _⟩
        have t117 := (ev_tmp a 117).symm.trans s117
        have t118 := (ev_tmp a 118).symm.trans s118
        simp [execOp, go_sem, t117, t118]
      · intro a wx hS hb hf
        have s116 : a.eval (.tmp 116) = .bool true := slot hb 0 13 116 rfl rfl
        have s119 : a.eval (.tmp 119) = .bool true := slot hb 1 16 119 rfl rfl
        rw [if_pos (wanted_none rfl)]
        refine does_val (v := .bool true) (w' := wx) ?_ ⟨rfl, Below.refl _ _⟩
        have t116 := (ev_tmp a 116).symm.trans s116
        have t119 := (ev_tmp a 119).symm.trans s119
        simp [execOp, go_sem, t116, t119]
      · intro a wx hS hb hf
        have s120 : a.eval (.tmp 120) = .bool true := slot hb 0 17 120 rfl rfl
        rw [if_pos (wanted_none rfl)]
        refine does_val (v := .bool true) (w' := wx) ?_ ⟨rfl, Below.refl _ _⟩
        have t120 := (ev_tmp a 120).symm.trans s120
        simp [execOp, go_sem, t120]
      · intro a wx hS hb hf
        have s13 : a.eval (.tmp 13) = .slice a5 n5 c5 := (hf 13 (by kernel_rfl)).trans rfl
        have s121 : a.eval (.tmp 121) = .bool true := slot hb 0 18 121 rfl rfl
        rw [if_pos (wanted_of (g := 18) (d := 121) (b := true) rfl rfl s121)]
        refine does_val (v := .slice a5 n5 c5) (w' := wx) ?_ ⟨rfl, Below.refl _ _⟩
        have t13 := (ev_tmp a 13).symm.trans s13
        simp [execOp, go_sem, t13]
      · intro a wx hS hb hf
        have s15 : a.eval (.tmp 15) = .slice a6 n5 c6 := (hf 15 (by kernel_rfl)).trans rfl
        have s121 : a.eval (.tmp 121) = .bool true := slot hb 0 18 121 rfl rfl
        rw [if_pos (wanted_of (g := 18) (d := 121) (b := true) rfl rfl s121)]
        refine does_val (v := .slice a6 n5 c6) (w' := wx) ?_ ⟨rfl, Below.refl _ _⟩
        have t15 := (ev_tmp a 15).symm.trans s15
        simp [execOp, go_sem, t15]
      · intro a wx hS hb hf
        have s122 : a.eval (.tmp 122) = .slice a5 n5 c5 := slot hb 0 19 122 rfl rfl
        have s123 : a.eval (.tmp 123) = .slice a6 n5 c6 := slot hb 1 20 123 rfl rfl
        have s121 : a.eval (.tmp 121) = .bool true := slot hb 2 18 121 rfl rfl
        rw [if_pos (wanted_of (g := 18) (d := 121) (b := true) rfl rfl s121)]
        have t122 := (ev_tmp a 122).symm.trans s122
        have t123 := (ev_tmp a 123).symm.trans s123
        refine does_call (f := 13) (args := #[.slice a5 n5 c5, .slice a6 n5 c6]) (w' := wx) (by simp [execOp, resolve, invoke, go_sem, t122, t123]) ?_
        refine Calls.mono (HSM.out wx (hBQ.out.trans (hS.mono hBQ.out.size))) ?_
        rintro r w' ⟨rfl, hb'⟩
        exact ⟨_, rfl, rfl, hb'⟩
      · intro a wx hS hb hf
        have s121 : a.eval (.tmp 121) = .bool true := slot hb 0 18 121 rfl rfl
        have s124 : a.eval (.tmp 124) = .bool true := slot hb 1 21 124 rfl rfl
        rw [if_pos (wanted_none rfl)]
        refine does_val (v := .bool true) (w' := wx) ?_ ⟨rfl, Below.refl _ _⟩
        have t121 := (ev_tmp a 121).symm.trans s121
        have t124 := (ev_tmp a 124).symm.trans s124
        simp [execOp, go_sem, t121, t124]
      · intro a wx hS hb hf
        have s125 : a.eval (.tmp 125) = .bool true := slot hb 0 22 125 rfl rfl
        rw [if_pos (wanted_none rfl)]
        refine does_val (v := .bool true) (w' := wx) ?_ ⟨rfl, Below.refl _ _⟩
        have t125 := (ev_tmp a 125).symm.trans s125
        simp [execOp, go_sem, t125]
      · intro a wx hS hb hf
        have s2 : a.eval (.tmp 2) = .string s := (hf 2 (by kernel_rfl)).trans rfl
        have s126 : a.eval (.tmp 126) = .bool true := slot hb 0 23 126 rfl rfl
        rw [if_pos (wanted_of (g := 23) (d := 126) (b := true) rfl rfl s126)]
        refine does_val (v := .string s) (w' := wx) ?_ ⟨rfl, Below.refl _ _⟩
        have t2 := (ev_tmp a 2).symm.trans s2
        simp [execOp, go_sem, t2]
      · intro a wx hS hb hf
        have s127 : a.eval (.tmp 127) = .string s := slot hb 0 24 127 rfl rfl
        have s126 : a.eval (.tmp 126) = .bool true := slot hb 1 23 126 rfl rfl
        rw [if_pos (wanted_of (g := 23) (d := 126) (b := true) rfl rfl s126)]
        have t127 := (ev_tmp a 127).symm.trans s127
        refine does_call (f := 24) (args := #[.string s]) (w' := wx) (by simp [execOp, resolve, invoke, go_sem, t127]) ?_
        refine (esc_sl2 s wx HSS.out).mono ?_
        rintro r w' ⟨u, rfl, hs, hb'⟩
        exact ⟨_, rfl, hs, hb'⟩
      · intro a wx hS hb hf
        have s128 : Sl .u8 (E (nums s)) (a.eval (.tmp 128)) wx := slot hb 0 25 128 rfl rfl
        have s126 : a.eval (.tmp 126) = .bool true := slot hb 1 23 126 rfl rfl
        rw [if_pos (wanted_of (g := 23) (d := 126) (b := true) rfl rfl s126)]
        exact does_conv rfl s128
      · intro a wx hS hb hf
        have s2 : a.eval (.tmp 2) = .string s := (hf 2 (by kernel_rfl)).trans rfl
        have s126 : a.eval (.tmp 126) = .bool true := slot hb 0 23 126 rfl rfl
        rw [if_pos (wanted_of (g := 23) (d := 126) (b := true) rfl rfl s126)]
        refine does_val (v := .string s) (w' := wx) ?_ ⟨rfl, Below.refl _ _⟩
        have t2 := (ev_tmp a 2).symm.trans s2
        simp [execOp, go_sem, t2]
      · intro a wx hS hb hf
        have s130 : a.eval (.tmp 130) = .string s := slot hb 0 27 130 rfl rfl
        have s126 : a.eval (.tmp 126) = .bool true := slot hb 2 23 126 rfl rfl
        rw [if_pos (wanted_of (g := 23) (d := 126) (b := true) rfl rfl s126)]
        have t130 := (ev_tmp a 130).symm.trans s130
        refine does_call (f := 25) (args := #[.string s]) (w' := wx) (by simp [execOp, resolve, invoke, go_sem, t130]) ?_
        refine (refesc_sl s wx HSS.out).mono ?_
        rintro r w' ⟨u, rfl, hs, hb'⟩
        exact ⟨_, rfl, hs, hb'⟩
      · intro a wx hS hb hf
        have s131 : Sl .u8 (E (nums s)) (a.eval (.tmp 131)) wx := slot hb 0 28 131 rfl rfl
        have s126 : a.eval (.tmp 126) = .bool true := slot hb 1 23 126 rfl rfl
        rw [if_pos (wanted_of (g := 23) (d := 126) (b := true) rfl rfl s126)]
        exact does_conv rfl s131
      · intro a wx hS hb hf
        have s129 : a.eval (.tmp 129) = .string (strOfNums (E (nums s))) := slot hb 0 26 129 rfl rfl
        have s132 : a.eval (.tmp 132) = .string (strOfNums (E (nums s))) := slot hb 1 29 132 rfl rfl
        have s126 : a.eval (.tmp 126) = .bool true := slot hb 2 23 126 rfl rfl
        rw [if_pos (wanted_of (g := 23) (d := 126) (b := true) rfl rfl s126)]
        refine does_val (v := .bool true) (w' := wx) ?_ ⟨rfl, Below.refl _ _⟩
        have t129 := (ev_tmp a 129).symm.trans s129
        have t132 := (ev_tmp a 132).symm.trans s132
        simp [execOp, go_sem, t129, t132]
      · intro a wx hS hb hf
        have s126 : a.eval (.tmp 126) = .bool true := slot hb 0 23 126 rfl rfl
        have s133 : a.eval (.tmp 133) = .bool true := slot hb 1 30 133 rfl rfl
        rw [if_pos (wanted_none rfl)]
        refine does_val (v := .bool true) (w' := wx) ?_ ⟨rfl, Below.refl _ _⟩
        have t126 := (ev_tmp a 126).symm.trans s126
        have t133 := (ev_tmp a 133).symm.trans s133
        simp [execOp, go_sem, t126, t133]
      · intro a wx hS hb hf
        have s134 : a.eval (.tmp 134) = .bool true := slot hb 0 31 134 rfl rfl
        rw [if_pos (wanted_none rfl)]
        refine does_val (v := .bool true) (w' := wx) ?_ ⟨rfl, Below.refl _ _⟩
        have t134 := (ev_tmp a 134).symm.trans s134
        simp [execOp, go_sem, t134]
      rename_i hK
      intro a u hbu hts hd hdone hfree
      have hbU : Below w7.heap.size w7 u := hBQ.out.trans (hbu.mono hBQ.out.size)
      exact hK _ _ (ret_K rfl hd (done_slot hdone 32 6 rfl) ⟨rfl, HB7.out.trans (hbU.mono HB7.out.size)⟩)
    · rw [if_neg hcn] at hdr
      have hcv2 : ∀ q, Sem.run Try.prog (convert 32 9 (.slice (some ⟨g, off + nn, none⟩) (nb - nn) (cb - nn))) (w7.drewN q) = .ok (.string rs) (w7.drewN q) := fun q => by
        rw [hrs'.out]; exact conv_drew w7 _ (cb - nn) (nb - nn) r (by omega) hdr q
      clear hbs hs' hc hE hne hrs hdr hed
      go_wp2_with fail
      go_quiet (fail)
      go_wp2_with fail
      have hBQ : Hid (Below w7.heap.size w7 (w7.drewN nq)) := below_dr _ _
      refine wp_region_K (by kernel_rfl) (by kernel_rfl) [.eq (.bool true), .eq (.bool true), .eq (.int .i64 er1), .eq (.int .i64 er1), .eq (.bool true), .eq (.bool true), .eq (.bool true), .eq (.slice a2 z2 c2), .eq (.string st), .eq (.slice a3 z2 c3), .eq (.string st), .eq (.bool true), .eq (.bool true), .eq (.bool true), .eq (.int .i64 er2), .eq (.int .i64 er2), .eq (.bool true), .eq (.bool true), .eq (.bool true), .eq (.slice a5 n5 c5), .eq (.slice a6 n5 c6), .eq (.bool true), .eq (.bool true), .eq (.bool true), .eq (.string s), .rd .u8 (E (nums s)), .eq (.string (strOfNums (E (nums s)))), .eq (.string s), .rd .u8 (E (nums s)), .eq (.string (strOfNums (E (nums s)))), .eq (.bool true), .eq (.bool true), .eq (.bool true)] _ (Below.refl _ _) (allOps_cons ?_ (allOps_cons ?_ (allOps_cons ?_ (allOps_cons ?_ (allOps_cons ?_ (allOps_cons ?_ (allOps_cons ?_ (allOps_cons ?_ (allOps_cons ?_ (allOps_cons ?_ (allOps_cons ?_ (allOps_cons ?_ (allOps_cons ?_ (allOps_cons ?_ (allOps_cons ?_ (allOps_cons ?_ (allOps_cons ?_ (allOps_cons ?_ (allOps_cons ?_ (allOps_cons ?_ (allOps_cons ?_ (allOps_cons ?_ (allOps_cons ?_ (allOps_cons ?_ (allOps_cons ?_ (allOps_cons ?_ (allOps_cons ?_ (allOps_cons ?_ (allOps_cons ?_ (allOps_cons ?_ (allOps_cons ?_ (allOps_cons ?_ (allOps_cons ?_ allOps_nil))))))))))))))))))))))))))))))))) ?_
      · intro a wx hS hb hf
        have s23 : a.eval (.tmp 23) = .bool true := (hf 23 (by kernel_rfl)).trans rfl
        rw [if_pos (wanted_none rfl)]
        refine does_val (v := .bool true) (w' := wx) ?_ ⟨rfl, Below.refl _ _⟩
        have t23 := (ev_tmp a 23).symm.trans s23
        simp [execOp, go_sem, t23]
      · intro a wx hS hb hf
        have s103 : a.eval (.tmp 103) = .bool true := slot hb 0 0 103 rfl rfl
        rw [if_pos (wanted_none rfl)]
        refine does_val (v := .bool true) (w' := wx) ?_ ⟨rfl, Below.refl _ _⟩
        have t103 := (ev_tmp a 103).symm.trans s103
        simp [execOp, go_sem, t103]
      · intro a wx hS hb hf
        have s10 : a.eval (.tmp 10) = .int .i64 er1 := (hf 10 (by kernel_rfl)).trans rfl
        have s104 : a.eval (.tmp 104) = .bool true := slot hb 0 1 104 rfl rfl
        rw [if_pos (wanted_of (g := 1) (d := 104) (b := true) rfl rfl s104)]
        refine does_val (v := .int .i64 er1) (w' := wx) ?_ ⟨rfl, Below.refl _ _⟩
        have t10 := (ev_tmp a 10).symm.trans s10
        simp [execOp, go_sem, t10]
      · intro a wx hS hb hf
        have s12 : a.eval (.tmp 12) = .int .i64 er1 := (hf 12 (by kernel_rfl)).trans rfl
        have s104 : a.eval (.tmp 104) = .bool true := slot hb 0 1 104 rfl rfl
        rw [if_pos (wanted_of (g := 1) (d := 104) (b := true) rfl rfl s104)]
        refine does_val (v := .int .i64 er1) (w' := wx) ?_ ⟨rfl, Below.refl _ _⟩
        have t12 := (ev_tmp a 12).symm.trans s12
        simp [execOp, go_sem, t12]
      · intro a wx hS hb hf
        have s105 : a.eval (.tmp 105) = .int .i64 er1 := slot hb 0 2 105 rfl rfl
        have s106 : a.eval (.tmp 106) = .int .i64 er1 := slot hb 1 3 106 rfl rfl
        have s104 : a.eval (.tmp 104) = .bool true := slot hb 2 1 104 rfl rfl
        rw [if_pos (wanted_of (g := 1) (d := 104) (b := true) rfl rfl s104)]
        refine does_val (v := .bool true) (w' := wx) ?_ ⟨rfl, Below.refl _ _⟩
        have t105 := (ev_tmp a 105).symm.trans s105
        have t106 := (ev_tmp a 106).symm.trans s106
        simp [execOp, go_sem, t105, t106]
      · intro a wx hS hb hf
        have s104 : a.eval (.tmp 104) = .bool true := slot hb 0 1 104 rfl rfl
        have s107 : a.eval (.tmp 107) = .bool true := slot hb 1 4 107 rfl rfl
        rw [if_pos (wanted_none rfl)]
        refine does_val (v := .bool true) (w' := wx) ?_ ⟨rfl, Below.refl _ _⟩
        have t104 := (ev_tmp a 104).symm.trans s104
        have t107 := (ev_tmp a 107).symm.trans s107
        simp [execOp, go_sem, t104, t107]
      · intro a wx hS hb hf
        have s108 : a.eval (.tmp 108) = .bool true := slot hb 0 5 108 rfl rfl
        rw [if_pos (wanted_none rfl)]
        refine does_val (v := .bool true) (w' := wx) ?_ ⟨rfl, Below.refl _ _⟩
        have t108 := (ev_tmp a 108).symm.trans s108
        simp [execOp, go_sem, t108]
      · intro a wx hS hb hf
        have s9 : a.eval (.tmp 9) = .slice a2 z2 c2 := (hf 9 (by kernel_rfl)).trans rfl
        have s109 : a.eval (.tmp 109) = .bool true := slot hb 0 6 109 rfl rfl
        rw [if_pos (wanted_of (g := 6) (d := 109) (b := true) rfl rfl s109)]
        refine does_val (v := .slice a2 z2 c2) (w' := wx) ?_ ⟨rfl, Below.refl _ _⟩
        have t9 := (ev_tmp a 9).symm.trans s9
        simp [execOp, go_sem, t9]
      · intro a wx hS hb hf
        have s110 : a.eval (.tmp 110) = .slice a2 z2 c2 := slot hb 0 7 110 rfl rfl
        have s109 : a.eval (.tmp 109) = .bool true := slot hb 1 6 109 rfl rfl
        rw [if_pos (wanted_of (g := 6) (d := 109) (b := true) rfl rfl s109)]
        refine does_val (v := .string st) (w' := wx) ?_ ⟨rfl, Below.refl _ _⟩
        have t110 := (ev_tmp a 110).symm.trans s110
        have hc := HCV.out.1 wx (hBQ.out.trans (hS.mono hBQ.out.size))
        simp [execOp, go_sem, t110, hc]
      · intro a wx hS hb hf
        have s11 : a.eval (.tmp 11) = .slice a3 z2 c3 := (hf 11 (by kernel_rfl)).trans rfl
        have s109 : a.eval (.tmp 109) = .bool true := slot hb 0 6 109 rfl rfl
        rw [if_pos (wanted_of (g := 6) (d := 109) (b := true) rfl rfl s109)]
        refine does_val (v := .slice a3 z2 c3) (w' := wx) ?_ ⟨rfl, Below.refl _ _⟩
        have t11 := (ev_tmp a 11).symm.trans s11
        simp [execOp, go_sem, t11]
      · intro a wx hS hb hf
        have s112 : a.eval (.tmp 112) = .slice a3 z2 c3 := slot hb 0 9 112 rfl rfl
        have s109 : a.eval (.tmp 109) = .bool true := slot hb 1 6 109 rfl rfl
        rw [if_pos (wanted_of (g := 6) (d := 109) (b := true) rfl rfl s109)]
        refine does_val (v := .string st) (w' := wx) ?_ ⟨rfl, Below.refl _ _⟩
        have t112 := (ev_tmp a 112).symm.trans s112
        have hc := HCV.out.2 wx (hBQ.out.trans (hS.mono hBQ.out.size))
        simp [execOp, go_sem, t112, hc]
      · intro a wx hS hb hf
        have s111 : a.eval (.tmp 111) = .string st := slot hb 0 8 111 rfl rfl
        have s113 : a.eval (.tmp 113) = .string st := slot hb 1 10 113 rfl rfl
        have s109 : a.eval (.tmp 109) = .bool true := slot hb 2 6 109 rfl rfl
        rw [if_pos (wanted_of (g := 6) (d := 109) (b := true) rfl rfl s109)]
        refine does_val (v := .bool true) (w' := wx) ?_ ⟨rfl, Below.refl _ _⟩
        have t111 := (ev_tmp a 111).symm.trans s111
        have t113 := (ev_tmp a 113).symm.trans s113
        simp [execOp, go_sem, t111, t113]
      · intro a wx hS hb hf
        have s109 : a.eval (.tmp 109) = .bool true := slot hb 0 6 109 rfl rfl
        have s114 : a.eval (.tmp 114) = .bool true := slot hb 1 11 114 rfl rfl
        rw [if_pos (wanted_none rfl)]
        refine does_val (v := .bool true) (w' := wx) ?_ ⟨rfl, Below.refl _ _⟩
        have t109 := (ev_tmp a 109).symm.trans s109
        have t114 := (ev_tmp a 114).symm.trans s114
        simp [execOp, go_sem, t109, t114]
      · intro a wx hS hb hf
        have s115 : a.eval (.tmp 115) = .bool true := slot hb 0 12 115 rfl rfl
        rw [if_pos (wanted_none rfl)]
        refine does_val (v := .bool true) (w' := wx) ?_ ⟨rfl, Below.refl _ _⟩
        have t115 := (ev_tmp a 115).symm.trans s115
        simp [execOp, go_sem, t115]
      · intro a wx hS hb hf
        have s14 : a.eval (.tmp 14) = .int .i64 er2 := (hf 14 (by kernel_rfl)).trans rfl
        have s116 : a.eval (.tmp 116) = .bool true := slot hb 0 13 116 rfl rfl
        rw [if_pos (wanted_of (g := 13) (d := 116) (b := true) rfl rfl s116)]
        refine does_val (v := .int .i64 er2) (w' := wx) ?_ ⟨rfl, Below.refl _ _⟩
        have t14 := (ev_tmp a 14).symm.trans s14
        simp [execOp, go_sem, t14]
      · intro a wx hS hb hf
        have s16 : a.eval (.tmp 16) = .int .i64 er2 := (hf 16 (by kernel_rfl)).trans rfl
        have s116 : a.eval (.tmp 116) = .bool true := slot hb 0 13 116 rfl rfl
        rw [if_pos (wanted_of (g := 13) (d := 116) (b := true) rfl rfl s116)]
        refine does_val (v := .int .i64 er2) (w' := wx) ?_ ⟨rfl, Below.refl _ _⟩
        have t16 := (ev_tmp a 16).symm.trans s16
        simp [execOp, go_sem, t16]
      · intro a wx hS hb hf
        have s117 : a.eval (.tmp 117) = .int .i64 er2 := slot hb 0 14 117 rfl rfl
        have s118 : a.eval (.tmp 118) = .int .i64 er2 := slot hb 1 15 118 rfl rfl
        have s116 : a.eval (.tmp 116) = .bool true := slot hb 2 13 116 rfl rfl
        rw [if_pos (wanted_of (g := 13) (d := 116) (b := true) rfl rfl s116)]
        refine does_val (v := .bool true) (w' := wx) ?_ ⟨rfl, Below.refl _ _⟩
        have t117 := (ev_tmp a 117).symm.trans s117
        have t118 := (ev_tmp a 118).symm.trans s118
        simp [execOp, go_sem, t117, t118]
      · intro a wx hS hb hf
        have s116 : a.eval (.tmp 116) = .bool true := slot hb 0 13 116 rfl rfl
        have s119 : a.eval (.tmp 119) = .bool true := slot hb 1 16 119 rfl rfl
        rw [if_pos (wanted_none rfl)]
        refine does_val (v := .bool true) (w' := wx) ?_ ⟨rfl, Below.refl _ _⟩
        have t116 := (ev_tmp a 116).symm.trans s116
        have t119 := (ev_tmp a 119).symm.trans s119
        simp [execOp, go_sem, t116, t119]
      · intro a wx hS hb hf
        have s120 : a.eval (.tmp 120) = .bool true := slot hb 0 17 120 rfl rfl
        rw [if_pos (wanted_none rfl)]
        refine does_val (v := .bool true) (w' := wx) ?_ ⟨rfl, Below.refl _ _⟩
        have t120 := (ev_tmp a 120).symm.trans s120
        simp [execOp, go_sem, t120]
      · intro a wx hS hb hf
        have s13 : a.eval (.tmp 13) = .slice a5 n5 c5 := (hf 13 (by kernel_rfl)).trans rfl
        have s121 : a.eval (.tmp 121) = .bool true := slot hb 0 18 121 rfl rfl
        rw [if_pos (wanted_of (g := 18) (d := 121) (b := true) rfl rfl s121)]
        refine does_val (v := .slice a5 n5 c5) (w' := wx) ?_ ⟨rfl, Below.refl _ _⟩
        have t13 := (ev_tmp a 13).symm.trans s13
        simp [execOp, go_sem, t13]
      · intro a wx hS hb hf
        have s15 : a.eval (.tmp 15) = .slice a6 n5 c6 := (hf 15 (by kernel_rfl)).trans rfl
        have s121 : a.eval (.tmp 121) = .bool true := slot hb 0 18 121 rfl rfl
        rw [if_pos (wanted_of (g := 18) (d := 121) (b := true) rfl rfl s121)]
        refine does_val (v := .slice a6 n5 c6) (w' := wx) ?_ ⟨rfl, Below.refl _ _⟩
        have t15 := (ev_tmp a 15).symm.trans s15
        simp [execOp, go_sem, t15]
      · intro a wx hS hb hf
        have s122 : a.eval (.tmp 122) = .slice a5 n5 c5 := slot hb 0 19 122 rfl rfl
        have s123 : a.eval (.tmp 123) = .slice a6 n5 c6 := slot hb 1 20 123 rfl rfl
        have s121 : a.eval (.tmp 121) = .bool true := slot hb 2 18 121 rfl rfl
        rw [if_pos (wanted_of (g := 18) (d := 121) (b := true) rfl rfl s121)]
        have t122 := (ev_tmp a 122).symm.trans s122
        have t123 := (ev_tmp a 123).symm.trans s123
        refine does_call (f := 13) (args := #[.slice a5 n5 c5, .slice a6 n5 c6]) (w' := wx) (by simp [execOp, resolve, invoke, go_sem, t122, t123]) ?_
        refine Calls.mono (HSM.out wx (hBQ.out.trans (hS.mono hBQ.out.size))) ?_
        rintro r w' ⟨rfl, hb'⟩
        exact ⟨_, rfl, rfl, hb'⟩
      · intro a wx hS hb hf
        have s121 : a.eval (.tmp 121) = .bool true := slot hb 0 18 121 rfl rfl
        have s124 : a.eval (.tmp 124) = .bool true := slot hb 1 21 124 rfl rfl
        rw [if_pos (wanted_none rfl)]
        refine does_val (v := .bool true) (w' := wx) ?_ ⟨rfl, Below.refl _ _⟩
        have t121 := (ev_tmp a 121).symm.trans s121
        have t124 := (ev_tmp a 124).symm.trans s124
        simp [execOp, go_sem, t121, t124]
      · intro a wx hS hb hf
        have s125 : a.eval (.tmp 125) = .bool true := slot hb 0 22 125 rfl rfl
        rw [if_pos (wanted_none rfl)]
        refine does_val (v := .bool true) (w' := wx) ?_ ⟨rfl, Below.refl _ _⟩
        have t125 := (ev_tmp a 125).symm.trans s125
        simp [execOp, go_sem, t125]
      · intro a wx hS hb hf
        have s2 : a.eval (.tmp 2) = .string s := (hf 2 (by kernel_rfl)).trans rfl
        have s126 : a.eval (.tmp 126) = .bool true := slot hb 0 23 126 rfl rfl
        rw [if_pos (wanted_of (g := 23) (d := 126) (b := true) rfl rfl s126)]
        refine does_val (v := .string s) (w' := wx) ?_ ⟨rfl, Below.refl _ _⟩
        have t2 := (ev_tmp a 2).symm.trans s2
        simp [execOp, go_sem, t2]
      · intro a wx hS hb hf
        have s127 : a.eval (.tmp 127) = .string s := slot hb 0 24 127 rfl rfl
        have s126 : a.eval (.tmp 126) = .bool true := slot hb 1 23 126 rfl rfl
        rw [if_pos (wanted_of (g := 23) (d := 126) (b := true) rfl rfl s126)]
        have t127 := (ev_tmp a 127).symm.trans s127
        refine does_call (f := 24) (args := #[.string s]) (w' := wx) (by simp [execOp, resolve, invoke, go_sem, t127]) ?_
        refine (esc_sl2 s wx HSS.out).mono ?_
        rintro r w' ⟨u, rfl, hs, hb'⟩
        exact ⟨_, rfl, hs, hb'⟩
      · intro a wx hS hb hf
        have s128 : Sl .u8 (E (nums s)) (a.eval (.tmp 128)) wx := slot hb 0 25 128 rfl rfl
        have s126 : a.eval (.tmp 126) = .bool true := slot hb 1 23 126 rfl rfl
        rw [if_pos (wanted_of (g := 23) (d := 126) (b := true) rfl rfl s126)]
        exact does_conv rfl s128
      · intro a wx hS hb hf
        have s2 : a.eval (.tmp 2) = .string s := (hf 2 (by kernel_rfl)).trans rfl
        have s126 : a.eval (.tmp 126) = .bool true := slot hb 0 23 126 rfl rfl
        rw [if_pos (wanted_of (g := 23) (d := 126) (b := true) rfl rfl s126)]
        refine does_val (v := .string s) (w' := wx) ?_ ⟨rfl, Below.refl _ _⟩
        have t2 := (ev_tmp a 2).symm.trans s2
        simp [execOp, go_sem, t2]
      · intro a wx hS hb hf
        have s130 : a.eval (.tmp 130) = .string s := slot hb 0 27 130 rfl rfl
        have s126 : a.eval (.tmp 126) = .bool true := slot hb 2 23 126 rfl rfl
        rw [if_pos (wanted_of (g := 23) (d := 126) (b := true) rfl rfl s126)]
        have t130 := (ev_tmp a 130).symm.trans s130
        refine does_call (f := 25) (args := #[.string s]) (w' := wx) (by simp [execOp, resolve, invoke, go_sem, t130]) ?_
        refine (refesc_sl s wx HSS.out).mono ?_
        rintro r w' ⟨u, rfl, hs, hb'⟩
        exact ⟨_, rfl, hs, hb'⟩
      · intro a wx hS hb hf
        have s131 : Sl .u8 (E (nums s)) (a.eval (.tmp 131)) wx := slot hb 0 28 131 rfl rfl
        have s126 : a.eval (.tmp 126) = .bool true := slot hb 1 23 126 rfl rfl
        rw [if_pos (wanted_of (g := 23) (d := 126) (b := true) rfl rfl s126)]
        exact does_conv rfl s131
      · intro a wx hS hb hf
        have s129 : a.eval (.tmp 129) = .string (strOfNums (E (nums s))) := slot hb 0 26 129 rfl rfl
        have s132 : a.eval (.tmp 132) = .string (strOfNums (E (nums s))) := slot hb 1 29 132 rfl rfl
        have s126 : a.eval (.tmp 126) = .bool true := slot hb 2 23 126 rfl rfl
        rw [if_pos (wanted_of (g := 23) (d := 126) (b := true) rfl rfl s126)]
        refine does_val (v := .bool true) (w' := wx) ?_ ⟨rfl, Below.refl _ _⟩
        have t129 := (ev_tmp a 129).symm.trans s129
        have t132 := (ev_tmp a 132).symm.trans s132
        simp [execOp, go_sem, t129, t132]
      · intro a wx hS hb hf
        have s126 : a.eval (.tmp 126) = .bool true := slot hb 0 23 126 rfl rfl
        have s133 : a.eval (.tmp 133) = .bool true := slot hb 1 30 133 rfl rfl
        rw [if_pos (wanted_none rfl)]
        refine does_val (v := .bool true) (w' := wx) ?_ ⟨rfl, Below.refl _ _⟩
        have t126 := (ev_tmp a 126).symm.trans s126
        have t133 := (ev_tmp a 133).symm.trans s133
        simp [execOp, go_sem, t126, t133]
      · intro a wx hS hb hf
        have s134 : a.eval (.tmp 134) = .bool true := slot hb 0 31 134 rfl rfl
        rw [if_pos (wanted_none rfl)]
        refine does_val (v := .bool true) (w' := wx) ?_ ⟨rfl, Below.refl _ _⟩
        have t134 := (ev_tmp a 134).symm.trans s134
        simp [execOp, go_sem, t134]
      rename_i hK
      intro a u hbu hts hd hdone hfree
      have hbU : Below w7.heap.size w7 u := hBQ.out.trans (hbu.mono hBQ.out.size)
      exact hK _ _ (ret_K rfl hd (done_slot hdone 32 6 rfl) ⟨rfl, HB7.out.trans (hbU.mono HB7.out.size)⟩)
  · have hc2 : er = 10 ∨ er = 11 := by
      rcases cut_err zs with h | h | h
      · exact absurd (her.out.trans h) he
      · left; rw [her.out, h]
      · right; rw [her.out, h]
    obtain rfl : m7 = 0 := by
      have h7 := H7.out.2.2.2.2.1
      rw [rst_zero (by rw [← her.out]; exact he)] at h7
      exact h7.hl.symm
    clear he her
    rcases hc2 with rfl | rfl
    · go_wp2_with fail
      go_quiet (fail)
      go_wp2_with fail
      have hBQ : Hid (Below w7.heap.size w7 (w7.drewN nq)) := below_dr _ _
      refine wp_region_K (by kernel_rfl) (by kernel_rfl) [.eq (.bool true), .eq (.bool true), .eq (.int .i64 er1), .eq (.int .i64 er1), .eq (.bool true), .eq (.bool true), .eq (.bool true), .eq (.slice a2 z2 c2), .eq (.string st), .eq (.slice a3 z2 c3), .eq (.string st), .eq (.bool true), .eq (.bool true), .eq (.bool true), .eq (.int .i64 er2), .eq (.int .i64 er2), .eq (.bool true), .eq (.bool true), .eq (.bool true), .eq (.slice a5 n5 c5), .eq (.slice a6 n5 c6), .eq (.bool true), .eq (.bool true), .eq (.bool true), .eq (.string s), .rd .u8 (E (nums s)), .eq (.string (strOfNums (E (nums s)))), .eq (.string s), .rd .u8 (E (nums s)), .eq (.string (strOfNums (E (nums s)))), .eq (.bool true), .eq (.bool true), .eq (.bool true)] _ (Below.refl _ _) (allOps_cons ?_ (allOps_cons ?_ (allOps_cons ?_ (allOps_cons ?_ (allOps_cons ?_ (allOps_cons ?_ (allOps_cons ?_ (allOps_cons ?_ (allOps_cons ?_ (allOps_cons ?_ (allOps_cons ?_ (allOps_cons ?_ (allOps_cons ?_ (allOps_cons ?_ (allOps_cons ?_ (allOps_cons ?_ (allOps_cons ?_ (allOps_cons ?_ (allOps_cons ?_ (allOps_cons ?_ (allOps_cons ?_ (allOps_cons ?_ (allOps_cons ?_ (allOps_cons ?_ (allOps_cons ?_ (allOps_cons ?_ (allOps_cons ?_ (allOps_cons ?_ (allOps_cons ?_ (allOps_cons ?_ (allOps_cons ?_ (allOps_cons ?_ (allOps_cons ?_ allOps_nil))))))))))))))))))))))))))))))))) ?_
      · intro a wx hS hb hf
        have s23 : a.eval (.tmp 23) = .bool true := (hf 23 (by kernel_rfl)).trans rfl
        rw [if_pos (wanted_none rfl)]
        refine does_val (v := .bool true) (w' := wx) ?_ ⟨rfl, Below.refl _ _⟩
        have t23 := (ev_tmp a 23).symm.trans s23
        simp [execOp, go_sem, t23]
      · intro a wx hS hb hf
        have s103 : a.eval (.tmp 103) = .bool true := slot hb 0 0 103 rfl rfl
        rw [if_pos (wanted_none rfl)]
        refine does_val (v := .bool true) (w' := wx) ?_ ⟨rfl, Below.refl _ _⟩
        have t103 := (ev_tmp a 103).symm.trans s103
        simp [execOp, go_sem, t103]
      · intro a wx hS hb hf
        have s10 : a.eval (.tmp 10) = .int .i64 er1 := (hf 10 (by kernel_rfl)).trans rfl
        have s104 : a.eval (.tmp 104) = .bool true := slot hb 0 1 104 rfl rfl
        rw [if_pos (wanted_of (g := 1) (d := 104) (b := true) rfl rfl s104)]
        refine does_val (v := .int .i64 er1) (w' := wx) ?_ ⟨rfl, Below.refl _ _⟩
        have t10 := (ev_tmp a 10).symm.trans s10
        simp [execOp, go_sem, t10]
      · intro a wx hS hb hf
        have s12 : a.eval (.tmp 12) = .int .i64 er1 := (hf 12 (by kernel_rfl)).trans rfl
        have s104 : a.eval (.tmp 104) = .bool true := slot hb 0 1 104 rfl rfl
        rw [if_pos (wanted_of (g := 1) (d := 104) (b := true) rfl rfl s104)]
        refine does_val (v := .int .i64 er1) (w' := wx) ?_ ⟨rfl, Below.refl _ _⟩
        have t12 := (ev_tmp a 12).symm.trans s12
        simp [execOp, go_sem, t12]
      · intro a wx hS hb hf
        have s105 : a.eval (.tmp 105) = .int .i64 er1 := slot hb 0 2 105 rfl rfl
        have s106 : a.eval (.tmp 106) = .int .i64 er1 := slot hb 1 3 106 rfl rfl
        have s104 : a.eval (.tmp 104) = .bool true := slot hb 2 1 104 rfl rfl
        rw [if_pos (wanted_of (g := 1) (d := 104) (b := true) rfl rfl s104)]
        refine does_val (v := .bool true) (w' := wx) ?_ ⟨rfl, Below.refl _ _⟩
        have t105 := (ev_tmp a 105).symm.trans s105
        have t106 := (ev_tmp a 106).symm.trans s106
        simp [execOp, go_sem, t105, t106]
      · intro a wx hS hb hf
        have s104 : a.eval (.tmp 104) = .bool true := slot hb 0 1 104 rfl rfl
        have s107 : a.eval (.tmp 107) = .bool true := slot hb 1 4 107 rfl rfl
        rw [if_pos (wanted_none rfl)]
        refine does_val (v := .bool true) (w' := wx) ?_ ⟨rfl, Below.refl _ _⟩
        have t104 := (ev_tmp a 104).symm.trans s104
        have t107 := (ev_tmp a 107).symm.trans s107
        simp [execOp, go_sem, t104, t107]
      · intro a wx hS hb hf
        have s108 : a.eval (.tmp 108) = .bool true := slot hb 0 5 108 rfl rfl
        rw [if_pos (wanted_none rfl)]
        refine does_val (v := .bool true) (w' := wx) ?_ ⟨rfl, Below.refl _ _⟩
        have t108 := (ev_tmp a 108).symm.trans s108
        simp [execOp, go_sem, t108]
      · intro a wx hS hb hf
        have s9 : a.eval (.tmp 9) = .slice a2 z2 c2 := (hf 9 (by kernel_rfl)).trans rfl
        have s109 : a.eval (.tmp 109) = .bool true := slot hb 0 6 109 rfl rfl
        rw [if_pos (wanted_of (g := 6) (d := 109) (b := true) rfl rfl s109)]
        refine does_val (v := .slice a2 z2 c2) (w' := wx) ?_ ⟨rfl, Below.refl _ _⟩
        have t9 := (ev_tmp a 9).symm.trans s9
        simp [execOp, go_sem, t9]
      · intro a wx hS hb hf
        have s110 : a.eval (.tmp 110) = .slice a2 z2 c2 := slot hb 0 7 110 rfl rfl
        have s109 : a.eval (.tmp 109) = .bool true := slot hb 1 6 109 rfl rfl
        rw [if_pos (wanted_of (g := 6) (d := 109) (b := true) rfl rfl s109)]
        refine does_val (v := .string st) (w' := wx) ?_ ⟨rfl, Below.refl _ _⟩
        have t110 := (ev_tmp a 110).symm.trans s110
        have hc := HCV.out.1 wx (hBQ.out.trans (hS.mono hBQ.out.size))
        simp [execOp, go_sem, t110, hc]
      · intro a wx hS hb hf
        have s11 : a.eval (.tmp 11) = .slice a3 z2 c3 := (hf 11 (by kernel_rfl)).trans rfl
        have s109 : a.eval (.tmp 109) = .bool true := slot hb 0 6 109 rfl rfl
        rw [if_pos (wanted_of (g := 6) (d := 109) (b := true) rfl rfl s109)]
        refine does_val (v := .slice a3 z2 c3) (w' := wx) ?_ ⟨rfl, Below.refl _ _⟩
        have t11 := (ev_tmp a 11).symm.trans s11
        simp [execOp, go_sem, t11]
      · intro a wx hS hb hf
        have s112 : a.eval (.tmp 112) = .slice a3 z2 c3 := slot hb 0 9 112 rfl rfl
        have s109 : a.eval (.tmp 109) = .bool true := slot hb 1 6 109 rfl rfl
        rw [if_pos (wanted_of (g := 6) (d := 109) (b := true) rfl rfl s109)]
        refine does_val (v := .string st) (w' := wx) ?_ ⟨rfl, Below.refl _ _⟩
        have t112 := (ev_tmp a 112).symm.trans s112
        have hc := HCV.out.2 wx (hBQ.out.trans (hS.mono hBQ.out.size))
        simp [execOp, go_sem, t112, hc]
      · intro a wx hS hb hf
        have s111 : a.eval (.tmp 111) = .string st := slot hb 0 8 111 rfl rfl
        have s113 : a.eval (.tmp 113) = .string st := slot hb 1 10 113 rfl rfl
        have s109 : a.eval (.tmp 109) = .bool true := slot hb 2 6 109 rfl rfl
        rw [if_pos (wanted_of (g := 6) (d := 109) (b := true) rfl rfl s109)]
        refine does_val (v := .bool true) (w' := wx) ?_ ⟨rfl, Below.refl _ _⟩
        have t111 := (ev_tmp a 111).symm.trans s111
        have t113 := (ev_tmp a 113).symm.trans s113
        simp [execOp, go_sem, t111, t113]
      · intro a wx hS hb hf
        have s109 : a.eval (.tmp 109) = .bool true := slot hb 0 6 109 rfl rfl
        have s114 : a.eval (.tmp 114) = .bool true := slot hb 1 11 114 rfl rfl
        rw [if_pos (wanted_none rfl)]
        refine does_val (v := .bool true) (w' := wx) ?_ ⟨rfl, Below.refl _ _⟩
        have t109 := (ev_tmp a 109).symm.trans s109
        have t114 := (ev_tmp a 114).symm.trans s114
        simp [execOp, go_sem, t109, t114]
      · intro a wx hS hb hf
        have s115 : a.eval (.tmp 115) = .bool true := slot hb 0 12 115 rfl rfl
        rw [if_pos (wanted_none rfl)]
        refine does_val (v := .bool true) (w' := wx) ?_ ⟨rfl, Below.refl _ _⟩
        have t115 := (ev_tmp a 115).symm.trans s115
        simp [execOp, go_sem, t115]
      · intro a wx hS hb hf
        have s14 : a.eval (.tmp 14) = .int .i64 er2 := (hf 14 (by kernel_rfl)).trans rfl
        have s116 : a.eval (.tmp 116) = .bool true := slot hb 0 13 116 rfl rfl
        rw [if_pos (wanted_of (g := 13) (d := 116) (b := true) rfl rfl s116)]
        refine does_val (v := .int .i64 er2) (w' := wx) ?_ ⟨rfl, Below.refl _ _⟩
        have t14 := (ev_tmp a 14).symm.trans s14
        simp [execOp, go_sem, t14]
      · intro a wx hS hb hf
        have s16 : a.eval (.tmp 16) = .int .i64 er2 := (hf 16 (by kernel_rfl)).trans rfl
        have s116 : a.eval (.tmp 116) = .bool true := slot hb 0 13 116 rfl rfl
        rw [if_pos (wanted_of (g := 13) (d := 116) (b := true) rfl rfl s116)]
        refine does_val (v := .int .i64 er2) (w' := wx) ?_ ⟨rfl, Below.refl _ _⟩
        have t16 := (ev_tmp a 16).symm.trans s16
        simp [execOp, go_sem, t16]
      · intro a wx hS hb hf
        have s117 : a.eval (.tmp 117) = .int .i64 er2 := slot hb 0 14 117 rfl rfl
        have s118 : a.eval (.tmp 118) = .int .i64 er2 := slot hb 1 15 118 rfl rfl
        have s116 : a.eval (.tmp 116) = .bool true := slot hb 2 13 116 rfl rfl
        rw [if_pos (wanted_of (g := 13) (d := 116) (b := true) rfl rfl s116)]
        refine does_val (v := .bool true) (w' := wx) ?_ ⟨rfl, Below.refl _ _⟩
        have t117 := (ev_tmp a 117).symm.trans s117
        have t118 := (ev_tmp a 118).symm.trans s118
        simp [execOp, go_sem, t117, t118]
      · intro a wx hS hb hf
        have s116 : a.eval (.tmp 116) = .bool true := slot hb 0 13 116 rfl rfl
        have s119 : a.eval (.tmp 119) = .bool true := slot hb 1 16 119 rfl rfl
        rw [if_pos (wanted_none rfl)]
        refine does_val (v := .bool true) (w' := wx) ?_ ⟨rfl, Below.refl _ _⟩
        have t116 := (ev_tmp a 116).symm.trans s116
        have t119 := (ev_tmp a 119).symm.trans s119
        simp [execOp, go_sem, t116, t119]
      · intro a wx hS hb hf
        have s120 : a.eval (.tmp 120) = .bool true := slot hb 0 17 120 rfl rfl
        rw [if_pos (wanted_none rfl)]
        refine does_val (v := .bool true) (w' := wx) ?_ ⟨rfl, Below.refl _ _⟩
        have t120 := (ev_tmp a 120).symm.trans s120
        simp [execOp, go_sem, t120]
      · intro a wx hS hb hf
        have s13 : a.eval (.tmp 13) = .slice a5 n5 c5 := (hf 13 (by kernel_rfl)).trans rfl
        have s121 : a.eval (.tmp 121) = .bool true := slot hb 0 18 121 rfl rfl
        rw [if_pos (wanted_of (g := 18) (d := 121) (b := true) rfl rfl s121)]
        refine does_val (v := .slice a5 n5 c5) (w' := wx) ?_ ⟨rfl, Below.refl _ _⟩
        have t13 := (ev_tmp a 13).symm.trans s13
        simp [execOp, go_sem, t13]
      · intro a wx hS hb hf
        have s15 : a.eval (.tmp 15) = .slice a6 n5 c6 := (hf 15 (by kernel_rfl)).trans rfl
        have s121 : a.eval (.tmp 121) = .bool true := slot hb 0 18 121 rfl rfl
        rw [if_pos (wanted_of (g := 18) (d := 121) (b := true) rfl rfl s121)]
        refine does_val (v := .slice a6 n5 c6) (w' := wx) ?_ ⟨rfl, Below.refl _ _⟩
        have t15 := (ev_tmp a 15).symm.trans s15
        simp [execOp, go_sem, t15]
      · intro a wx hS hb hf
        have s122 : a.eval (.tmp 122) = .slice a5 n5 c5 := slot hb 0 19 122 rfl rfl
        have s123 : a.eval (.tmp 123) = .slice a6 n5 c6 := slot hb 1 20 123 rfl rfl
        have s121 : a.eval (.tmp 121) = .bool true := slot hb 2 18 121 rfl rfl
        rw [if_pos (wanted_of (g := 18) (d := 121) (b := true) rfl rfl s121)]
        have t122 := (ev_tmp a 122).symm.trans s122
        have t123 := (ev_tmp a 123).symm.trans s123
        refine does_call (f := 13) (args := #[.slice a5 n5 c5, .slice a6 n5 c6]) (w' := wx) (by simp [execOp, resolve, invoke, go_sem, t122, t123]) ?_
        refine Calls.mono (HSM.out wx (hBQ.out.trans (hS.mono hBQ.out.size))) ?_
        rintro r w' ⟨rfl, hb'⟩
        exact ⟨_, rfl, rfl, hb'⟩
      · intro a wx hS hb hf
        have s121 : a.eval (.tmp 121) = .bool true := slot hb 0 18 121 rfl rfl
        have s124 : a.eval (.tmp 124) = .bool true := slot hb 1 21 124 rfl rfl
        rw [if_pos (wanted_none rfl)]
        refine does_val (v := .bool true) (w' := wx) ?_ ⟨rfl, Below.refl _ _⟩
        have t121 := (ev_tmp a 121).symm.trans s121
        have t124 := (ev_tmp a 124).symm.trans s124
        simp [execOp, go_sem, t121, t124]
      · intro a wx hS hb hf
        have s125 : a.eval (.tmp 125) = .bool true := slot hb 0 22 125 rfl rfl
        rw [if_pos (wanted_none rfl)]
        refine does_val (v := .bool true) (w' := wx) ?_ ⟨rfl, Below.refl _ _⟩
        have t125 := (ev_tmp a 125).symm.trans s125
        simp [execOp, go_sem, t125]
      · intro a wx hS hb hf
        have s2 : a.eval (.tmp 2) = .string s := (hf 2 (by kernel_rfl)).trans rfl
        have s126 : a.eval (.tmp 126) = .bool true := slot hb 0 23 126 rfl rfl
        rw [if_pos (wanted_of (g := 23) (d := 126) (b := true) rfl rfl s126)]
        refine does_val (v := .string s) (w' := wx) ?_ ⟨rfl, Below.refl _ _⟩
        have t2 := (ev_tmp a 2).symm.trans s2
        simp [execOp, go_sem, t2]
      · intro a wx hS hb hf
        have s127 : a.eval (.tmp 127) = .string s := slot hb 0 24 127 rfl rfl
        have s126 : a.eval (.tmp 126) = .bool true := slot hb 1 23 126 rfl rfl
        rw [if_pos (wanted_of (g := 23) (d := 126) (b := true) rfl rfl s126)]
        have t127 := (ev_tmp a 127).symm.trans s127
        refine does_call (f := 24) (args := #[.string s]) (w' := wx) (by simp [execOp, resolve, invoke, go_sem, t127]) ?_
        refine (esc_sl2 s wx HSS.out).mono ?_
        rintro r w' ⟨u, rfl, hs, hb'⟩
        exact ⟨_, rfl, hs, hb'⟩
      · intro a wx hS hb hf
        have s128 : Sl .u8 (E (nums s)) (a.eval (.tmp 128)) wx := slot hb 0 25 128 rfl rfl
        have s126 : a.eval (.tmp 126) = .bool true := slot hb 1 23 126 rfl rfl
        rw [if_pos (wanted_of (g := 23) (d := 126) (b := true) rfl rfl s126)]
        exact does_conv rfl s128
      · intro a wx hS hb hf
        have s2 : a.eval (.tmp 2) = .string s := (hf 2 (by kernel_rfl)).trans rfl
        have s126 : a.eval (.tmp 126) = .bool true := slot hb 0 23 126 rfl rfl
        rw [if_pos (wanted_of (g := 23) (d := 126) (b := true) rfl rfl s126)]
        refine does_val (v := .string s) (w' := wx) ?_ ⟨rfl, Below.refl _ _⟩
        have t2 := (ev_tmp a 2).symm.trans s2
        simp [execOp, go_sem, t2]
      · intro a wx hS hb hf
        have s130 : a.eval (.tmp 130) = .string s := slot hb 0 27 130 rfl rfl
        have s126 : a.eval (.tmp 126) = .bool true := slot hb 2 23 126 rfl rfl
        rw [if_pos (wanted_of (g := 23) (d := 126) (b := true) rfl rfl s126)]
        have t130 := (ev_tmp a 130).symm.trans s130
        refine does_call (f := 25) (args := #[.string s]) (w' := wx) (by simp [execOp, resolve, invoke, go_sem, t130]) ?_
        refine (refesc_sl s wx HSS.out).mono ?_
        rintro r w' ⟨u, rfl, hs, hb'⟩
        exact ⟨_, rfl, hs, hb'⟩
      · intro a wx hS hb hf
        have s131 : Sl .u8 (E (nums s)) (a.eval (.tmp 131)) wx := slot hb 0 28 131 rfl rfl
        have s126 : a.eval (.tmp 126) = .bool true := slot hb 1 23 126 rfl rfl
        rw [if_pos (wanted_of (g := 23) (d := 126) (b := true) rfl rfl s126)]
        exact does_conv rfl s131
      · intro a wx hS hb hf
        have s129 : a.eval (.tmp 129) = .string (strOfNums (E (nums s))) := slot hb 0 26 129 rfl rfl
        have s132 : a.eval (.tmp 132) = .string (strOfNums (E (nums s))) := slot hb 1 29 132 rfl rfl
        have s126 : a.eval (.tmp 126) = .bool true := slot hb 2 23 126 rfl rfl
        rw [if_pos (wanted_of (g := 23) (d := 126) (b := true) rfl rfl s126)]
        refine does_val (v := .bool true) (w' := wx) ?_ ⟨rfl, Below.refl _ _⟩
        have t129 := (ev_tmp a 129).symm.trans s129
        have t132 := (ev_tmp a 132).symm.trans s132
        simp [execOp, go_sem, t129, t132]
      · intro a wx hS hb hf
        have s126 : a.eval (.tmp 126) = .bool true := slot hb 0 23 126 rfl rfl
        have s133 : a.eval (.tmp 133) = .bool true := slot hb 1 30 133 rfl rfl
        rw [if_pos (wanted_none rfl)]
        refine does_val (v := .bool true) (w' := wx) ?_ ⟨rfl, Below.refl _ _⟩
        have t126 := (ev_tmp a 126).symm.trans s126
        have t133 := (ev_tmp a 133).symm.trans s133
        simp [execOp, go_sem, t126, t133]
      · intro a wx hS hb hf
        have s134 : a.eval (.tmp 134) = .bool true := slot hb 0 31 134 rfl rfl
        rw [if_pos (wanted_none rfl)]
        refine does_val (v := .bool true) (w' := wx) ?_ ⟨rfl, Below.refl _ _⟩
        have t134 := (ev_tmp a 134).symm.trans s134
        simp [execOp, go_sem, t134]
      rename_i hK
      intro a u hbu hts hd hdone hfree
      have hbU : Below w7.heap.size w7 u := hBQ.out.trans (hbu.mono hBQ.out.size)
      exact hK _ _ (ret_K rfl hd (done_slot hdone 32 6 rfl) ⟨rfl, HB7.out.trans (hbU.mono HB7.out.size)⟩)
    · go_wp2_with fail
      go_quiet (fail)
      go_wp2_with fail
      have hBQ : Hid (Below w7.heap.size w7 (w7.drewN nq)) := below_dr _ _
      refine wp_region_K (by kernel_rfl) (by kernel_rfl) [.eq (.bool true), .eq (.bool true), .eq (.int .i64 er1), .eq (.int .i64 er1), .eq (.bool true), .eq (.bool true), .eq (.bool true), .eq (.slice a2 z2 c2), .eq (.string st), .eq (.slice a3 z2 c3), .eq (.string st), .eq (.bool true), .eq (.bool true), .eq (.bool true), .eq (.int .i64 er2), .eq (.int .i64 er2), .eq (.bool true), .eq (.bool true), .eq (.bool true), .eq (.slice a5 n5 c5), .eq (.slice a6 n5 c6), .eq (.bool true), .eq (.bool true), .eq (.bool true), .eq (.string s), .rd .u8 (E (nums s)), .eq (.string (strOfNums (E (nums s)))), .eq (.string s), .rd .u8 (E (nums s)), .eq (.string (strOfNums (E (nums s)))), .eq (.bool true), .eq (.bool true), .eq (.bool true)] _ (Below.refl _ _) (allOps_cons ?_ (allOps_cons ?_ (allOps_cons ?_ (allOps_cons ?_ (allOps_cons ?_ (allOps_cons ?_ (allOps_cons ?_ (allOps_cons ?_ (allOps_cons ?_ (allOps_cons ?_ (allOps_cons ?_ (allOps_cons ?_ (allOps_cons ?_ (allOps_cons ?_ (allOps_cons ?_ (allOps_cons ?_ (allOps_cons ?_ (allOps_cons ?_ (allOps_cons ?_ (allOps_cons ?_ (allOps_cons ?_ (allOps_cons ?_ (allOps_cons ?_ (allOps_cons ?_ (allOps_cons ?_ (allOps_cons ?_ (allOps_cons ?_ (allOps_cons ?_ (allOps_cons ?_ (allOps_cons ?_ (allOps_cons ?_ (allOps_cons ?_ (allOps_cons ?_ allOps_nil))))))))))))))))))))))))))))))))) ?_
      · intro a wx hS hb hf
        have s23 : a.eval (.tmp 23) = .bool true := (hf 23 (by kernel_rfl)).trans rfl
        rw [if_pos (wanted_none rfl)]
        refine does_val (v := .bool true) (w' := wx) ?_ ⟨rfl, Below.refl _ _⟩
        have t23 := (ev_tmp a 23).symm.trans s23
        simp [execOp, go_sem, t23]
      · intro a wx hS hb hf
        have s103 : a.eval (.tmp 103) = .bool true := slot hb 0 0 103 rfl rfl
        rw [if_pos (wanted_none rfl)]
        refine does_val (v := .bool true) (w' := wx) ?_ ⟨rfl, Below.refl _ _⟩
        have t103 := (ev_tmp a 103).symm.trans s103
        simp [execOp, go_sem, t103]
      · intro a wx hS hb hf
        have s10 : a.eval (.tmp 10) = .int .i64 er1 := (hf 10 (by kernel_rfl)).trans rfl
        have s104 : a.eval (.tmp 104) = .bool true := slot hb 0 1 104 rfl rfl
        rw [if_pos (wanted_of (g := 1) (d := 104) (b := true) rfl rfl s104)]
        refine does_val (v := .int .i64 er1) (w' := wx) ?_ ⟨rfl, Below.refl _ _⟩
        have t10 := (ev_tmp a 10).symm.trans s10
        simp [execOp, go_sem, t10]
      · intro a wx hS hb hf
        have s12 : a.eval (.tmp 12) = .int .i64 er1 := (hf 12 (by kernel_rfl)).trans rfl
        have s104 : a.eval (.tmp 104) = .bool true := slot hb 0 1 104 rfl rfl
        rw [if_pos (wanted_of (g := 1) (d := 104) (b := true) rfl rfl s104)]
        refine does_val (v := .int .i64 er1) (w' := wx) ?_ ⟨rfl, Below.refl _ _⟩
        have t12 := (ev_tmp a 12).symm.trans s12
        simp [execOp, go_sem, t12]
      · intro a wx hS hb hf
        have s105 : a.eval (.tmp 105) = .int .i64 er1 := slot hb 0 2 105 rfl rfl
        have s106 : a.eval (.tmp 106) = .int .i64 er1 := slot hb 1 3 106 rfl rfl
        have s104 : a.eval (.tmp 104) = .bool true := slot hb 2 1 104 rfl rfl
        rw [if_pos (wanted_of (g := 1) (d := 104) (b := true) rfl rfl s104)]
        refine does_val (v := .bool true) (w' := wx) ?_ ⟨rfl, Below.refl _ _⟩
        have t105 := (ev_tmp a 105).symm.trans s105
        have t106 := (ev_tmp a 106).symm.trans s106
        simp [execOp, go_sem, t105, t106]
      · intro a wx hS hb hf
        have s104 : a.eval (.tmp 104) = .bool true := slot hb 0 1 104 rfl rfl
        have s107 : a.eval (.tmp 107) = .bool true := slot hb 1 4 107 rfl rfl
        rw [if_pos (wanted_none rfl)]
        refine does_val (v := .bool true) (w' := wx) ?_ ⟨rfl, Below.refl _ _⟩
        have t104 := (ev_tmp a 104).symm.trans s104
        have t107 := (ev_tmp a 107).symm.trans s107
        simp [execOp, go_sem, t104, t107]
      · intro a wx hS hb hf
        have s108 : a.eval (.tmp 108) = .bool true := slot hb 0 5 108 rfl rfl
        rw [if_pos (wanted_none rfl)]
        refine does_val (v := .bool true) (w' := wx) ?_ ⟨rfl, Below.refl _ _⟩
        have t108 := (ev_tmp a 108).symm.trans s108
        simp [execOp, go_sem, t108]
      · intro a wx hS hb hf
        have s9 : a.eval (.tmp 9) = .slice a2 z2 c2 := (hf 9 (by kernel_rfl)).trans rfl
        have s109 : a.eval (.tmp 109) = .bool true := slot hb 0 6 109 rfl rfl
        rw [if_pos (wanted_of (g := 6) (d := 109) (b := true) rfl rfl s109)]
        refine does_val (v := .slice a2 z2 c2) (w' := wx) ?_ ⟨rfl, Below.refl _ _⟩
        have t9 := (ev_tmp a 9).symm.trans s9
        simp [execOp, go_sem, t9]
      · intro a wx hS hb hf
        have s110 : a.eval (.tmp 110) = .slice a2 z2 c2 := slot hb 0 7 110 rfl rfl
        have s109 : a.eval (.tmp 109) = .bool true := slot hb 1 6 109 rfl rfl
        rw [if_pos (wanted_of (g := 6) (d := 109) (b := true) rfl rfl s109)]
        refine does_val (v := .string st) (w' := wx) ?_ ⟨rfl, Below.refl _ _⟩
        have t110 := (ev_tmp a 110).symm.trans s110
        have hc := HCV.out.1 wx (hBQ.out.trans (hS.mono hBQ.out.size))
        simp [execOp, go_sem, t110, hc]
      · intro a wx hS hb hf
        have s11 : a.eval (.tmp 11) = .slice a3 z2 c3 := (hf 11 (by kernel_rfl)).trans rfl
        have s109 : a.eval (.tmp 109) = .bool true := slot hb 0 6 109 rfl rfl
        rw [if_pos (wanted_of (g := 6) (d := 109) (b := true) rfl rfl s109)]
        refine does_val (v := .slice a3 z2 c3) (w' := wx) ?_ ⟨rfl, Below.refl _ _⟩
        have t11 := (ev_tmp a 11).symm.trans s11
        simp [execOp, go_sem, t11]
      · intro a wx hS hb hf
        have s112 : a.eval (.tmp 112) = .slice a3 z2 c3 := slot hb 0 9 112 rfl rfl
        have s109 : a.eval (.tmp 109) = .bool true := slot hb 1 6 109 rfl rfl
        rw [if_pos (wanted_of (g := 6) (d := 109) (b := true) rfl rfl s109)]
        refine does_val (v := .string st) (w' := wx) ?_ ⟨rfl, Below.refl _ _⟩
        have t112 := (ev_tmp a 112).symm.trans s112
        have hc := HCV.out.2 wx (hBQ.out.trans (hS.mono hBQ.out.size))
        simp [execOp, go_sem, t112, hc]
      · intro a wx hS hb hf
        have s111 : a.eval (.tmp 111) = .string st := slot hb 0 8 111 rfl rfl
        have s113 : a.eval (.tmp 113) = .string st := slot hb 1 10 113 rfl rfl
        have s109 : a.eval (.tmp 109) = .bool true := slot hb 2 6 109 rfl rfl
        rw [if_pos (wanted_of (g := 6) (d := 109) (b := true) rfl rfl s109)]
        refine does_val (v := .bool true) (w' := wx) ?_ ⟨rfl, Below.refl _ _⟩
        have t111 := (ev_tmp a 111).symm.trans s111
        have t113 := (ev_tmp a 113).symm.trans s113
        simp [execOp, go_sem, t111, t113]
      · intro a wx hS hb hf
        have s109 : a.eval (.tmp 109) = .bool true := slot hb 0 6 109 rfl rfl
        have s114 : a.eval (.tmp 114) = .bool true := slot hb 1 11 114 rfl rfl
        rw [if_pos (wanted_none rfl)]
        refine does_val (v := .bool true) (w' := wx) ?_ ⟨rfl, Below.refl _ _⟩
        have t109 := (ev_tmp a 109).symm.trans s109
        have t114 := (ev_tmp a 114).symm.trans s114
        simp [execOp, go_sem, t109, t114]
      · intro a wx hS hb hf
        have s115 : a.eval (.tmp 115) = .bool true := slot hb 0 12 115 rfl rfl
        rw [if_pos (wanted_none rfl)]
        refine does_val (v := .bool true) (w' := wx) ?_ ⟨rfl, Below.refl _ _⟩
        have t115 := (ev_tmp a 115).symm.trans s115
        simp [execOp, go_sem, t115]
      · intro a wx hS hb hf
        have s14 : a.eval (.tmp 14) = .int .i64 er2 := (hf 14 (by kernel_rfl)).trans rfl
        have s116 : a.eval (.tmp 116) = .bool true := slot hb 0 13 116 rfl rfl
        rw [if_pos (wanted_of (g := 13) (d := 116) (b := true) rfl rfl s116)]
        refine does_val (v := .int .i64 er2) (w' := wx) ?_ ⟨rfl, Below.refl _ _⟩
        have t14 := (ev_tmp a 14).symm.trans s14
        simp [execOp, go_sem, t14]
      · intro a wx hS hb hf
        have s16 : a.eval (.tmp 16) = .int .i64 er2 := (hf 16 (by kernel_rfl)).trans rfl
        have s116 : a.eval (.tmp 116) = .bool true := slot hb 0 13 116 rfl rfl
        rw [if_pos (wanted_of (g := 13) (d := 116) (b := true) rfl rfl s116)]
        refine does_val (v := .int .i64 er2) (w' := wx) ?_ ⟨rfl, Below.refl _ _⟩
        have t16 := (ev_tmp a 16).symm.trans s16
        simp [execOp, go_sem, t16]
      · intro a wx hS hb hf
        have s117 : a.eval (.tmp 117) = .int .i64 er2 := slot hb 0 14 117 rfl rfl
        have s118 : a.eval (.tmp 118) = .int .i64 er2 := slot hb 1 15 118 rfl rfl
        have s116 : a.eval (.tmp 116) = .bool true := slot hb 2 13 116 rfl rfl
        rw [if_pos (wanted_of (g := 13) (d := 116) (b := true) rfl rfl s116)]
        refine does_val (v := .bool true) (w' := wx) ?_ ⟨rfl, Below.refl _ _⟩
        have t117 := (ev_tmp a 117).symm.trans s117
        have t118 := (ev_tmp a 118).symm.trans s118
        simp [execOp, go_sem, t117, t118]
      · intro a wx hS hb hf
        have s116 : a.eval (.tmp 116) = .bool true := slot hb 0 13 116 rfl rfl
        have s119 : a.eval (.tmp 119) = .bool true := slot hb 1 16 119 rfl rfl
        rw [if_pos (wanted_none rfl)]
        refine does_val (v := .bool true) (w' := wx) ?_ ⟨rfl, Below.refl _ _⟩
        have t116 := (ev_tmp a 116).symm.trans s116
        have t119 := (ev_tmp a 119).symm.trans s119
        simp [execOp, go_sem, t116, t119]
      · intro a wx hS hb hf
        have s120 : a.eval (.tmp 120) = .bool true := slot hb 0 17 120 rfl rfl
        rw [if_pos (wanted_none rfl)]
        refine does_val (v := .bool true) (w' := wx) ?_ ⟨rfl, Below.refl _ _⟩
        have t120 := (ev_tmp a 120).symm.trans s120
        simp [execOp, go_sem, t120]
      · intro a wx hS hb hf
        have s13 : a.eval (.tmp 13) = .slice a5 n5 c5 := (hf 13 (by kernel_rfl)).trans rfl
        have s121 : a.eval (.tmp 121) = .bool true := slot hb 0 18 121 rfl rfl
        rw [if_pos (wanted_of (g := 18) (d := 121) (b := true) rfl rfl s121)]
        refine does_val (v := .slice a5 n5 c5) (w' := wx) ?_ ⟨rfl, Below.refl _ _⟩
        have t13 := (ev_tmp a 13).symm.trans s13
        simp [execOp, go_sem, t13]
      · intro a wx hS hb hf
        have s15 : a.eval (.tmp 15) = .slice a6 n5 c6 := (hf 15 (by kernel_rfl)).trans rfl
        have s121 : a.eval (.tmp 121) = .bool true := slot hb 0 18 121 rfl rfl
        rw [if_pos (wanted_of (g := 18) (d := 121) (b := true) rfl rfl s121)]
        refine does_val (v := .slice a6 n5 c6) (w' := wx) ?_ ⟨rfl, Below.refl _ _⟩
        have t15 := (ev_tmp a 15).symm.trans s15
        simp [execOp, go_sem, t15]
      · intro a wx hS hb hf
        have s122 : a.eval (.tmp 122) = .slice a5 n5 c5 := slot hb 0 19 122 rfl rfl
        have s123 : a.eval (.tmp 123) = .slice a6 n5 c6 := slot hb 1 20 123 rfl rfl
        have s121 : a.eval (.tmp 121) = .bool true := slot hb 2 18 121 rfl rfl
        rw [if_pos (wanted_of (g := 18) (d := 121) (b := true) rfl rfl s121)]
        have t122 := (ev_tmp a 122).symm.trans s122
        have t123 := (ev_tmp a 123).symm.trans s123
        refine does_call (f := 13) (args := #[.slice a5 n5 c5, .slice a6 n5 c6]) (w' := wx) (by simp [execOp, resolve, invoke, go_sem, t122, t123]) ?_
        refine Calls.mono (HSM.out wx (hBQ.out.trans (hS.mono hBQ.out.size))) ?_
        rintro r w' ⟨rfl, hb'⟩
        exact ⟨_, rfl, rfl, hb'⟩
      · intro a wx hS hb hf
        have s121 : a.eval (.tmp 121) = .bool true := slot hb 0 18 121 rfl rfl
        have s124 : a.eval (.tmp 124) = .bool true := slot hb 1 21 124 rfl rfl
        rw [if_pos (wanted_none rfl)]
        refine does_val (v := .bool true) (w' := wx) ?_ ⟨rfl, Below.refl _ _⟩
        have t121 := (ev_tmp a 121).symm.trans s121
        have t124 := (ev_tmp a 124).symm.trans s124
        simp [execOp, go_sem, t121, t124]
      · intro a wx hS hb hf
        have s125 : a.eval (.tmp 125) = .bool true := slot hb 0 22 125 rfl rfl
        rw [if_pos (wanted_none rfl)]
        refine does_val (v := .bool true) (w' := wx) ?_ ⟨rfl, Below.refl _ _⟩
        have t125 := (ev_tmp a 125).symm.trans s125
        simp [execOp, go_sem, t125]
      · intro a wx hS hb hf
        have s2 : a.eval (.tmp 2) = .string s := (hf 2 (by kernel_rfl)).trans rfl
        have s126 : a.eval (.tmp 126) = .bool true := slot hb 0 23 126 rfl rfl
        rw [if_pos (wanted_of (g := 23) (d := 126) (b := true) rfl rfl s126)]
        refine does_val (v := .string s) (w' := wx) ?_ ⟨rfl, Below.refl _ _⟩
        have t2 := (ev_tmp a 2).symm.trans s2
        simp [execOp, go_sem, t2]
      · intro a wx hS hb hf
        have s127 : a.eval (.tmp 127) = .string s := slot hb 0 24 127 rfl rfl
        have s126 : a.eval (.tmp 126) = .bool true := slot hb 1 23 126 rfl rfl
        rw [if_pos (wanted_of (g := 23) (d := 126) (b := true) rfl rfl s126)]
        have t127 := (ev_tmp a 127).symm.trans s127
        refine does_call (f := 24) (args := #[.string s]) (w' := wx) (by simp [execOp, resolve, invoke, go_sem, t127]) ?_
        refine (esc_sl2 s wx HSS.out).mono ?_
        rintro r w' ⟨u, rfl, hs, hb'⟩
        exact ⟨_, rfl, hs, hb'⟩
      · intro a wx hS hb hf
        have s128 : Sl .u8 (E (nums s)) (a.eval (.tmp 128)) wx := slot hb 0 25 128 rfl rfl
        have s126 : a.eval (.tmp 126) = .bool true := slot hb 1 23 126 rfl rfl
        rw [if_pos (wanted_of (g := 23) (d := 126) (b := true) rfl rfl s126)]
        exact does_conv rfl s128
      · intro a wx hS hb hf
        have s2 : a.eval (.tmp 2) = .string s := (hf 2 (by kernel_rfl)).trans rfl
        have s126 : a.eval (.tmp 126) = .bool true := slot hb 0 23 126 rfl rfl
        rw [if_pos (wanted_of (g := 23) (d := 126) (b := true) rfl rfl s126)]
        refine does_val (v := .string s) (w' := wx) ?_ ⟨rfl, Below.refl _ _⟩
        have t2 := (ev_tmp a 2).symm.trans s2
        simp [execOp, go_sem, t2]
      · intro a wx hS hb hf
        have s130 : a.eval (.tmp 130) = .string s := slot hb 0 27 130 rfl rfl
        have s126 : a.eval (.tmp 126) = .bool true := slot hb 2 23 126 rfl rfl
        rw [if_pos (wanted_of (g := 23) (d := 126) (b := true) rfl rfl s126)]
        have t130 := (ev_tmp a 130).symm.trans s130
        refine does_call (f := 25) (args := #[.string s]) (w' := wx) (by simp [execOp, resolve, invoke, go_sem, t130]) ?_
        refine (refesc_sl s wx HSS.out).mono ?_
        rintro r w' ⟨u, rfl, hs, hb'⟩
        exact ⟨_, rfl, hs, hb'⟩
      · intro a wx hS hb hf
        have s131 : Sl .u8 (E (nums s)) (a.eval (.tmp 131)) wx := slot hb 0 28 131 rfl rfl
        have s126 : a.eval (.tmp 126) = .bool true := slot hb 1 23 126 rfl rfl
        rw [if_pos (wanted_of (g := 23) (d := 126) (b := true) rfl rfl s126)]
        exact does_conv rfl s131
      · intro a wx hS hb hf
        have s129 : a.eval (.tmp 129) = .string (strOfNums (E (nums s))) := slot hb 0 26 129 rfl rfl
        have s132 : a.eval (.tmp 132) = .string (strOfNums (E (nums s))) := slot hb 1 29 132 rfl rfl
        have s126 : a.eval (.tmp 126) = .bool true := slot hb 2 23 126 rfl rfl
        rw [if_pos (wanted_of (g := 23) (d := 126) (b := true) rfl rfl s126)]
        refine does_val (v := .bool true) (w' := wx) ?_ ⟨rfl, Below.refl _ _⟩
        have t129 := (ev_tmp a 129).symm.trans s129
        have t132 := (ev_tmp a 132).symm.trans s132
        simp [execOp, go_sem, t129, t132]
      · intro a wx hS hb hf
        have s126 : a.eval (.tmp 126) = .bool true := slot hb 0 23 126 rfl rfl
        have s133 : a.eval (.tmp 133) = .bool true := slot hb 1 30 133 rfl rfl
        rw [if_pos (wanted_none rfl)]
        refine does_val (v := .bool true) (w' := wx) ?_ ⟨rfl, Below.refl _ _⟩
        have t126 := (ev_tmp a 126).symm.trans s126
        have t133 := (ev_tmp a 133).symm.trans s133
        simp [execOp, go_sem, t126, t133]
      · intro a wx hS hb hf
        have s134 : a.eval (.tmp 134) = .bool true := slot hb 0 31 134 rfl rfl
        rw [if_pos (wanted_none rfl)]
        refine does_val (v := .bool true) (w' := wx) ?_ ⟨rfl, Below.refl _ _⟩
        have t134 := (ev_tmp a 134).symm.trans s134
        simp [execOp, go_sem, t134]
      rename_i hK
      intro a u hbu hts hd hdone hfree
      have hbU : Below w7.heap.size w7 u := hBQ.out.trans (hbu.mono hBQ.out.size)
      exact hK _ _ (ret_K rfl hd (done_slot hdone 32 6 rfl) ⟨rfl, HB7.out.trans (hbU.mono HB7.out.size)⟩)

set_option maxRecDepth 100000 in
theorem labelsBytes_lifted (os : Os) (started : os.Started) (H : Type) (enc : TypeId × Value → H) :
    ReturnsInHanded {} Try.checked os 4 .any (Rows.labelsBytesSpec.pre6 enc Try.prog Try.f4 Rows.labelsBytesRow.domain false) (Rows.labelsBytesSpec.post enc Try.prog Try.f4 false true false false) := by
  refine returnsInHanded_of_change (C := Try.checked) own started (by kernel_rfl) Try.func4
    (ChangeSpec.witness6 (enc := enc) (C := Try.checked) false ⟨#[], #[.slice none 0 0, .slice none 0 0, .string ⟨#[]⟩], []⟩ 8 (by kernel_rfl) (by kernel_rfl) (by kernel_rfl) (by kernel_rfl)) ?_
  intro W base args ds gs before hval0 hW hcnd _
  have hval : ∀ (j : Nat) t v, Try.f4.params[j]? = some t → args[j]? = some v → Value.okWide Try.prog W .any base t v := hval0
  have hW' := hW
  obtain ⟨p, q, hA0, hV, rfl, hfz, hnd⟩ := hW
  have hA : DataW.TrodAll enc Try.prog W 0 (fun _ => true) true Try.f4.params.toList args.toList ds p := hA0
  rw [Try.params4] at hA hval
  obtain ⟨v0, vs0, d0, ds0, p0, q0, hargs, rfl, rfl, h0, r0⟩ := trodAll_cons hA
  obtain ⟨v1, vs1, d1, ds1, p1, q1, rfl, rfl, rfl, h1, r1⟩ := trodAll_cons r0
  obtain ⟨v2, vs2, d2, ds2, p2, q2, rfl, rfl, rfl, h2, r2⟩ := trodAll_cons r1
  obtain ⟨rfl, rfl, rfl⟩ := trodAll_nil r2
  obtain rfl : args = #[v0, v1, v2] := by cases args; simp_all
  obtain ⟨rfl, rfl⟩ := trodVars_none hV
  obtain ⟨a0, len0, cap0, rfl⟩ := okWide_slice Try.underlying22 (hval 0 22 v0 rfl rfl)
  have k0 := h0
  have lt0 : ∀ x ∈ p0, x.block < W.heap.size := by obtain ⟨m, hm⟩ := k0; exact DataW.trod_lt m _ _ _ hm
  obtain ⟨vl0, w0, wf0⟩ : ∃ ls, IsL W a0 len0 cap0 ls ∧ WfL ls := by obtain ⟨fuel, hf⟩ := h0; exact isL_of hf
  obtain ⟨a1, len1, cap1, rfl⟩ := okWide_slice Try.underlying32 (hval 1 32 v1 rfl rfl)
  have k1 := h1
  have lt1 : ∀ x ∈ p1, x.block < W.heap.size := by obtain ⟨m, hm⟩ := k1; exact DataW.trod_lt m _ _ _ hm
  obtain ⟨vl1, w1, wf1⟩ : ∃ ms, IsI .u8 W a1 len1 cap1 ms ∧ Bytes ms := by obtain ⟨fuel, hf⟩ := h1; exact isI_of hf
  obtain ⟨s2, rfl, rfl, rfl, w2⟩ := open_string Try.underlying9 (hval 2 9 v2 rfl rfl) h2
  clear hA0 hval0
  refine (labelsBytes_walk a0 len0 cap0 vl0 w0 wf0 a1 len1 cap1 vl1 w1 wf1 s2 w2 rfl).mono fun e W' ⟨he, hb⟩ => ?_
  subst he
  exact ⟨_, rfl, _, _, _, [], _, [], hW', trodAll_mk1 (shut_bool Try.underlying4 _), (trodAll_cons_mk (Below.trod laidOut (by kernel_rfl) (of_decide_eq_true (by kernel_rfl)) k0 hb lt0) (trodAll_cons_mk (Below.trod laidOut (by kernel_rfl) (of_decide_eq_true (by kernel_rfl)) k1 hb lt1) (trodAll_cons_mk (shut_string Try.underlying9 w2) trodAll_mk0))), rfl, hb.frame _, fun h => by cases h⟩

theorem labelsBytes_holds : Rows.LabelsBytesSaid :=
  OpenClaim.holds_of_wide 4 Try.f4 rfl rfl rfl rfl rfl rfl rfl ⟨rfl, rfl, rfl, rfl, rfl⟩ rfl rfl rfl rfl rfl (by kernel_rfl) Try.func4 (by kernel_rfl)
    (of_decide_eq_true (by kernel_rfl)) (by unfold Func.isWrapper; first | (rw [if_pos (by decide +kernel)]; kernel_rfl) | (rw [if_neg (by decide +kernel)]; exact ⟨rfl, rfl⟩))
    (fun os started H enc _ => labelsBytes_lifted os started H enc)
#print axioms labelsBytes_holds
end Go.Proofs.Ythklkhdcmoonkaa
