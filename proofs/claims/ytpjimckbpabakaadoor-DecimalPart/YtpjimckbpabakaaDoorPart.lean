/- For every row of values and every piece of it, what has one exponent has it without some of its values, too: DecimalPart returns true, and its arguments read as before. Conditions: the listed package variable starts as the program's text lays it (the card ties it). -/
import Derived.Test.YtpjimckbpabakaaDoorRows
import Derived.Test.YtpjimckbpabakaaDoorCards
import Derived.Test.YtpjimckbpabakaaDoorTie
import Derived.Test.YtpjimckbpabakaaDoorK
namespace Go.Proofs.YtpjimckbpabakaaDoor
open Go.ChangeShapes Go.WideShapes Go.ChangeAt Go.RowKit Go.Lib

def nums (l : List Vl) : Bool := l.any fun v => v.M != 0
theorem nums_iff (l : List Vl) : nums l = true ↔ ∃ v ∈ l, v.M ≠ 0 := by simp [nums]
theorem good_sub {l p : List Vl} (h : good l) (hp : ∀ v ∈ p, v ∈ l) : good p ∧ (nums p = true → (st l).1 ≤ (st p).1) ∧ (nums p = false → (st p).1 = 0) := by
  by_cases hn : ∃ v ∈ p, v.M ≠ 0
  · obtain ⟨v, hv, hM⟩ := hn
    obtain ⟨_, ⟨x, hx, hxM, ex⟩, ⟨y, hy, hyM, ey⟩, _⟩ := st_some p ⟨v, hv, hM⟩
    obtain ⟨_, _, _, h4⟩ := st_some l ⟨v, hp v hv, hM⟩
    have h5 := h4 x (hp x hx) hxM
    have h6 := h4 y (hp y hy) hyM
    have h7 := h.2
    refine ⟨⟨fun z hz => h.1 z (hp z hz), by omega⟩, fun _ => by omega, fun hf => ?_⟩
    have := (nums_iff p).2 ⟨v, hv, hM⟩
    rw [hf] at this; cases this
  · have hz := st_none p fun x hx => Decidable.byContradiction fun h => hn ⟨x, hx, h⟩
    refine ⟨⟨fun z hz => h.1 z (hp z hz), by rw [hz]; decide⟩, fun ht => absurd ((nums_iff p).1 ht) hn, fun _ => by rw [hz]⟩
theorem nums_snoc (l : List Vl) (v : Vl) : nums (l ++ [v]) = (nums l || (v.M != 0)) := by simp [nums]

theorem RdV.part {w : World} {a : Option Addr} {vs : List Vl} (h : RdV w a vs) (f n : Nat) (cap : Nat) (hc : vs.length ≤ cap) (hl : f + n ≤ vs.length) : RdV w (if cap = f then a else a.map fun x => x.add (f * 3)) ((vs.drop f).take n) := by
  rcases h with rfl | ⟨b, off, rfl, h2, h3⟩
  · exact .inl (by simp)
  · by_cases hcf : cap = f
    · exact .inl (List.eq_nil_of_length_eq_zero (by simp; omega))
    · rw [if_neg hcf]
      have := (RdV.drop (n := f) (show RdV w (some ⟨b, off, none⟩) vs from .inr ⟨b, off, rfl, h2, h3⟩)).take n
      simpa [Addr.add_lit] using this

set_option maxHeartbeats 3200000 in
theorem decimalPart_walk (a : Option Addr) (len cap : Nat) (vs : List Vl) {w0 : World} (hv : IsV w0 a len cap vs) (_ : WfV vs) (fr : Int) (_ : -9223372036854775808 ≤ fr ∧ fr ≤ 9223372036854775807) (to : Int) (_ : -9223372036854775808 ≤ to ∧ to ≤ 9223372036854775807) (w : World) (hP : Pw w) (hw : w = w0) :
    Calls Tryd.prog 7 #[.slice a len cap, .int .i64 fr, .int .i64 to] w fun r w' => r = .returned (.bool true) ∧ Below w.heap.size w w' := by
  subst hw
  have hm := hv.hm
  have hc := hv.hc
  unfold maxLen at hm
  by_cases hbad : len > 60 ∨ fr < 0 ∨ to < fr ∨ to > len
  · clear hv
    go_enter Tryd.func7, Tryd.ntmps7
    go_wp2_with fail
    refine (awake_any _ hP).mono ?_
    rintro r w1 ⟨rfl, b1⟩
    clear hP
    by_cases t1 : (60 : Int) < (len : Int)
    · clear hbad
      go_wp2_with fail
      go_ret
      exact ⟨rfl, b1⟩
    · by_cases t2 : fr < 0
      · clear hbad
        go_wp2_with fail
        go_ret
        exact ⟨rfl, b1⟩
      · by_cases t3 : to < fr
        · clear hbad
          go_wp2_with fail
          go_ret
          exact ⟨rfl, b1⟩
        · have t4 : (len : Int) < to := by omega
          clear hbad
          go_wp2_with fail
          go_ret
          exact ⟨rfl, b1⟩
  · obtain ⟨f, rfl⟩ := Int.eq_ofNat_of_zero_le (show 0 ≤ fr by omega)
    obtain ⟨m, rfl⟩ : ∃ m : Nat, to = ((f + m : Nat) : Int) := ⟨(to - f).toNat, by omega⟩
    have hl : len ≤ 60 := by omega
    have hfm : f + m ≤ len := by omega
    have t1 : ¬ (60 : Int) < (len : Int) := by omega
    have t2 : ¬ (f : Int) < 0 := by omega
    have t3 : ¬ ((f + m : Nat) : Int) < (f : Int) := by omega
    have t4 : ¬ (len : Int) < ((f + m : Nat) : Int) := by omega
    clear hbad
    have HV : Hid (IsV w a len cap vs) := hv
    clear hv
    go_enter Tryd.func7, Tryd.ntmps7
    go_wp2_with fail
    refine (awake_any _ hP).mono ?_
    rintro r w1 ⟨rfl, b1⟩
    go_wp2_with fail
    refine (pack_any _ len cap vs _ (HV.out.below b1) (by omega) (hP.below b1)).mono ?_
    rintro r w2 ⟨n, g, L, rfl, hg, row, b2⟩
    have B2 : Below w.heap.size w w2 := b1.trans (b2.mono b1.size)
    have hn : n ≤ len := by have := L.1; rw [HV.out.hl] at this; exact this
    have HL : Hid (Longest vs n) := L
    clear L row
    obtain ⟨e, he⟩ : ∃ e, Hid (e = (st (vs.take n)).1) := ⟨_, rfl⟩
    rw [← he.out]
    by_cases hnl : n < len
    · have t5 : (n : Int) < (len : Int) := by omega
      go_wp2_with fail
      go_ret
      exact ⟨rfl, B2⟩
    · obtain rfl : n = len := by omega
      have t5 : ¬ (n : Int) < (n : Int) := by omega
      have HG : Hid (good vs) := by
        have := HL.out.2.1
        rwa [List.take_of_length_le (by rw [HV.out.hl]; exact Nat.le_refl _)] at this
      have HT : Hid (vs.take n = vs) := List.take_of_length_le (by rw [HV.out.hl]; exact Nat.le_refl _)
      have hrp := HV.out.rd.part f m cap (by rw [HV.out.hl]; exact hc) (by rw [HV.out.hl]; exact hfm)
      have hlp : ((vs.drop f).take m).length = m := by simp; have := HV.out.hl; omega
      by_cases hcf : cap = f
      · have hm0 : m = 0 := by omega
        subst hm0
        have V' : Hid (∀ u, IsV u a 0 0 []) := fun u => ⟨rfl, Nat.le_refl _, Nat.zero_le _, .inl rfl, fun _ => rfl⟩
        clear hrp hlp HT HG
        go_wp2_with fail
        refine (pack_any a 0 0 [] _ (V'.out _) (by omega) (hP.below B2)).mono ?_
        rintro r w3 ⟨k, g', L', rfl, hg', row', b3⟩
        have B3 : Below w.heap.size w w3 := B2.trans (b3.mono B2.size)
        obtain rfl : k = 0 := by have := L'.1; simpa using this
        have hst : (st (([] : List Vl).take 0)).1 = 0 := rfl
        rw [hst]
        clear row' L' hst
        go_wp2_with fail
        go_loop [15, 16] (fun nb i => i = .int .i64 0 ∧ nb = .bool false) (fun _ i => (RowKit.intOf i).toNat)
        case atStart => exact ⟨rfl, rfl⟩
        case round =>
          obtain ⟨rfl, rfl⟩ := hrel
          by_cases hee : e ≤ 0
          · go_wp2_with fail
            go_ret
            exact ⟨rfl, B3⟩
          · go_wp2_with fail
            go_ret
            exact ⟨rfl, B3⟩
      · rw [if_neg hcf] at hrp
        have V' : Hid (IsV w (a.map fun x => x.add (f * 3)) m (cap - f) ((vs.drop f).take m)) := ⟨hlp, by omega, by unfold maxLen; omega, hrp, fun h => by
          have := HV.out.nil (by simpa using h)
          omega⟩
        clear hrp hlp
        go_wp2_with fail
        generalize hga : (Option.map (fun x => Addr.add x (f * 3)) a) = a' at V' ⊢
        generalize hgc : cap - f = c' at V' ⊢
        clear hga hgc
        refine (pack_any a' m c' ((vs.drop f).take m) _ (V'.out.below B2) (by omega) (hP.below B2)).mono ?_
        rintro r w3 ⟨k, g', L', rfl, hg', row', b3⟩
        have B3 : Below w.heap.size w w3 := B2.trans (b3.mono B2.size)
        have hpl := V'.out.hl
        have hgs := good_sub (p := (vs.drop f).take m) HG.out (fun v hv => List.mem_of_mem_drop (List.mem_of_mem_take hv))
        have hgp : good (((vs.drop f).take m).take m) := by rw [List.take_take, Nat.min_self]; exact hgs.1
        obtain rfl : k = m := L'.uniq (longest_of (by omega) hgp (.inl hpl.symm))
        have htk : ((vs.drop f).take k).take k = (vs.drop f).take k := by rw [List.take_take, Nat.min_self]
        rw [htk]
        obtain ⟨p, hp⟩ : ∃ p, Hid (p = (vs.drop f).take k) := ⟨_, rfl⟩
        rw [← hp.out] at hgs hpl V' ⊢
        obtain ⟨f', hf'⟩ : ∃ x, Hid (x = (st p).1) := ⟨_, rfl⟩
        rw [← hf'.out] at hgs ⊢
        have HS : Hid (good p ∧ (nums p = true → e ≤ f') ∧ (nums p = false → f' = 0)) := by
          refine ⟨hgs.1, fun h => ?_, hgs.2.2⟩
          rw [he.out]
          have := hgs.2.1 h
          rwa [HT.out]
        have VR : Hid (RdV w3 a' p) := V'.out.rd.below B3
        have HPL : Hid (p.length = k) := hpl
        clear hgs hgp htk row' L' hpl HG V'
        have t6 : ¬ (n : Int) < (n : Int) := by omega
        go_wp2_with fail
        go_loop [15, 16] (fun nb i => ∃ j : Nat, i = .int .i64 (j : Int) ∧ j ≤ k ∧ nb = .bool (nums (p.take j))) (fun _ i => k - (RowKit.intOf i).toNat)
        case atStart => exact ⟨0, rfl, Nat.zero_le _, rfl⟩
        case round =>
          obtain ⟨j, rfl, hj, rfl⟩ := hrel
          by_cases hjk : j < k
          · have hjk' : (j : Int) < (k : Int) := by omega
            obtain ⟨b, off, rfl, hbb, c0, c1, c2⟩ := VR.out.at (k := j) (by rw [HPL.out]; exact hjk)
            have hsn : Hid (nums (p.take (j + 1)) = (nums (p.take j) || ((p.getD j v0).M != 0))) := by
              show _ = _
              rw [take_snoc p j (by rw [HPL.out]; exact hjk), nums_snoc]
            have hmay : Hid (may (p.getD j v0) = true) := HS.out.1.1 _ (by
              have h := mem_take_getD (l := p) (n := k) hjk (by rw [HPL.out]; exact Nat.le_refl _)
              rwa [List.take_of_length_le (by rw [HPL.out]; exact Nat.le_refl _)] at h)
            obtain ⟨v, hvv⟩ : ∃ x, Hid (x = p.getD j v0) := ⟨_, rfl⟩
            rw [← hvv.out] at c0 c1 c2 hsn hmay
            clear c1
            cases hnb : nums (p.take j) with
            | true =>
              have HN : Hid (nums (p.take (j + 1)) = true) := by show _ = _; rw [hsn.out, hnb]; rfl
              clear hnb hsn
              go_wp2_with fail
              go_round
              case rel => exact ⟨j + 1, by go_num, hjk, by rw [HN.out]⟩
              case measure => simp [RowKit.intOf]; omega
            | false =>
              by_cases hM : v.M = 0
              · have HN : Hid (nums (p.take (j + 1)) = false) := by show _ = _; rw [hsn.out, hnb]; simp [hM]
                clear hnb hsn
                rw [hM] at c0
                by_cases hS : v.S = 0
                · rw [hS] at c2
                  go_wp2_with fail
                  go_round
                  case rel => exact ⟨j + 1, by go_num, hjk, by rw [HN.out]⟩
                  case measure => simp [RowKit.intOf]; omega
                · go_wp2_with fail
                  go_round
                  case rel => exact ⟨j + 1, by go_num, hjk, by rw [HN.out]⟩
                  case measure => simp [RowKit.intOf]; omega
              · have HN : Hid (nums (p.take (j + 1)) = true) := by show _ = _; rw [hsn.out, hnb]; simp [hM]
                have hS := (may_num hmay.out hM).1
                clear hnb hsn
                rw [hS] at c2
                go_wp2_with fail
                go_round
                case rel => exact ⟨j + 1, by go_num, hjk, by rw [HN.out]; simp [hM]⟩
                case measure => simp [RowKit.intOf]; omega
          · have hjk' : ¬ (j : Int) < (k : Int) := by omega
            obtain rfl : j = k := by omega
            have htj : p.take j = p := List.take_of_length_le (by rw [HPL.out]; exact Nat.le_refl _)
            rw [htj]
            cases hnb : nums p with
            | true =>
              have hef : e ≤ f' := HS.out.2.1 hnb
              clear hnb
              go_wp2_with fail
              go_ret
              exact ⟨rfl, B3⟩
            | false =>
              have hef : f' = 0 := HS.out.2.2 hnb
              clear hnb
              by_cases hee : e ≤ 0
              · subst hef
                go_wp2_with fail
                go_ret
                exact ⟨rfl, B3⟩
              · subst hef
                go_wp2_with fail
                go_ret
                exact ⟨rfl, B3⟩

set_option maxRecDepth 100000 in
theorem decimalPart_lifted (os : Os) (started : os.Started) (H : Type) (enc : TypeId × Value → H) :
    ReturnsInHanded {} Tryd.checked os 7 .any (fun w args => (Rows.decimalPartSpec.pre enc Tryd.prog Tryd.f7 [] false w args ∧ laidMetH Tryd.prog Rows.decimalPartRow.laid w) ∧ sizedMet enc Tryd.prog Tryd.f7 (OpenSpec.ofChange Rows.decimalPartSpec) false w args)
      (Rows.decimalPartSpec.post enc Tryd.prog Tryd.f7 false true false false) := by
  refine returns_and_shaped (C := Tryd.checked) (X := fun w _ => laidMetH Tryd.prog Rows.decimalPartRow.laid w) (fun _ _ _ hh h => h.of_heap hh) own started (by kernel_rfl) Tryd.func7
    (ChangeSpec.witness_shaped (enc := enc) (C := Tryd.checked) (os := os) (X := fun w _ => laidMetH Tryd.prog Rows.decimalPartRow.laid w) false (World.laidAll Tryd.prog os Rows.decimalPartRow.laid) #[.slice none 0 0, .int .i64 0, .int .i64 0] 8 (World.laidAll_os _ _ _)
      (World.shaped_of_ZipB (by kernel_rfl) (by kernel_rfl)) (by kernel_rfl) (by kernel_rfl) (by kernel_rfl)
      (by rw [MakeChecks.laidMetH_plain _ _ _ (by kernel_rfl)]; exact laidMet_laidAll _ (by kernel_rfl) (by kernel_rfl))) ?_
  intro W base args ds gs before hval0 hW hL hsh
  have hval : ∀ (j : Nat) t v, Tryd.f7.params[j]? = some t → args[j]? = some v → Value.okWide Tryd.prog W .any base t v := hval0
  have hW' := hW
  obtain ⟨p, q, hA0, hV, rfl, _, _⟩ := hW
  have hA : DataW.TrodAll enc Tryd.prog W 0 (fun _ => true) true Tryd.f7.params.toList args.toList ds p := hA0
  rw [Tryd.params7] at hA hval
  obtain ⟨v0, vs0, d0, ds0, p0, q0, hargs, rfl, rfl, h0, r0⟩ := trodAll_cons hA
  obtain ⟨v1, vs1, d1, ds1, p1, q1, rfl, rfl, rfl, h1, r1⟩ := trodAll_cons r0
  obtain ⟨v2, vs2, d2, ds2, p2, q2, rfl, rfl, rfl, h2, r2⟩ := trodAll_cons r1
  obtain ⟨rfl, rfl, rfl⟩ := trodAll_nil r2
  obtain rfl : args = #[v0, v1, v2] := by cases args; simp_all
  obtain ⟨rfl, rfl⟩ := trodVars_none hV
  obtain ⟨a0, len0, cap0, rfl⟩ := okWide_slice Tryd.underlying22 (hval 0 22 v0 rfl rfl)
  have k0 := h0
  have lt0 : ∀ x ∈ p0, x.block < W.heap.size := by obtain ⟨m, hm⟩ := k0; exact DataW.trod_lt m _ _ _ hm
  obtain ⟨vl0, w0, wf0⟩ : ∃ vs, IsV W a0 len0 cap0 vs ∧ WfV vs := by obtain ⟨fuel, hf⟩ := h0; exact isV_of hf
  obtain ⟨a1, rfl, rfl, rfl, w1⟩ := open_int Tryd.underlying3 (hval 1 3 v1 rfl rfl) h1
  have hx1 : -9223372036854775808 ≤ a1 ∧ a1 ≤ 9223372036854775807 := by simpa [Lit.wf, IntKind.min, IntKind.max, IntKind.signed, IntKind.bits] using w1
  obtain ⟨a2, rfl, rfl, rfl, w2⟩ := open_int Tryd.underlying3 (hval 2 3 v2 rfl rfl) h2
  have hx2 : -9223372036854775808 ≤ a2 ∧ a2 ≤ 9223372036854775807 := by simpa [Lit.wf, IntKind.min, IntKind.max, IntKind.signed, IntKind.bits] using w2
  clear hA0 hval0
  rw [MakeChecks.laidMetH_plain _ _ _ (by kernel_rfl)] at hL
  refine (decimalPart_walk a0 len0 cap0 vl0 w0 wf0 a1 hx1 a2 hx2 W (pw_of (laidMet.reads hL (by simp [Rows.decimalPartRow]))) rfl).mono fun e W' ⟨he, hb⟩ => ?_
  subst he
  exact ⟨_, rfl, _, _, _, [], _, [], hW', trodAll_mk1 (shut_bool Tryd.underlying4 _), (trodAll_cons_mk (Below.trod laidOut (by kernel_rfl) (of_decide_eq_true (by kernel_rfl)) k0 hb lt0) (trodAll_cons_mk (shut_int Tryd.underlying3 w1) (trodAll_cons_mk (shut_int Tryd.underlying3 w2) trodAll_mk0))), rfl, hb.frame _, fun h => by cases h⟩

theorem decimalPart_row : Rows.DecimalPartSaid :=
  OpenClaim.holds_of_wide 7 Tryd.f7 rfl rfl rfl rfl rfl rfl rfl ⟨rfl, rfl, rfl, rfl, rfl⟩ rfl rfl rfl rfl rfl (by kernel_rfl) Tryd.func7 (by kernel_rfl)
    (of_decide_eq_true (by kernel_rfl)) (by unfold Func.isWrapper; first | (rw [if_pos (by decide +kernel)]; kernel_rfl) | (rw [if_neg (by decide +kernel)]; exact ⟨rfl, rfl⟩))
    (fun os started H enc _ => decimalPart_lifted os started H enc)

theorem decimalPart_holds : Rows.DecimalPartCardSaid :=
  Claim7.holds_tied_plain_at .later [] [.data] true (true, "fb586888b63048c59fe16ba3a6b41687cfa8807de2ef88983382edfacc4fb51c") false decimalPart_row (fun _ h => by cases h) (by kernel_rfl) (fun _ h => by cases h) decimalPart_row_tie rfl ⟨rfl, rfl⟩ (by kernel_rfl) rfl
    (fun f fn hf hfn => by
      obtain rfl : f = 7 := Option.some.inj ((show Tryd.prog.funcNamed Rows.decimalPartRow.func = some 7 by kernel_rfl).symm.trans hf) |>.symm
      obtain rfl : fn = Tryd.f7 := (Option.some.inj (Tryd.func7.symm.trans hfn)).symm
      exact ⟨by kernel_rfl, fun j t ht => by
        rw [Tryd.params7] at ht
        have hm : t ∈ [22, 3, 3] := by simpa using Array.mem_of_getElem? ht
        have hall : ([22, 3, 3].all fun u => !Tryd.prog.wantsStandIn u) = true := by kernel_rfl
        exact (show Tryd.prog.wantsStandIn t = false by simpa using List.all_eq_true.1 hall t hm)⟩)
    (by kernel_rfl)
#print axioms decimalPart_holds
end Go.Proofs.YtpjimckbpabakaaDoor

