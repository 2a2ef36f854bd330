/- For every row of values that may be, packed piece by piece, all values are there, in order: DecimalAll returns true, and its argument reads as before. Conditions: the listed package variable starts as the program's text lays it (the card ties it). -/
import Derived.Test.YtpjimckbpabakaaDoorRows
import Derived.Test.YtpjimckbpabakaaDoorCards
import Derived.Test.YtpjimckbpabakaaDoorTie
import Derived.Test.YtpjimckbpabakaaDoorK
namespace Go.Proofs.YtpjimckbpabakaaDoor
open Go.ChangeShapes Go.WideShapes Go.ChangeAt Go.RowKit Go.Lib

def lenOf : Value → Nat
  | .slice _ n _ => n
  | _ => 0

set_option maxHeartbeats 3200000 in
theorem decimalAll_walk (a : Option Addr) (len cap : Nat) (vs : List Vl) {w0 : World} (hv : IsV w0 a len cap vs) (_ : WfV vs) (w : World) (hP : Pw w) (hw : w = w0) :
    Calls Tryd.prog 6 #[.slice a len cap] w fun r w' => r = .returned (.bool true) ∧ Below w.heap.size w w' := by
  subst hw
  have hm := hv.hm
  have hc := hv.hc
  unfold maxLen at hm
  by_cases hl : len ≤ 60
  · have HV : Hid (IsV w a len cap vs) := hv
    clear hv
    obtain ⟨i0, hi, hz0, hz1, hz2⟩ := info36_parts
    go_enter Tryd.func6, Tryd.ntmps6
    go_wp2_with fail
    refine (awake_any _ hP).mono ?_
    rintro r w1 ⟨rfl, b1⟩
    have hl' : ¬ (60 : Int) < (len : Int) := by omega
    go_wp2_with fail
    go_loopw [4] (fun i wr => ∃ k : Nat, i = .int .i64 (k : Int) ∧ k ≤ len ∧ Hid (∀ j, j < k → may (vs.getD j v0) = true) ∧ Below w.heap.size w wr) (fun i _ => len - (RowKit.intOf i).toNat)
    case atStart => exact ⟨0, rfl, Nat.zero_le _, fun j hj => by omega, b1⟩
    case round =>
      obtain ⟨k, rfl, hk, hmay, hb⟩ := hrel
      by_cases hlt : k < len
      · have hlt' : (k : Int) < (len : Int) := by omega
        obtain ⟨b, off, rfl, hbb, c0, c1, c2⟩ := HV.out.rd.at (k := k) (by rw [HV.out.hl]; exact hlt)
        have d0 := (hb.cell (p := ⟨b, off + k * 3, none⟩) hbb).trans c0
        have d1 := (hb.cell (p := ⟨b, off + k * 3 + 1, none⟩) hbb).trans c1
        have d2 := (hb.cell (p := ⟨b, off + k * 3 + 2, none⟩) hbb).trans c2
        clear c0 c1 c2
        obtain ⟨v, hvv⟩ : ∃ x, Hid (x = vs.getD k v0) := ⟨_, rfl⟩
        rw [← hvv.out] at d0 d1 d2
        obtain ⟨bv, hbv⟩ : ∃ b, Hid (b = mayBe v.M v.E v.S) := ⟨_, rfl⟩
        go_wp2_with fail
        refine (refright_any v.M v.E v.S bv hbv _).mono ?_
        rintro r w' ⟨rfl, hw'⟩; rw [hw']; clear hw' w'
        cases bv with
        | false =>
          go_wp2_with fail
          go_ret
          exact ⟨rfl, hb.alloc hb.size _⟩
        | true =>
          go_wp2_with fail
          go_roundw
          case rel =>
            refine ⟨k + 1, by go_num, hlt, fun j hj => ?_, hb.alloc hb.size _⟩
            by_cases hjk : j = k
            · subst hjk; rw [← hvv.out]; exact hbv.out.symm
            · exact hmay.out j (by omega)
          case measure => simp [RowKit.intOf]; omega
      · have hlt' : ¬ (k : Int) < (len : Int) := by omega
        obtain rfl : k = len := by omega
        have hall : Hid (∀ v ∈ vs, may v = true) := fun v hv => by
          obtain ⟨j, hj, rfl⟩ := List.mem_iff_getElem.1 hv
          have := hmay.out j (by rw [← HV.out.hl]; exact hj)
          simpa [List.getD, hj] using this
        clear hmay
        go_wp2_with fail
        go_loopw [5, 6] (fun al re wr => ∃ (j : Nat) (a' : Option Addr) (c' : Nat), j ≤ k ∧ re = .slice a' (k - j) c' ∧ Hid (IsV w a' (k - j) c' (vs.drop j)) ∧ Hid (wr.ownsRow w.heap.size 36 3 al j (cls (vs.take j))) ∧ Below w.heap.size w wr) (fun _ re _ => lenOf re)
        case atStart => exact ⟨0, a, cap, Nat.zero_le _, rfl, HV.out, World.ownsRow_nil _ _ _ _, hb⟩
        case round =>
          obtain ⟨j, a', c', hj, rfl, hv', ho, hb'⟩ := hrel
          by_cases hjk : j < k
          · have hpos : (0 : Int) < ((k - j : Nat) : Int) := by omega
            have hc' := hv'.out.hc
            have hm' := hv'.out.hm
            unfold maxLen at hm'
            have HP : Hid (Pw wr) := hP.below hb'
            have hlen60 : k - j ≤ 100 := by omega
            go_wp2_with fail
            refine (pack_any _ (k - j) c' (vs.drop j) _ (hv'.out.below hb') hlen60 HP.out).mono ?_
            rintro r w2 ⟨n, g, L, rfl, hg, row, b2⟩
            have hdl : (vs.drop j).length = k - j := hv'.out.hl
            have hn1 : n ≤ k - j := by have := L.1; omega
            have hn0 : 1 ≤ n := longest_pos L (fun v hv => hall.out v (List.mem_of_mem_drop hv)) (by omega)
            have HL : Hid (Longest (vs.drop j) n) := L
            clear L
            obtain ⟨e, he⟩ : ∃ e, Hid (e = (st ((vs.drop j).take n)).1) := ⟨_, rfl⟩
            rw [← he.out] at row ⊢
            have rd := rdI_of_row row (by rw [hdl]; exact hn1)
            have h64 := mants_64 HL.out
            rw [← he.out] at h64
            have hlen := mants_len (e := e) (HL.out.1)
            have hul := unl_mants HL.out
            rw [← he.out] at hul
            clear row
            have B2 : Below w.heap.size w w2 := hb'.trans (b2.mono hb'.size)
            have t1 : ¬ (n : Int) < 1 := by omega
            have t2 : ¬ (n : Int) > ((k - j : Nat) : Int) := by omega
            have t3 : (n : Int) ≤ ((k - j : Nat) : Int) := by omega
            have t4 : (0 : Int) ≤ (n : Int) := by omega
            go_wp2_with fail
            refine (unpack_any _ n n (mants (vs.drop j) n e) e _ hlen (by omega) rd h64 (HP.out.below b2)).mono ?_
            rintro r w3 ⟨b3, h3⟩
            have B3 : Below w.heap.size w w3 := B2.trans (b3.mono B2.size)
            have b23 : Below wr.heap.size wr w3 := b2.trans (b3.mono b2.size)
            rcases h3 with ⟨us, a3, c3, hu, rfl, v3⟩ | ⟨hu, _⟩
            · obtain rfl : (vs.drop j).take n = us := Option.some.inj (hul.symm.trans hu)
              have hln : ((vs.drop j).take n).length = n := by simp; have := HL.out.1; simp at this; omega
              rw [hln] at v3 ⊢
              obtain ⟨b, off, rfl, _⟩ := v3.rd.at (k := 0) (by omega)
              obtain ⟨b', off', rfl, _⟩ := hv'.out.rd.at (k := 0) (by omega)
              have ho3 := own_below ho.out b23
              have hnews := rdV_news v3.rd
              have hcl := cls_len ((vs.drop j).take n)
              rw [hln] at hcl
              have HO : Hid (w3.ownsRow w.heap.size 36 3 _ j (cls (vs.take j)) ∧ _ ∧ (cls ((vs.drop j).take n)).length = n * 3) := ⟨ho3, hnews, hcl⟩
              clear hul hu rd h64 hlen ho3 hnews hcl v3 hln
              go_wp2_with (at_builtin; refine wpList_append_own _ rfl (.tmp 56) (.tmp 57) 22 rfl w.heap.size 36 i0 (val 0 0 0) 3 24 Tryd.underlying22 hi hz0 hz1 hz2 rfl (by decide) _ j _ rfl HO.out.1 ⟨b, off, none⟩ n c3 (cls ((vs.drop j).take n)) rfl HO.out.2.2 HO.out.2.1 (cls_one _) (by unfold maxLen; omega) (by omega) (by have := B3.size; omega) ?_; intro v' w4 hown' hgrow _)
              go_roundw
              case rel =>
                have b34 : Below w.heap.size w w4 := B3.grown hgrow B3.size (fun x hx => (HO.out.1.lt x hx).1)
                refine ⟨j + n, (if c' = n then some ⟨b', off', none⟩ else some ⟨b', off' + n * 3, none⟩), c' - n, by omega, by rw [Nat.sub_sub], ?_, ?_, b34⟩
                · have hrd : RdV w (some ⟨b', off', none⟩) (vs.drop j) := hv'.out.rd
                  have e1 : vs.drop (j + n) = (vs.drop j).drop n := by rw [List.drop_drop]
                  refine ⟨by simp; have := HV.out.hl; omega, by omega, by unfold maxLen; omega, ?_, ?_⟩
                  · rw [e1]
                    by_cases hcn : c' = n
                    · have : (vs.drop j).drop n = [] := List.eq_nil_of_length_eq_zero (by simp; have := HV.out.hl; omega)
                      rw [this]; exact .inl rfl
                    · rw [if_neg hcn]; exact hrd.drop
                  · intro h; split at h <;> cases h
                · have e2 : vs.take (j + n) = vs.take j ++ (vs.drop j).take n := by rw [List.take_add]
                  rw [e2, cls_append]
                  exact hown'
              case measure =>
                simp [lenOf]; omega
            · rw [hul] at hu; cases hu
          · have hpos : ¬ (0 : Int) < ((k - j : Nat) : Int) := by omega
            obtain rfl : j = k := by omega
            obtain ⟨a5, c5, rfl, v5⟩ := own_rdV ho.out
            have htk : vs.take j = vs := List.take_of_length_le (by rw [HV.out.hl]; exact Nat.le_refl _)
            rw [htk] at v5
            go_wp2_with fail
            refine (sameV_any _ _ j c5 cap vs _ HV.out.hl (by omega) v5.rd (HV.out.rd.below hb')).mono ?_
            rintro r w6 ⟨rfl, b6⟩
            go_wp2_with fail
            go_ret
            exact ⟨rfl, hb'.trans (b6.mono hb'.size)⟩
  · have hl' : (60 : Int) < (len : Int) := by omega
    clear hv
    go_enter Tryd.func6, Tryd.ntmps6
    go_wp2_with fail
    refine (awake_any _ hP).mono ?_
    rintro r w1 ⟨rfl, b1⟩
    go_wp2_with fail
    go_ret
    exact ⟨rfl, b1⟩

set_option maxRecDepth 100000 in
theorem decimalAll_lifted (os : Os) (started : os.Started) (H : Type) (enc : TypeId × Value → H) :
    ReturnsInHanded {} Tryd.checked os 6 .any (fun w args => (Rows.decimalAllSpec.pre enc Tryd.prog Tryd.f6 [] false w args ∧ laidMetH Tryd.prog Rows.decimalAllRow.laid w) ∧ sizedMet enc Tryd.prog Tryd.f6 (OpenSpec.ofChange Rows.decimalAllSpec) false w args)
      (Rows.decimalAllSpec.post enc Tryd.prog Tryd.f6 false true false false) := by
  refine returns_and_shaped (C := Tryd.checked) (X := fun w _ => laidMetH Tryd.prog Rows.decimalAllRow.laid w) (fun _ _ _ hh h => h.of_heap hh) own started (by kernel_rfl) Tryd.func6
    (ChangeSpec.witness_shaped (enc := enc) (C := Tryd.checked) (os := os) (X := fun w _ => laidMetH Tryd.prog Rows.decimalAllRow.laid w) false (World.laidAll Tryd.prog os Rows.decimalAllRow.laid) #[.slice none 0 0] 8 (World.laidAll_os _ _ _)
      (World.shaped_of_ZipB (by kernel_rfl) (by kernel_rfl)) (by kernel_rfl) (by kernel_rfl) (by kernel_rfl)
      (by rw [MakeChecks.laidMetH_plain _ _ _ (by kernel_rfl)]; exact laidMet_laidAll _ (by kernel_rfl) (by kernel_rfl))) ?_
  intro W base args ds gs before hval0 hW hL hsh
  have hval : ∀ (j : Nat) t v, Tryd.f6.params[j]? = some t → args[j]? = some v → Value.okWide Tryd.prog W .any base t v := hval0
  have hW' := hW
  obtain ⟨p, q, hA0, hV, rfl, _, _⟩ := hW
  have hA : DataW.TrodAll enc Tryd.prog W 0 (fun _ => true) true Tryd.f6.params.toList args.toList ds p := hA0
  rw [Tryd.params6] at hA hval
  obtain ⟨v0, vs0, d0, ds0, p0, q0, hargs, rfl, rfl, h0, r0⟩ := trodAll_cons hA
  obtain ⟨rfl, rfl, rfl⟩ := trodAll_nil r0
  obtain rfl : args = #[v0] := by cases args; simp_all
  obtain ⟨rfl, rfl⟩ := trodVars_none hV
  obtain ⟨a0, len0, cap0, rfl⟩ := okWide_slice Tryd.underlying22 (hval 0 22 v0 rfl rfl)
  have k0 := h0
  have lt0 : ∀ x ∈ p0, x.block < W.heap.size := by obtain ⟨m, hm⟩ := k0; exact DataW.trod_lt m _ _ _ hm
  obtain ⟨vl0, w0, wf0⟩ : ∃ vs, IsV W a0 len0 cap0 vs ∧ WfV vs := by obtain ⟨fuel, hf⟩ := h0; exact isV_of hf
  clear hA0 hval0
  rw [MakeChecks.laidMetH_plain _ _ _ (by kernel_rfl)] at hL
  refine (decimalAll_walk a0 len0 cap0 vl0 w0 wf0 W (pw_of (laidMet.reads hL (by simp [Rows.decimalAllRow]))) rfl).mono fun e W' ⟨he, hb⟩ => ?_
  subst he
  exact ⟨_, rfl, _, _, _, [], _, [], hW', trodAll_mk1 (shut_bool Tryd.underlying4 _), (trodAll_cons_mk (Below.trod laidOut (by kernel_rfl) (of_decide_eq_true (by kernel_rfl)) k0 hb lt0) trodAll_mk0), rfl, hb.frame _, fun h => by cases h⟩

theorem decimalAll_row : Rows.DecimalAllSaid :=
  OpenClaim.holds_of_wide 6 Tryd.f6 rfl rfl rfl rfl rfl rfl rfl ⟨rfl, rfl, rfl, rfl, rfl⟩ rfl rfl rfl rfl rfl (by kernel_rfl) Tryd.func6 (by kernel_rfl)
    (of_decide_eq_true (by kernel_rfl)) (by unfold Func.isWrapper; first | (rw [if_pos (by decide +kernel)]; kernel_rfl) | (rw [if_neg (by decide +kernel)]; exact ⟨rfl, rfl⟩))
    (fun os started H enc _ => decimalAll_lifted os started H enc)

theorem decimalAll_holds : Rows.DecimalAllCardSaid :=
  Claim7.holds_tied_plain_at .later [] [.data] true (true, "fb586888b63048c59fe16ba3a6b41687cfa8807de2ef88983382edfacc4fb51c") false decimalAll_row (fun _ h => by cases h) (by kernel_rfl) (fun _ h => by cases h) decimalAll_row_tie rfl ⟨rfl, rfl⟩ (by kernel_rfl) rfl
    (fun f fn hf hfn => by
      obtain rfl : f = 6 := Option.some.inj ((show Tryd.prog.funcNamed Rows.decimalAllRow.func = some 6 by kernel_rfl).symm.trans hf) |>.symm
      obtain rfl : fn = Tryd.f6 := (Option.some.inj (Tryd.func6.symm.trans hfn)).symm
      exact ⟨by kernel_rfl, fun j t ht => by
        rw [Tryd.params6] at ht
        have hm : t ∈ [22] := by simpa using Array.mem_of_getElem? ht
        have hall : ([22].all fun u => !Tryd.prog.wantsStandIn u) = true := by kernel_rfl
        exact (show Tryd.prog.wantsStandIn t = false by simpa using List.all_eq_true.1 hall t hm)⟩)
    (by kernel_rfl)
#print axioms decimalAll_holds
end Go.Proofs.YtpjimckbpabakaaDoor

