/- Of numbers above 0 with one exponent the greater one has the greater bits, of one number a greater exponent, and a number below 0 has those of its opposite and the highest one: FloatOrders returns true for every input, and its arguments read as before. Conditions: the listed package variables start as the program's text lays them (the card ties them). -/
import Derived.Test.YtmeimofnmpmaoaaGreatDoorRows
import Derived.Test.YtmeimofnmpmaoaaGreatDoorCards
import Derived.Test.YtmeimofnmpmaoaaGreatDoorTie
import Derived.Test.YtmeimofnmpmaoaaGreatDoorOw
namespace Go.Proofs.YtmeimofnmpmaoaaGreatDoor
open Go.ChangeShapes Go.WideShapes Go.ChangeAt Go.RowKit Go.Lib Go.Shelf Fl

abbrev cel (M E : Int) : Obj := .cells #[.int .i64 M, .int .i64 E, .int .i64 0] 23

theorem ten_gap_any (a z c d : Nat) (h : c ≤ 10 * d) : a * z * c ≤ a * (z * 10) * d := by
  have h1 : a * z * c ≤ a * z * (10 * d) := Nat.mul_le_mul_left _ h
  have h2 : a * z * (10 * d) = a * (z * 10) * d := by rw [← Nat.mul_assoc (a * z) 10 d, Nat.mul_assoc a z 10]
  exact h2 ▸ h1

theorem ten_gap (a z : Nat) : a * z * (2 ^ 50 + 1) ≤ a * (z * 10) * 2 ^ 50 :=
  ten_gap_any a z (2 ^ 50 + 1) (2 ^ 50) (by decide)

theorem cel_at {w1 W : World} {M E : Int} (h : Below (w1.heap.size + 1) (w1.alloc (cel M E)) W) : W.cell? ⟨w1.heap.size, 0, none⟩ = some (.int .i64 M) ∧ W.cell? ⟨w1.heap.size, 1, none⟩ = some (.int .i64 E) ∧ W.cell? ⟨w1.heap.size, 2, none⟩ = some (.int .i64 0) := by
  refine ⟨?_, ?_, ?_⟩
  · rw [h.cell (by simp)]; simp
  · rw [h.cell (by simp)]; simp
  · rw [h.cell (by simp)]; simp

set_option maxRecDepth 20000 in
set_option maxHeartbeats 2000000 in
theorem orders_walk (m n e : Int) (m0 : -9223372036854775808 ≤ m) (m1 : m ≤ 9223372036854775807) (n0 : -9223372036854775808 ≤ n) (n1 : n ≤ 9223372036854775807) (w : World) (hG : Ground w) :
    Calls Tryz.prog 7 #[.int .i64 m, .int .i64 n, .int .i64 e] w fun r w' => r = .returned (.bool true) ∧ Below w.heap.size w w' := by
  obtain ⟨A, AE, ba, hca, hra⟩ := clean_rel m e m0 m1
  obtain ⟨B, BE, bb, hcb, hrb⟩ := clean_rel n e n0 n1
  obtain ⟨e', he'⟩ : ∃ e', Hid (e' = IntKind.i64.wrap (e + 1)) := ⟨_, rfl⟩
  have hew : IntKind.i64.wrap (e + 1) = e' := he'.out.symm
  obtain ⟨C, CE, bc, hcc, hrc⟩ := clean_rel m e' m0 m1
  have HR : Hid (∃ q, 300 ≤ q ∧ q = 1400) := ⟨1400, by decide, rfl⟩
  go_enter Tryz.func7, Tryz.ntmps7
  go_wp2_with fail
  refine (awake_any _ hG).mono ?_
  rintro r w1 ⟨rfl, b1⟩
  go_wp2_with fail
  refine (hca _).mono ?_
  rintro r w2 ⟨rfl, b2⟩
  go_wp2_with fail
  refine (hcb _).mono ?_
  rintro r w3 ⟨rfl, b3⟩
  go_wp2_with fail
  refine (hcc _).mono ?_
  rintro r w4 ⟨rfl, b4⟩
  have s12 : w1.heap.size ≤ w2.heap.size := b2.size
  have s23 : w2.heap.size < w3.heap.size := Nat.lt_of_lt_of_le (by simp) b3.size
  have s34 : w3.heap.size < w4.heap.size := Nat.lt_of_lt_of_le (by simp) b4.size
  have c2 : Below (w2.heap.size + 1) (w2.alloc (cel A AE)) w3 := b3.mono (by simp)
  have c3 : Below (w3.heap.size + 1) (w3.alloc (cel B BE)) w4 := b4.mono (by simp)
  have a2 : Below w2.heap.size w2 (w2.alloc (cel A AE)) := (Below.refl _ _).alloc (Nat.le_refl _) _
  have a3 : Below w3.heap.size w3 (w3.alloc (cel B BE)) := (Below.refl _ _).alloc (Nat.le_refl _) _
  have a4 : Below w4.heap.size w4 (w4.alloc (cel C CE)) := (Below.refl _ _).alloc (Nat.le_refl _) _
  have c24 : Below (w2.heap.size + 1) (w2.alloc (cel A AE)) w4 := c2.trans ((a3.mono (by omega)).trans (c3.mono (by omega)))
  have d2 : Below (w2.heap.size + 1) (w2.alloc (cel A AE)) (w4.alloc (cel C CE)) := c24.trans (a4.mono (by omega))
  have d3 : Below (w3.heap.size + 1) (w3.alloc (cel B BE)) (w4.alloc (cel C CE)) := c3.trans (a4.mono (by omega))
  have bw : Below w.heap.size w (w4.alloc (cel C CE)) := (b1.trans (b2.mono b1.size)).trans ((a2.mono (Nat.le_trans b1.size s12)).trans (d2.mono (by have := b1.size; omega)))
  cases ba with
  | false => go_wp2_with fail; go_ret; exact ⟨rfl, bw⟩
  | true =>
    cases bb with
    | false => go_wp2_with fail; go_ret; exact ⟨rfl, bw⟩
    | true =>
      by_cases hm : m ≤ 0
      · go_wp2_with fail; go_ret; exact ⟨rfl, bw⟩
      · by_cases hn : n ≤ m
        · go_wp2_with fail; go_ret; exact ⟨rfl, bw⟩
        · have HA := hra rfl (by omega)
          have HB := hrb rfl (by omega)
          clear hra hrb
          obtain ⟨ma, a0, ea0, ea1, k, hk, hmk, hAE⟩ := HA
          obtain ⟨mb, b0, _, _, k', hk', hnk, hBE⟩ := HB
          have p10 : (0 : Int) < 10 ^ k := by have := Nat.pow_pos (n := k) (show 0 < 10 by decide); exact_mod_cast this
          have p10' : (0 : Int) < 10 ^ k' := by have := Nat.pow_pos (n := k') (show 0 < 10 by decide); exact_mod_cast this
          have Apos : 0 < A := by
            rcases Int.lt_or_le 0 A with h | h
            · exact h
            · have := Int.mul_nonpos_of_nonpos_of_nonneg h (Int.le_of_lt p10); omega
          have Bpos : 0 < B := by
            rcases Int.lt_or_le 0 B with h | h
            · exact h
            · have := Int.mul_nonpos_of_nonpos_of_nonneg h (Int.le_of_lt p10'); omega
          obtain ⟨q, hq, hq2⟩ := HR.out
          have hGw := hG.below bw
          obtain ⟨R, hx, hz, hNa, hRl⟩ := bits_pos q hq A AE ma Apos _ hGw
          obtain ⟨R2, hy, _, hNb, hR2l⟩ := bits_pos q hq B BE mb Bpos _ hGw
          have lt1 : R < R2 := by
            have la := (may_lt ma a0).1
            have lb := (may_lt mb b0).1
            refine near_lt (Nat.pow_pos (by decide)) hNa hNb (gap15 la lb ?_)
            have e1 := num_of (q := q) hmk hAE (by omega)
            have e2 := num_of (q := q) hnk hBE (by omega)
            have : m.natAbs * 10 ^ (e + q).toNat < n.natAbs * 10 ^ (e + q).toNat := Nat.mul_lt_mul_of_pos_right (by omega) (Nat.pow_pos (by decide))
            rw [← e1, ← e2] at this
            exact this
          have HL : Hid (R < R2) := lt1
          have t1 : ¬ (R : Int) ≥ (R2 : Int) := by omega
          have t2 : IntKind.u64.wrap ((R : Int) + 9223372036854775808) = (R : Int) + 9223372036854775808 := by rw [IntKind.wrap_u64]; omega
          have t3 : IntKind.i64.wrap (-A) = -A := by have := (may_lt ma a0).1; rw [IntKind.wrap_i64]; omega
          have t4 : RowKit.wrap64 (-A) = -A := by have := (may_lt ma a0).1; unfold RowKit.wrap64; omega
          obtain ⟨z0, z1, z2⟩ := cel_at d2
          obtain ⟨y0, y1, y2⟩ := cel_at d3
          have HE : Hid (num q A.natAbs AE = m.natAbs * 10 ^ (e + q).toNat) := num_of (q := q) hmk hAE (by omega)
          have HMA : Hid (mayBe A AE 0 = true ∧ A.natAbs < 1000000000000000) := ⟨ma, (may_lt ma a0).1⟩
          have HE2 : Hid (-1000 ≤ e ∧ e ≤ 1000) := ⟨ea0, ea1⟩
          have HN : Hid (Near (num q A.natAbs AE) (10 ^ q) R) := hNa
          clear hmk hnk hAE hBE hNa hNb lt1 p10 p10' ma mb
          go_wp2_with fail
          refine (hx _ hGw).mono ?_
          rintro r w5 ⟨rfl, b5⟩
          have s45 : w4.heap.size < w5.heap.size := Nat.lt_of_lt_of_le (by simp) b5.size
          have d35 : Below (w3.heap.size + 1) (w3.alloc (cel B BE)) w5 := d3.trans (b5.mono (by simp; omega))
          have d25 : Below (w2.heap.size + 1) (w2.alloc (cel A AE)) w5 := d2.trans (b5.mono (by simp; omega))
          have d45 : Below (w4.heap.size + 1) (w4.alloc (cel C CE)) w5 := b5.mono (by simp)
          have hG5 := hGw.below b5
          clear y0 y1 y2 z0 z1 z2
          obtain ⟨y0, y1, y2⟩ := cel_at d35
          go_wp2_with fail
          refine (hy _ hG5).mono ?_
          rintro r w6 ⟨rfl, b6⟩
          have s56 := b6.size
          have d26 : Below (w2.heap.size + 1) (w2.alloc (cel A AE)) w6 := d25.trans (b6.mono (by omega))
          have d46 : Below (w4.heap.size + 1) (w4.alloc (cel C CE)) w6 := d45.trans (b6.mono (by omega))
          have hG6 := hG5.below b6
          clear y0 y1 y2
          obtain ⟨z0, z1, z2⟩ := cel_at d26
          go_wp2_with fail
          refine (hz _ hG6).mono ?_
          rintro r w7 ⟨rfl, b7⟩
          have s67 := b7.size
          have d47 : Below (w4.heap.size + 1) (w4.alloc (cel C CE)) w7 := d46.trans (b7.mono (by omega))
          have hG7 := hG6.below b7
          have bw7 : Below w.heap.size w w7 := bw.trans (d47.mono (by have := b1.size; omega))
          clear z0 z1 z2
          cases bc with
          | false => go_wp2_with fail; go_ret; exact ⟨rfl, bw7⟩
          | true =>
            obtain ⟨mc, c0, ec0, ec1, k3, hk3, hmk3, hCE⟩ := hrc rfl (by omega)
            have p3 : (0 : Int) < 10 ^ k3 := by have := Nat.pow_pos (n := k3) (show 0 < 10 by decide); exact_mod_cast this
            have Cpos : 0 < C := by
              rcases Int.lt_or_le 0 C with h | h
              · exact h
              · have := Int.mul_nonpos_of_nonpos_of_nonneg h (Int.le_of_lt p3); omega
            have hee : e' = e + 1 := by have h := he'.out; have h2 := HE2.out; rw [IntKind.wrap_i64] at h; omega
            obtain ⟨R3, hw, _, hNc, hR3l⟩ := bits_pos q hq C CE mc Cpos _ hG7
            have lt3 : R < R3 := by
              refine near_lt (Nat.pow_pos (by decide)) HN.out hNc ?_
              rw [HE.out, num_of (q := q) hmk3 hCE (by omega), hee, show 10 ^ (e + 1 + (q : Int)).toNat = 10 ^ (e + (q : Int)).toNat * 10 by rw [show (e + 1 + (q : Int)).toNat = (e + q).toNat + 1 by have := HE2.out; omega]; exact Nat.pow_succ _ _]
              exact ten_gap _ _
            have t5 : (R3 : Int) > (R : Int) := by omega
            clear hmk3 hCE hee hNc lt3 hrc p3
            obtain ⟨v0, v1, v2⟩ := cel_at d47
            go_wp2_with fail
            refine (hw _ hG7).mono ?_
            rintro r w8 ⟨rfl, b8⟩
            go_wp2_with fail
            go_ret
            exact ⟨rfl, bw7.trans (b8.mono bw7.size)⟩

set_option maxRecDepth 100000 in
theorem orders_lifted (os : Os) (started : os.Started) (H : Type) (enc : TypeId × Value → H) :
    ReturnsInHanded {} Tryz.checked os 7 .any (fun w args => (Rows.floatOrdersSpec.pre enc Tryz.prog Tryz.f7 [] false w args ∧ laidMetH Tryz.prog Rows.floatOrdersRow.laid w) ∧ sizedMet enc Tryz.prog Tryz.f7 (OpenSpec.ofChange Rows.floatOrdersSpec) false w args)
      (Rows.floatOrdersSpec.post enc Tryz.prog Tryz.f7 false true false false) := by
  refine returns_and_shaped (C := Tryz.checked) (X := fun w _ => laidMetH Tryz.prog Rows.floatOrdersRow.laid w) (fun _ _ _ hh h => h.of_heap hh) own started (by kernel_rfl) Tryz.func7
    (ChangeSpec.witness_shaped (enc := enc) (C := Tryz.checked) (os := os) (X := fun w _ => laidMetH Tryz.prog Rows.floatOrdersRow.laid w) false (World.laidAll Tryz.prog os Rows.floatOrdersRow.laid) #[.int .i64 0, .int .i64 0, .int .i64 0] 8 (World.laidAll_os _ _ _)
      (World.shaped_of_ZipB (by kernel_rfl) (by kernel_rfl)) (by kernel_rfl) (by kernel_rfl) (by kernel_rfl)
      (by rw [MakeChecks.laidMetH_plain _ _ _ (by kernel_rfl)]; exact laidMet_laidAll _ (by kernel_rfl) (by kernel_rfl))) ?_
  intro W base args ds gs before hval0 hW hL hsh
  have hval : ∀ (j : Nat) t v, Tryz.f7.params[j]? = some t → args[j]? = some v → Value.okWide Tryz.prog W .any base t v := hval0
  have hW' := hW
  obtain ⟨p, q, hA0, hV, rfl, _, _⟩ := hW
  have hA : DataW.TrodAll enc Tryz.prog W 0 (fun _ => true) true Tryz.f7.params.toList args.toList ds p := hA0
  rw [Tryz.params7] at hA hval
  obtain ⟨v0, vs0, d0, ds0, p0, q0, hargs, rfl, rfl, h0, r0⟩ := trodAll_cons hA
  obtain ⟨v1, vs1, d1, ds1, p1, q1, rfl, rfl, rfl, h1, r1⟩ := trodAll_cons r0
  obtain ⟨v2, vs2, d2, ds2, p2, q2, rfl, rfl, rfl, h2, r2⟩ := trodAll_cons r1
  obtain ⟨rfl, rfl, rfl⟩ := trodAll_nil r2
  obtain rfl : args = #[v0, v1, v2] := by cases args; simp_all
  obtain ⟨rfl, rfl⟩ := trodVars_none hV
  obtain ⟨a0, rfl, rfl, rfl, w0⟩ := open_int Tryz.underlying2 (hval 0 2 v0 rfl rfl) h0
  obtain ⟨a1, rfl, rfl, rfl, w1⟩ := open_int Tryz.underlying2 (hval 1 2 v1 rfl rfl) h1
  obtain ⟨a2, rfl, rfl, rfl, w2⟩ := open_int Tryz.underlying3 (hval 2 3 v2 rfl rfl) h2
  clear hA0 hval0
  simp only [List.append_nil] at hW'
  have hx : -9223372036854775808 ≤ a0 ∧ a0 ≤ 9223372036854775807 := by simpa [Lit.wf, IntKind.min, IntKind.max, IntKind.signed, IntKind.bits] using w0
  have hy : -9223372036854775808 ≤ a1 ∧ a1 ≤ 9223372036854775807 := by simpa [Lit.wf, IntKind.min, IntKind.max, IntKind.signed, IntKind.bits] using w1
  rw [MakeChecks.laidMetH_plain _ _ _ (by kernel_rfl)] at hL
  refine (orders_walk a0 a1 a2 hx.1 hx.2 hy.1 hy.2 W (ground_of hL hsh)).mono fun e W' ⟨he, hb⟩ => ?_
  subst he
  exact ⟨_, rfl, _, _, _, [], [], [], hW', trodAll_mk1 (shut_bool Tryz.underlying4 _), (trodAll_cons_mk (shut_int Tryz.underlying2 w0) (trodAll_cons_mk (shut_int Tryz.underlying2 w1) (trodAll_cons_mk (shut_int Tryz.underlying3 w2) trodAll_mk0))), rfl, hb.frame _, fun h => by cases h⟩

theorem orders_row : Rows.FloatOrdersSaid :=
  OpenClaim.holds_of_wide 7 Tryz.f7 rfl rfl rfl rfl rfl rfl rfl ⟨rfl, rfl, rfl, rfl, rfl⟩ rfl rfl rfl rfl rfl (by kernel_rfl) Tryz.func7 (by kernel_rfl)
    (of_decide_eq_true (by kernel_rfl)) (by unfold Func.isWrapper; first | (rw [if_pos (by decide +kernel)]; kernel_rfl) | (rw [if_neg (by decide +kernel)]; exact ⟨rfl, rfl⟩))
    (fun os started H enc _ => orders_lifted os started H enc)

theorem orders_holds : Rows.FloatOrdersCardSaid :=
  Claim7.holds_tied_plain_at .later [] [.data, .data, .widerDeep, .widerDeep, .data, .data, .data, .data, .data, .sentinel, .sentinel, .data, .pinned, .pinned] true (true, "26132ac47ec8d7c805453f0e3f311f04ffd9d8e6911dcdabace4c020d6c638bd") true orders_row (fun _ h => by cases h) (by kernel_rfl) (fun _ h => by cases h) floatOrders_row_tie rfl ⟨rfl, rfl⟩ (by kernel_rfl) rfl
    (fun f fn hf hfn => by
      obtain rfl : f = 7 := Option.some.inj ((show Tryz.prog.funcNamed Rows.floatOrdersRow.func = some 7 by kernel_rfl).symm.trans hf) |>.symm
      obtain rfl : fn = Tryz.f7 := (Option.some.inj (Tryz.func7.symm.trans hfn)).symm
      exact ⟨by kernel_rfl, fun j t ht => by
        rw [Tryz.params7] at ht
        have hm : t ∈ [2, 2, 3] := by simpa using Array.mem_of_getElem? ht
        have hall : ([2, 2, 3].all fun u => !Tryz.prog.wantsStandIn u) = true := by kernel_rfl
        exact (show Tryz.prog.wantsStandIn t = false by simpa using List.all_eq_true.1 hall t hm)⟩)
    (by kernel_rfl)
#print axioms orders_holds
end Go.Proofs.YtmeimofnmpmaoaaGreatDoor
