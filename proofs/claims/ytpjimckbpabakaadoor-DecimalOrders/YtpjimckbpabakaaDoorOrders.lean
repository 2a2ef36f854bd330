/- For every two mantissas and every exponent, the mantissas that are packed are those of the numbers: DecimalOrders returns true, and its arguments read as before. Conditions: the listed package variable starts as the program's text lays it (the card ties it). -/
import Derived.Test.YtpjimckbpabakaaDoorRows
import Derived.Test.YtpjimckbpabakaaDoorCards
import Derived.Test.YtpjimckbpabakaaDoorTie
import Derived.Test.YtpjimckbpabakaaDoorK
namespace Go.Proofs.YtpjimckbpabakaaDoor
open Go.ChangeShapes Go.WideShapes Go.ChangeAt Go.RowKit Go.Lib

def l3 (a b e : Int) : List Vl := [⟨a, e, 0⟩, ⟨b, e, 0⟩, ⟨0, 0, 1⟩]
theorem ord_st {a b e : Int} (hx : may ⟨a, e, 0⟩ = true) (hy : may ⟨b, e, 0⟩ = true) : (st (l3 a b e)).1 = (if a = 0 ∧ b = 0 then 0 else e) ∧ (st (l3 a b e)).2 - (st (l3 a b e)).1 ≤ 18 := by
  by_cases ha : a = 0
  · have he := (may_zero hx ha).1
    simp only at he
    subst ha; subst he
    by_cases hb : b = 0
    · subst hb
      simp [l3, st, stp]
    · have h1 := (may_num hy hb).2.1
      have := dg_15 h1
      simp only at this
      simp [l3, st, stp, hb]
      omega
  · have h1 := dg_15 (may_num hx ha).2.1
    have h2 := dg_pos ha
    simp only at h1
    by_cases hb : b = 0
    · subst hb
      simp [l3, st, stp, ha]
      omega
    · have h3 := dg_15 (may_num hy hb).2.1
      simp only at h3
      have h4 : e < e + (dgi a : Int) := by omega
      simp [l3, st, stp, ha, hb, h4]
      omega
theorem ord_long {a b e : Int} (hx : may ⟨a, e, 0⟩ = true) (hy : may ⟨b, e, 0⟩ = true) : Longest (l3 a b e) 3 := by
  refine longest_of (by simp [l3]) ⟨fun v hv => ?_, (ord_st hx hy).2⟩ (.inl rfl)
  simp [l3] at hv
  rcases hv with rfl | rfl | rfl
  · exact hx
  · exact hy
  · rfl
theorem ord_mant {a b e f : Int} (hx : may ⟨a, e, 0⟩ = true) (hf : f = if a = 0 ∧ b = 0 then 0 else e) : mant ⟨a, e, 0⟩ f = a := by
  by_cases ha : a = 0
  · subst ha; simp [mant]
  · rw [if_neg (fun h => ha h.1)] at hf
    subst hf
    simp [mant, ha]
theorem ord_mant2 {a b e f : Int} (hx : may ⟨b, e, 0⟩ = true) (hf : f = if a = 0 ∧ b = 0 then 0 else e) : mant ⟨b, e, 0⟩ f = b := by
  by_cases hb : b = 0
  · subst hb; simp [mant]
  · rw [if_neg (fun h => hb h.2)] at hf
    subst hf
    simp [mant, hb]

set_option maxHeartbeats 3200000 in
theorem decimalOrders_walk (a : Int) (_ : -9223372036854775808 ≤ a ∧ a ≤ 9223372036854775807) (b : Int) (_ : -9223372036854775808 ≤ b ∧ b ≤ 9223372036854775807) (e : Int) (_ : -9223372036854775808 ≤ e ∧ e ≤ 9223372036854775807) (w : World) (hP : Pw w) :
    Calls Tryd.prog 8 #[.int .i64 a, .int .i64 b, .int .i64 e] w fun r w' => r = .returned (.bool true) ∧ Below w.heap.size w w' := by
  obtain ⟨bx, hbx⟩ : ∃ x, Hid (x = mayBe a e 0) := ⟨_, rfl⟩
  obtain ⟨by', hby⟩ : ∃ x, Hid (x = mayBe b e 0) := ⟨_, rfl⟩
  go_enter Tryd.func8, Tryd.ntmps8
  go_wp2_with fail
  refine (awake_any _ hP).mono ?_
  rintro r w1 ⟨rfl, b1⟩
  have hs1 := b1.size
  go_wp2_with fail
  refine (refright_any a e 0 bx hbx _).mono ?_
  rintro r w' ⟨rfl, hw'⟩; rw [hw']; clear hw' w'
  cases bx with
  | false =>
    go_wp2_with fail
    go_ret
    exact ⟨rfl, ((b1.alloc hs1 _).alloc (by simp; omega) _).alloc (by simp; omega) _⟩
  | true =>
    go_wp2_with fail
    refine (refright_any b e 0 by' hby _).mono ?_
    rintro r w' ⟨rfl, hw'⟩; rw [hw']; clear hw' w'
    cases by' with
    | false =>
      go_wp2_with fail
      go_ret
      exact ⟨rfl, (((b1.alloc hs1 _).alloc (by simp; omega) _).alloc (by simp; omega) _).alloc (by simp; omega) _⟩
    | true =>
      have hx : Hid (may ⟨a, e, 0⟩ = true) := hbx.out.symm
      have hy : Hid (may ⟨b, e, 0⟩ = true) := hby.out.symm
      have B2 : Below w.heap.size w ((((w1.alloc (.cells #[.int .i64 a, .int .i64 e, .int .i64 0] 36)).alloc (.cells #[.int .i64 b, .int .i64 e, .int .i64 0] 36)).alloc (.cells #[.int .i64 a, .int .i64 e, .int .i64 0] 36)).alloc (.cells #[.int .i64 b, .int .i64 e, .int .i64 0] 36)) :=
        (((b1.alloc hs1 _).alloc (by simp; omega) _).alloc (by simp; omega) _).alloc (by simp; omega) _
      have v3 := isV_lit ((((w1.alloc (.cells #[.int .i64 a, .int .i64 e, .int .i64 0] 36)).alloc (.cells #[.int .i64 b, .int .i64 e, .int .i64 0] 36)).alloc (.cells #[.int .i64 a, .int .i64 e, .int .i64 0] 36)).alloc (.cells #[.int .i64 b, .int .i64 e, .int .i64 0] 36)) (l3 a b e) #[.int .i64 a, .int .i64 e, .int .i64 0, .int .i64 b, .int .i64 e, .int .i64 0, .int .i64 0, .int .i64 0, .int .i64 1] 3 rfl (by decide) (fun i hi => by
        match i, hi with
        | 0, _ => exact ⟨rfl, rfl, rfl⟩
        | 1, _ => exact ⟨rfl, rfl, rfl⟩
        | 2, _ => exact ⟨rfl, rfl, rfl⟩)
      simp only [World.size_alloc] at v3
      have B3 := B2.alloc (o := .cells #[.int .i64 a, .int .i64 e, .int .i64 0, .int .i64 b, .int .i64 e, .int .i64 0, .int .i64 0, .int .i64 0, .int .i64 1] 36) (by simp; omega)
      have HB : Hid _ := And.intro B3 (And.intro v3 (hP.below B3))
      clear B2 B3 v3
      go_wp2_with fail
      refine (pack_any _ 3 3 (l3 a b e) _ HB.out.2.1 (by decide) HB.out.2.2).mono ?_
      rintro r w3 ⟨n, g, L, rfl, hg, row, b3⟩
      obtain rfl := L.uniq (ord_long hx.out hy.out)
      have hst : (st ((l3 a b e).take 3)).1 = (if a = 0 ∧ b = 0 then 0 else e) := (ord_st hx.out hy.out).1
      rw [hst] at row ⊢
      have B4 : Hid (Below w.heap.size w w3) := HB.out.1.trans (b3.mono HB.out.1.size)
      have c0 := row.cell (i := 0) (by decide)
      have c1 := row.cell (i := 1) (by decide)
      have c2 := row.cell (i := 2) (by decide)
      have e0 : mant ((l3 a b e).getD 0 v0) (if a = 0 ∧ b = 0 then 0 else e) = a := ord_mant (b := b) hx.out rfl
      have e1 : mant ((l3 a b e).getD 1 v0) (if a = 0 ∧ b = 0 then 0 else e) = b := ord_mant2 (a := a) hy.out rfl
      have e2 : mant ((l3 a b e).getD 2 v0) (if a = 0 ∧ b = 0 then 0 else e) = -9223372036854775807 := by simp [l3, mant]
      simp only [e0] at c0
      simp only [e1] at c1
      simp only [e2] at c2
      clear e0 e1 e2 row hst L HB
      have hg3 : g < w3.heap.size := World.block_lt_of_cell? w3 _ c0
      by_cases ha : a = 0
      · by_cases hb : b = 0
        · rw [if_pos ⟨ha, hb⟩]
          subst ha; subst hb
          go_wp2_with fail
          go_ret
          exact ⟨rfl, B4.out⟩
        · rw [if_neg (fun h => hb h.2)]
          subst ha
          go_wp2_with fail
          go_ret
          exact ⟨rfl, B4.out⟩
      · rw [if_neg (fun h => ha h.1)]
        go_wp2_with fail
        go_ret
        exact ⟨rfl, B4.out⟩

set_option maxRecDepth 100000 in
theorem decimalOrders_lifted (os : Os) (started : os.Started) (H : Type) (enc : TypeId × Value → H) :
    ReturnsInHanded {} Tryd.checked os 8 .any (fun w args => (Rows.decimalOrdersSpec.pre enc Tryd.prog Tryd.f8 [] false w args ∧ laidMetH Tryd.prog Rows.decimalOrdersRow.laid w) ∧ sizedMet enc Tryd.prog Tryd.f8 (OpenSpec.ofChange Rows.decimalOrdersSpec) false w args)
      (Rows.decimalOrdersSpec.post enc Tryd.prog Tryd.f8 false true false false) := by
  refine returns_and_shaped (C := Tryd.checked) (X := fun w _ => laidMetH Tryd.prog Rows.decimalOrdersRow.laid w) (fun _ _ _ hh h => h.of_heap hh) own started (by kernel_rfl) Tryd.func8
    (ChangeSpec.witness_shaped (enc := enc) (C := Tryd.checked) (os := os) (X := fun w _ => laidMetH Tryd.prog Rows.decimalOrdersRow.laid w) false (World.laidAll Tryd.prog os Rows.decimalOrdersRow.laid) #[.int .i64 0, .int .i64 0, .int .i64 0] 8 (World.laidAll_os _ _ _)
      (World.shaped_of_ZipB (by kernel_rfl) (by kernel_rfl)) (by kernel_rfl) (by kernel_rfl) (by kernel_rfl)
      (by rw [MakeChecks.laidMetH_plain _ _ _ (by kernel_rfl)]; exact laidMet_laidAll _ (by kernel_rfl) (by kernel_rfl))) ?_
  intro W base args ds gs before hval0 hW hL hsh
  have hval : ∀ (j : Nat) t v, Tryd.f8.params[j]? = some t → args[j]? = some v → Value.okWide Tryd.prog W .any base t v := hval0
  have hW' := hW
  obtain ⟨p, q, hA0, hV, rfl, _, _⟩ := hW
  have hA : DataW.TrodAll enc Tryd.prog W 0 (fun _ => true) true Tryd.f8.params.toList args.toList ds p := hA0
  rw [Tryd.params8] at hA hval
  obtain ⟨v0, vs0, d0, ds0, p0, q0, hargs, rfl, rfl, h0, r0⟩ := trodAll_cons hA
  obtain ⟨v1, vs1, d1, ds1, p1, q1, rfl, rfl, rfl, h1, r1⟩ := trodAll_cons r0
  obtain ⟨v2, vs2, d2, ds2, p2, q2, rfl, rfl, rfl, h2, r2⟩ := trodAll_cons r1
  obtain ⟨rfl, rfl, rfl⟩ := trodAll_nil r2
  obtain rfl : args = #[v0, v1, v2] := by cases args; simp_all
  obtain ⟨rfl, rfl⟩ := trodVars_none hV
  obtain ⟨a0, rfl, rfl, rfl, w0⟩ := open_int Tryd.underlying2 (hval 0 2 v0 rfl rfl) h0
  have hx0 : -9223372036854775808 ≤ a0 ∧ a0 ≤ 9223372036854775807 := by simpa [Lit.wf, IntKind.min, IntKind.max, IntKind.signed, IntKind.bits] using w0
  obtain ⟨a1, rfl, rfl, rfl, w1⟩ := open_int Tryd.underlying2 (hval 1 2 v1 rfl rfl) h1
  have hx1 : -9223372036854775808 ≤ a1 ∧ a1 ≤ 9223372036854775807 := by simpa [Lit.wf, IntKind.min, IntKind.max, IntKind.signed, IntKind.bits] using w1
  obtain ⟨a2, rfl, rfl, rfl, w2⟩ := open_int Tryd.underlying3 (hval 2 3 v2 rfl rfl) h2
  have hx2 : -9223372036854775808 ≤ a2 ∧ a2 ≤ 9223372036854775807 := by simpa [Lit.wf, IntKind.min, IntKind.max, IntKind.signed, IntKind.bits] using w2
  clear hA0 hval0
  simp only [List.append_nil] at hW'
  rw [MakeChecks.laidMetH_plain _ _ _ (by kernel_rfl)] at hL
  refine (decimalOrders_walk a0 hx0 a1 hx1 a2 hx2 W (pw_of (laidMet.reads hL (by simp [Rows.decimalOrdersRow])))).mono fun e W' ⟨he, hb⟩ => ?_
  subst he
  exact ⟨_, rfl, _, _, _, [], [], [], hW', trodAll_mk1 (shut_bool Tryd.underlying4 _), (trodAll_cons_mk (shut_int Tryd.underlying2 w0) (trodAll_cons_mk (shut_int Tryd.underlying2 w1) (trodAll_cons_mk (shut_int Tryd.underlying3 w2) trodAll_mk0))), rfl, hb.frame _, fun h => by cases h⟩

theorem decimalOrders_row : Rows.DecimalOrdersSaid :=
  OpenClaim.holds_of_wide 8 Tryd.f8 rfl rfl rfl rfl rfl rfl rfl ⟨rfl, rfl, rfl, rfl, rfl⟩ rfl rfl rfl rfl rfl (by kernel_rfl) Tryd.func8 (by kernel_rfl)
    (of_decide_eq_true (by kernel_rfl)) (by unfold Func.isWrapper; first | (rw [if_pos (by decide +kernel)]; kernel_rfl) | (rw [if_neg (by decide +kernel)]; exact ⟨rfl, rfl⟩))
    (fun os started H enc _ => decimalOrders_lifted os started H enc)

theorem decimalOrders_holds : Rows.DecimalOrdersCardSaid :=
  Claim7.holds_tied_plain_at .later [] [.data] true (true, "fb586888b63048c59fe16ba3a6b41687cfa8807de2ef88983382edfacc4fb51c") false decimalOrders_row (fun _ h => by cases h) (by kernel_rfl) (fun _ h => by cases h) decimalOrders_row_tie rfl ⟨rfl, rfl⟩ (by kernel_rfl) rfl
    (fun f fn hf hfn => by
      obtain rfl : f = 8 := Option.some.inj ((show Tryd.prog.funcNamed Rows.decimalOrdersRow.func = some 8 by kernel_rfl).symm.trans hf) |>.symm
      obtain rfl : fn = Tryd.f8 := (Option.some.inj (Tryd.func8.symm.trans hfn)).symm
      exact ⟨by kernel_rfl, fun j t ht => by
        rw [Tryd.params8] at ht
        have hm : t ∈ [2, 2, 3] := by simpa using Array.mem_of_getElem? ht
        have hall : ([2, 2, 3].all fun u => !Tryd.prog.wantsStandIn u) = true := by kernel_rfl
        exact (show Tryd.prog.wantsStandIn t = false by simpa using List.all_eq_true.1 hall t hm)⟩)
    (by kernel_rfl)
#print axioms decimalOrders_holds
end Go.Proofs.YtpjimckbpabakaaDoor

