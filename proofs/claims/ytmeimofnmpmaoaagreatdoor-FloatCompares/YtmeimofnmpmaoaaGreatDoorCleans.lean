/- For every mantissa and every exponent Clean answers as the document does: FloatCleans returns true, and its arguments read as before. Conditions: the listed package variables start as the program's text lays them (the card ties them). -/
import Derived.Test.YtmeimofnmpmaoaaGreatDoorRows
import Derived.Test.YtmeimofnmpmaoaaGreatDoorCards
import Derived.Test.YtmeimofnmpmaoaaGreatDoorTie
import Derived.Test.YtmeimofnmpmaoaaGreatDoorK
import Derived.Test.YtmeimofnmpmaoaaGreatDoorGr
import Derived.WalkKit
import Derived.ProofKit
import Derived.OpenShut
import Derived.Lay
import Derived.LaidOnce
import Derived.SevenTiedAt
namespace Go.Proofs.YtmeimofnmpmaoaaGreatDoor
open Go.ChangeShapes Go.WideShapes Go.ChangeAt Go.RowKit Go.Lib Go.Shelf

theorem strip_ex : ∀ (n : Nat) (m : Int), m.natAbs ≤ n → m ≠ 0 → ∃ (a : Int) (k : Nat), m = a * 10 ^ k ∧ ¬ a.tmod 10 = 0
  | 0, m, h, h0 => by omega
  | n + 1, m, h, h0 => by
    by_cases hm : m.tmod 10 = 0
    · obtain ⟨q, hq⟩ := Int.dvd_of_tmod_eq_zero hm
      obtain ⟨a, k, ha, hk⟩ := strip_ex n q (by omega) (by omega)
      exact ⟨a, k + 1, by rw [hq, ha, Int.pow_succ, Int.mul_comm 10, Int.mul_assoc], hk⟩
    · exact ⟨m, 0, by simp, hm⟩

theorem strip_le {m a : Int} {k : Nat} (hm : m = a * 10 ^ k) (ha : ¬ a.tmod 10 = 0) (m0 : -9223372036854775808 ≤ m) (m1 : m ≤ 9223372036854775807) : k ≤ 18 := by
  rcases Nat.lt_or_ge 18 k with h | h
  · exfalso
    have a0 : ¬ a = 0 := fun h => ha (by rw [h]; rfl)
    have e : m.natAbs = a.natAbs * 10 ^ k := by rw [hm, Int.natAbs_mul, Int.natAbs_pow]; rfl
    have p : 10 ^ 19 ≤ 10 ^ k := Nat.pow_le_pow_right (by decide) h
    have : 1 * 10 ^ 19 ≤ a.natAbs * 10 ^ k := Nat.mul_le_mul (by omega) p
    omega
  · exact h

set_option maxRecDepth 20000 in
theorem cleans_walk (m e : Int) (m0 : -9223372036854775808 ≤ m) (m1 : m ≤ 9223372036854775807) (w : World) (hG : Ground w) :
    Calls Tryz.prog 5 #[.int .i64 m, .int .i64 e] w fun r w' => r = .returned (.bool true) ∧ Below w.heap.size w w' := by
  obtain ⟨M, E, b, h1, h2⟩ : ∃ (M E : Int) (b : Bool), (∀ w, Calls Tryz.prog 15 #[.int .i64 m, .int .i64 e] w fun r w' => r = .returned (.tuple #[val M E 0, .bool b]) ∧ Below w.heap.size w w') ∧ (∀ w, Calls Tryz.prog 16 #[.int .i64 m, .int .i64 e] w fun r w' => r = .returned (.tuple #[val M E 0, .bool b]) ∧ Below w.heap.size w w') := by
    by_cases he : e < -1000 ∨ 1000 < e
    · exact ⟨0, 0, false, fun w => clean_far m e he w, fun w => refclean_far m e he w⟩
    · by_cases hm : m = 0
      · subst hm
        exact ⟨0, 0, true, fun w => clean_zero e (by omega) (by omega) w, fun w => refclean_zero e (by omega) (by omega) w⟩
      · obtain ⟨a, k, hk, ha⟩ := strip_ex _ m (Nat.le_refl _) hm
        have hk18 := strip_le hk ha m0 m1
        cases hb : mayBe a (e + k) 0 with
        | true => exact ⟨a, e + k, true, fun w => clean_any m e a k true hk ha m0 m1 hk18 (by omega) (by omega) hb.symm w, fun w => refclean_any m e a k true hk ha m0 m1 hk18 (by omega) (by omega) hb.symm w⟩
        | false => exact ⟨0, 0, false, fun w => clean_any m e a k false hk ha m0 m1 hk18 (by omega) (by omega) hb.symm w, fun w => refclean_any m e a k false hk ha m0 m1 hk18 (by omega) (by omega) hb.symm w⟩
  go_enter Tryz.func5, Tryz.ntmps5
  go_wp2_with fail
  refine (awake_any _ hG).mono ?_
  rintro r w1 ⟨rfl, b1⟩
  go_wp2_with fail
  refine (h1 _).mono ?_
  rintro r w2 ⟨rfl, b2⟩
  have a2 : Below w2.heap.size w2 (w2.alloc (.cells #[.int .i64 M, .int .i64 E, .int .i64 0] 23)) := (Below.refl _ _).alloc (Nat.le_refl _) _
  go_wp2_with fail
  refine (h2 _).mono ?_
  rintro r w3 ⟨rfl, b3⟩
  have s3 : w2.heap.size < w3.heap.size := Nat.lt_of_lt_of_le (by simp) b3.size
  have c3 : Below (w2.heap.size + 1) (w2.alloc (.cells #[.int .i64 M, .int .i64 E, .int .i64 0] 23)) w3 := b3.mono (by simp)
  have x0 : w3.cell? ⟨w2.heap.size, 0, none⟩ = some (.int .i64 M) := by rw [c3.cell (by simp)]; simp
  have x1 : w3.cell? ⟨w2.heap.size, 1, none⟩ = some (.int .i64 E) := by rw [c3.cell (by simp)]; simp
  have x2 : w3.cell? ⟨w2.heap.size, 2, none⟩ = some (.int .i64 0) := by rw [c3.cell (by simp)]; simp
  have bw : Below w.heap.size w w3 := (b1.trans (b2.mono b1.size)).trans ((a2.mono (Nat.le_trans b1.size b2.size)).trans (c3.mono (by have := b1.size; have := b2.size; omega)))
  go_wp2_with fail
  go_ret
  exact ⟨rfl, bw.alloc bw.size _⟩

theorem own : ownKnob Tryz.prog.godebug = none := by kernel_rfl
set_option maxRecDepth 100000 in
theorem cleans_lifted (os : Os) (started : os.Started) (H : Type) (enc : TypeId × Value → H) :
    ReturnsInHanded {} Tryz.checked os 5 .any (fun w args => (Rows.floatCleansSpec.pre enc Tryz.prog Tryz.f5 [] false w args ∧ laidMetH Tryz.prog Rows.floatCleansRow.laid w) ∧ sizedMet enc Tryz.prog Tryz.f5 (OpenSpec.ofChange Rows.floatCleansSpec) false w args)
      (Rows.floatCleansSpec.post enc Tryz.prog Tryz.f5 false true false false) := by
  refine returns_and_shaped (C := Tryz.checked) (X := fun w _ => laidMetH Tryz.prog Rows.floatCleansRow.laid w) (fun _ _ _ hh h => h.of_heap hh) own started (by kernel_rfl) Tryz.func5
    (ChangeSpec.witness_shaped (enc := enc) (C := Tryz.checked) (os := os) (X := fun w _ => laidMetH Tryz.prog Rows.floatCleansRow.laid w) false (World.laidAll Tryz.prog os Rows.floatCleansRow.laid) #[.int .i64 0, .int .i64 0] 8 (World.laidAll_os _ _ _)
      (World.shaped_of_ZipB (by kernel_rfl) (by kernel_rfl)) (by kernel_rfl) (by kernel_rfl) (by kernel_rfl)
      (by rw [MakeChecks.laidMetH_plain _ _ _ (by kernel_rfl)]; exact laidMet_laidAll _ (by kernel_rfl) (by kernel_rfl))) ?_
  intro W base args ds gs before hval0 hW hL hsh
  have hval : ∀ (j : Nat) t v, Tryz.f5.params[j]? = some t → args[j]? = some v → Value.okWide Tryz.prog W .any base t v := hval0
  have hW' := hW
  obtain ⟨p, q, hA0, hV, rfl, _, _⟩ := hW
  have hA : DataW.TrodAll enc Tryz.prog W 0 (fun _ => true) true Tryz.f5.params.toList args.toList ds p := hA0
  rw [Tryz.params5] at hA hval
  obtain ⟨v0, vs0, d0, ds0, p0, q0, hargs, rfl, rfl, h0, r0⟩ := trodAll_cons hA
  obtain ⟨v1, vs1, d1, ds1, p1, q1, rfl, rfl, rfl, h1, r1⟩ := trodAll_cons r0
  obtain ⟨rfl, rfl, rfl⟩ := trodAll_nil r1
  obtain rfl : args = #[v0, v1] := by cases args; simp_all
  obtain ⟨rfl, rfl⟩ := trodVars_none hV
  obtain ⟨a0, rfl, rfl, rfl, w0⟩ := open_int Tryz.underlying2 (hval 0 2 v0 rfl rfl) h0
  obtain ⟨a1, rfl, rfl, rfl, w1⟩ := open_int Tryz.underlying3 (hval 1 3 v1 rfl rfl) h1
  clear hA0 hval0
  simp only [List.append_nil] at hW'
  have hx : -9223372036854775808 ≤ a0 ∧ a0 ≤ 9223372036854775807 := by simpa [Lit.wf, IntKind.min, IntKind.max, IntKind.signed, IntKind.bits] using w0
  rw [MakeChecks.laidMetH_plain _ _ _ (by kernel_rfl)] at hL
  refine (cleans_walk a0 a1 hx.1 hx.2 W (ground_of hL hsh)).mono fun e W' ⟨he, hb⟩ => ?_
  subst he
  exact ⟨_, rfl, _, _, _, [], [], [], hW', trodAll_mk1 (shut_bool Tryz.underlying4 _), (trodAll_cons_mk (shut_int Tryz.underlying2 w0) (trodAll_cons_mk (shut_int Tryz.underlying3 w1) trodAll_mk0)), rfl, hb.frame _, fun h => by cases h⟩

theorem cleans_row : Rows.FloatCleansSaid :=
  OpenClaim.holds_of_wide 5 Tryz.f5 rfl rfl rfl rfl rfl rfl rfl ⟨rfl, rfl, rfl, rfl, rfl⟩ rfl rfl rfl rfl rfl (by kernel_rfl) Tryz.func5 (by kernel_rfl)
    (of_decide_eq_true (by kernel_rfl)) (by unfold Func.isWrapper; first | (rw [if_pos (by decide +kernel)]; kernel_rfl) | (rw [if_neg (by decide +kernel)]; exact ⟨rfl, rfl⟩))
    (fun os started H enc _ => cleans_lifted os started H enc)

theorem cleans_holds : Rows.FloatCleansCardSaid :=
  Claim7.holds_tied_plain_at .later [] [.data, .data, .widerDeep, .widerDeep, .data, .data, .data, .data, .data, .sentinel, .sentinel, .data, .pinned, .pinned] true (true, "26132ac47ec8d7c805453f0e3f311f04ffd9d8e6911dcdabace4c020d6c638bd") true cleans_row (fun _ h => by cases h) (by kernel_rfl) (fun _ h => by cases h) floatCleans_row_tie rfl ⟨rfl, rfl⟩ (by kernel_rfl) rfl
    (fun f fn hf hfn => by
      obtain rfl : f = 5 := Option.some.inj ((show Tryz.prog.funcNamed Rows.floatCleansRow.func = some 5 by kernel_rfl).symm.trans hf) |>.symm
      obtain rfl : fn = Tryz.f5 := (Option.some.inj (Tryz.func5.symm.trans hfn)).symm
      exact ⟨by kernel_rfl, fun j t ht => by
        rw [Tryz.params5] at ht
        have hm : t ∈ [2, 3] := by simpa using Array.mem_of_getElem? ht
        have hall : ([2, 3].all fun u => !Tryz.prog.wantsStandIn u) = true := by kernel_rfl
        exact (show Tryz.prog.wantsStandIn t = false by simpa using List.all_eq_true.1 hall t hm)⟩)
    (by kernel_rfl)
#print axioms cleans_holds
end Go.Proofs.YtmeimofnmpmaoaaGreatDoor
