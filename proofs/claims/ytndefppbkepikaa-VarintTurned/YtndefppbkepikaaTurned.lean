/- The statement VarintTurned holds: turning goes back and forth; the less far from 0, the less a number is turned; the sign is the lowest bit. No conditions: every int64, every uint64. -/
import Derived.Test.YtndefppbkepikaaG
import Derived.OpenShut
import Derived.ShutString
import Derived.ChangeOld
namespace Go.Proofs.Ytndefppbkepikaa
namespace varintTurned
open Go.ChangeShapes Go.WideShapes Go.ChangeAt Go.RowKit
set_option linter.unusedVariables false

theorem ret_bool {a b : Bool} (h : a = b) : Ending.returned (.bool a) = .returned (.bool b) := by rw [h]

set_option maxHeartbeats 1600000 in
theorem core (n u z m : Int) (b : Int) (w : World) (z0 : 0 ≤ z) (z1 : z ≤ 18446744073709551615) (u0 : 0 ≤ u) (u1 : u ≤ 18446744073709551615)
    (H1 : Hid (∀ w, Calls Try.prog 11 #[.int .i64 n] w fun e w' => e = .returned (.int .u64 z) ∧ w' = w))
    (H2 : Hid (∀ w, Calls Try.prog 13 #[.int .u64 z] w fun e w' => e = .returned (.int .i64 n) ∧ w' = w))
    (H3 : Hid (∀ w, Calls Try.prog 13 #[.int .u64 u] w fun e w' => e = .returned (.int .i64 m) ∧ w' = w))
    (H4 : Hid (∀ w, Calls Try.prog 11 #[.int .i64 m] w fun e w' => e = .returned (.int .u64 u) ∧ w' = w))
    (hand : bits BinOp.and IntKind.u64 z 1 = b)
    (hc : (0 ≤ n ∧ b = 0 ∧ 0 ≤ m ∧ n < m ∧ z < u) ∨ (0 ≤ n ∧ b = 0 ∧ 0 ≤ m ∧ ¬ n < m) ∨ (0 ≤ n ∧ b = 0 ∧ ¬ 0 ≤ m) ∨ (¬ 0 ≤ n ∧ b = 1 ∧ ¬ 0 ≤ m ∧ m < n ∧ z < u) ∨ (¬ 0 ≤ n ∧ b = 1 ∧ ¬ 0 ≤ m ∧ ¬ m < n) ∨ (¬ 0 ≤ n ∧ b = 1 ∧ 0 ≤ m)) :
    Calls Try.prog 5 #[.int .i64 n, .int .u64 u] w fun e w' => e = .returned (.bool true) ∧ Below w.heap.size w w' := by
  rcases hc with ⟨c1, rfl, c2, c3, c4⟩ | ⟨c1, rfl, c2, c3⟩ | ⟨c1, rfl, c2⟩ | ⟨c1, rfl, c2, c3, c4⟩ | ⟨c1, rfl, c2, c3⟩ | ⟨c1, rfl, c2⟩
  all_goals
    have c5 : (n < 0 ∧ ¬ 0 ≤ n) ∨ (¬ n < 0 ∧ 0 ≤ n) := by omega
    have c6 : (m < 0 ∧ ¬ 0 ≤ m) ∨ (¬ m < 0 ∧ 0 ≤ m) := by omega
    rcases c5 with ⟨c5, c5'⟩ | ⟨c5, c5'⟩ <;> rcases c6 with ⟨c6, c6'⟩ | ⟨c6, c6'⟩ <;> try (exfalso; omega)
  all_goals
    clear c5' c6'
    go_enter Try.func5, Try.ntmps5
    go_wp2_with fail
    refine (awake_any _).mono ?_
    rintro e w1 ⟨rfl, hb1⟩
    go_wp2_with fail
    refine (H1.out _).mono ?_
    rintro e w2 ⟨rfl, rfl⟩
    go_wp2_with fail
    refine (H2.out _).mono ?_
    rintro e w3 ⟨rfl, rfl⟩
    go_wp2_with fail
    refine (H3.out _).mono ?_
    rintro e w4 ⟨rfl, rfl⟩
    go_wp2_with fail
    refine (H4.out _).mono ?_
    rintro e w5 ⟨rfl, rfl⟩
    go_wp2_with fail
    refine (H3.out _).mono ?_
    rintro e w6 ⟨rfl, rfl⟩
    go_wp2
    go_ret
    first | exact ⟨rfl, hb1⟩ | exact ⟨ret_bool (by simp; omega), hb1⟩

theorem own : ownKnob Try.prog.godebug = none := by kernel_rfl

theorem walk (a0 : Int) (a1 : Int) (w0 : (Lit.int .i64 a0).wf = true) (w1 : (Lit.int .u64 a1).wf = true) (w : World) :
    Calls Try.prog 5 #[.int .i64 a0, .int .u64 a1] w fun e w' => e = .returned (.bool true) ∧ Below w.heap.size w w' := by
  have hn := bounds_i64 w0
  have hu := bounds_u64 w1
  obtain ⟨n0, n1⟩ := hn
  obtain ⟨u0, u1⟩ := hu
  obtain ⟨z0, z1⟩ := zz_bd n0 n1
  obtain ⟨m0, m1⟩ := zg_bd u0 u1
  refine core a0 a1 (zz a0) (zg a1) (zz a0 % 2) w z0 z1 u0 u1 (fun w => zig_any a0 n0 n1 w) ?_ (fun w => zag_any a1 u0 u1 w) ?_ ?_ ?_
  · intro w
    have := zag_any (zz a0) z0 z1 w
    rwa [zg_zz] at this
  · intro w
    have := zig_any (zg a1) m0 m1 w
    rwa [zz_zg u0] at this
  · exact Lib.u64_and1 _ z0 (by omega)
  · unfold zz zg
    split <;> split <;> omega

set_option maxRecDepth 100000 in
theorem lifted (os : Os) (started : os.Started) (H : Type) (enc : TypeId × Value → H) :
    ReturnsInHanded {} Try.checked os 5 .any (Rows.varintTurnedSpec.pre6 enc Try.prog Try.f5 Rows.varintTurnedRow.domain false) (Rows.varintTurnedSpec.post enc Try.prog Try.f5 false true false false) := by
  refine returnsInHanded_of_change (C := Try.checked) own started (by kernel_rfl) Try.func5
    (ChangeSpec.witness6 (enc := enc) (C := Try.checked) false ⟨#[], #[.int .i64 0, .int .u64 0], []⟩ 8 (by kernel_rfl) (by kernel_rfl) (by kernel_rfl) (by kernel_rfl)) ?_
  intro W base args ds gs before hval0 hW hcnd _
  have hval : ∀ (j : Nat) t v, Try.f5.params[j]? = some t → args[j]? = some v → Value.okWide Try.prog W .any base t v := hval0
  have hW' := hW
  obtain ⟨p, q, hA0, hV, rfl, hfz, hnd⟩ := hW
  have hA : DataW.TrodAll enc Try.prog W 0 (fun _ => true) true Try.f5.params.toList args.toList ds p := hA0
  rw [Try.params5] at hA hval
  obtain ⟨v0, vs0, d0, ds0, p0, q0, hargs, rfl, rfl, h0, r0⟩ := trodAll_cons hA
  obtain ⟨v1, vs1, d1, ds1, p1, q1, rfl, rfl, rfl, h1, r1⟩ := trodAll_cons r0
  obtain ⟨rfl, rfl, rfl⟩ := trodAll_nil r1
  obtain rfl : args = #[v0, v1] := by cases args; simp_all
  obtain ⟨rfl, rfl⟩ := trodVars_none hV
  obtain ⟨a0, rfl, rfl, rfl, w0⟩ := open_int Try.underlying2 (hval 0 2 v0 rfl rfl) h0
  obtain ⟨a1, rfl, rfl, rfl, w1⟩ := open_int Try.underlying22 (hval 1 22 v1 rfl rfl) h1
  clear hA0 hval0
  simp only [List.append_nil] at hW'
  refine (walk a0 a1 w0 w1 W).mono fun e W' ⟨he, bel⟩ => ?_
  subst he
  exact ⟨_, rfl, _, _, _, [], _, [], hW', trodAll_mk1 (shut_bool Try.underlying4 _), (trodAll_cons_mk (shut_int Try.underlying2 w0) (trodAll_cons_mk (shut_int Try.underlying22 w1) trodAll_mk0)), rfl, bel.frame _, fun h => by cases h⟩

theorem over : Rows.varintTurnedRow.holds Try.pinned (OpenSpec.ofChange Rows.varintTurnedSpec) :=
  OpenClaim.holds_of_wide 5 Try.f5 rfl rfl rfl rfl rfl rfl rfl ⟨rfl, rfl, rfl, rfl, rfl⟩ rfl rfl rfl rfl rfl (by kernel_rfl) Try.func5 (by kernel_rfl)
    (of_decide_eq_true (by kernel_rfl)) (by unfold Func.isWrapper; first | (rw [if_pos (by decide +kernel)]; kernel_rfl) | (rw [if_neg (by decide +kernel)]; exact ⟨rfl, rfl⟩))
    (fun os started H enc _ => lifted os started H enc)

end varintTurned
theorem turned_holds : Rows.VarintTurnedSaid := varintTurned.over
#print axioms turned_holds
end Go.Proofs.Ytndefppbkepikaa
