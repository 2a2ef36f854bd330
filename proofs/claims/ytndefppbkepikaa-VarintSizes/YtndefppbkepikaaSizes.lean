/- The statement VarintSizes holds: a number takes from 1 to 10 bytes, a greater one no fewer, one byte up to 127 and one more for each seven bits. No conditions: every two uint64, every uint8. -/
import Derived.Test.YtndefppbkepikaaG
import Derived.OpenShut
import Derived.ShutString
import Derived.ChangeOld
namespace Go.Proofs.Ytndefppbkepikaa
namespace varintSizes
open Go.ChangeShapes Go.WideShapes Go.ChangeAt Go.RowKit
set_option linter.unusedVariables false

theorem bs_pow : ∀ (n k : Nat), k ≤ n → (bs (2 ^ k)).length = k / 7 + 1
  | 0, k, h => by
    obtain rfl : k = 0 := by omega
    rw [bs_small (by decide)]; rfl
  | n + 1, k, h => by
    by_cases hk : k < 7
    · have : 2 ^ k < 2 ^ 7 := Nat.pow_lt_pow_right (by decide) hk
      rw [bs_small (by omega)]
      simp; omega
    · have e : 2 ^ k = 128 * 2 ^ (k - 7) := by
        rw [show (128 : Nat) = 2 ^ 7 from rfl, ← Nat.pow_add]; congr 1; omega
      have hp : 0 < 2 ^ (k - 7) := Nat.pow_pos (by decide)
      rw [bs_big (by omega), List.length_cons, e, Nat.mul_div_cancel_left _ (by decide), bs_pow n (k - 7) (by omega)]
      omega

theorem wrap_nat (q : Nat) (hq : q < 18446744073709551616) : IntKind.u64.wrap (q : Int) = (q : Int) := by rw [IntKind.wrap_u64]; omega
theorem ret_bool {a b : Bool} (h : a = b) : Ending.returned (.bool a) = .returned (.bool b) := by rw [h]
theorem eqd {a x : Nat} (h : (127 < a ∧ 1 < x) ∨ (¬ 127 < a ∧ ¬ 1 < x)) : (decide ((127 : Int) < (a : Int)) == decide ((1 : Int) < (x : Int))) = true := by
  rcases h with ⟨h1, h2⟩ | ⟨h1, h2⟩
  · rw [decide_eq_true (show (127 : Int) < (a : Int) by omega), decide_eq_true (show (1 : Int) < (x : Int) by omega)]; rfl
  · rw [decide_eq_false (show ¬ (127 : Int) < (a : Int) by omega), decide_eq_false (show ¬ (1 : Int) < (x : Int) by omega)]; rfl

set_option maxHeartbeats 1600000 in
theorem core (a b x y : Nat) (bit : Int) (k : Nat) (w : World) (ha : a < 18446744073709551616) (hb : b < 18446744073709551616) (h0 : 0 ≤ bit) (h1 : bit ≤ 255) (hk : k ≤ 63) (hand : bits BinOp.and IntKind.u8 bit 63 = (k : Int))
    (hx1 : 1 ≤ x) (hx2 : x ≤ 10) (hy1 : 1 ≤ y) (hy2 : y ≤ 10)
    (H1 : Hid (∀ w, Calls Try.prog 15 #[.int .u64 (a : Int)] w fun e w' => e = .returned (.int .i64 (x : Int)) ∧ w' = w))
    (H2 : Hid (∀ w, Calls Try.prog 15 #[.int .u64 (b : Int)] w fun e w' => e = .returned (.int .i64 (y : Int)) ∧ w' = w))
    (H3 : Hid (∀ w, Calls Try.prog 15 #[.int .u64 (IntKind.u64.wrap (2 ^ k))] w fun e w' => e = .returned (.int .i64 ((k : Int) / 7 + 1)) ∧ w' = w))
    (H4 : Hid (∀ w, Calls Try.prog 9 #[.slice none 0 0, .int .u64 (a : Int)] w fun e w' => ∃ g cap, e = .returned (.slice (some ⟨g, 0, none⟩) x cap) ∧ Below w.heap.size w w'))
    (hc : b < a ∨ (¬ b < a ∧ x ≤ y)) (hd : (127 < a ∧ 1 < x) ∨ (¬ 127 < a ∧ ¬ 1 < x)) :
    Calls Try.prog 6 #[.int .u64 (a : Int), .int .u64 (b : Int), .int .u8 bit] w fun e w' => e = .returned (.bool true) ∧ Below w.heap.size w w' := by
  have HD : Hid ((127 < a ∧ 1 < x) ∨ (¬ 127 < a ∧ ¬ 1 < x)) := hd
  clear hd
  rcases hc with hc | ⟨hc, hxy⟩
  all_goals
    go_enter Try.func6, Try.ntmps6
    go_wp2_with fail
    refine (awake_any _).mono ?_
    rintro e w1 ⟨rfl, hb1⟩
    go_wp2_with fail
    refine (H1.out _).mono ?_
    rintro e w2 ⟨rfl, rfl⟩
    go_wp2_with fail
    refine (H2.out _).mono ?_
    rintro e w3 ⟨rfl, rfl⟩
    go_wp2_with fail
    refine (H3.out _).mono ?_
    rintro e w4 ⟨rfl, rfl⟩
    go_wp2_with fail
    refine (H4.out _).mono ?_
    rintro e w5 ⟨g, cap, rfl, hb5⟩
    go_wp2
    go_ret
    exact ⟨ret_bool (eqd HD.out), hb1.trans (hb5.mono hb1.size)⟩

theorem own : ownKnob Try.prog.godebug = none := by kernel_rfl

theorem walk (a0 : Int) (a1 : Int) (a2 : Int) (w0 : (Lit.int .u64 a0).wf = true) (w1 : (Lit.int .u64 a1).wf = true) (w2 : (Lit.int .u8 a2).wf = true) (w : World) :
    Calls Try.prog 6 #[.int .u64 a0, .int .u64 a1, .int .u8 a2] w fun e w' => e = .returned (.bool true) ∧ Below w.heap.size w w' := by
  obtain ⟨a0l, a0h⟩ := bounds_u64 w0
  obtain ⟨a1l, a1h⟩ := bounds_u64 w1
  obtain ⟨a2l, a2h⟩ := bounds_u8 w2
  obtain ⟨a, rfl⟩ := Int.eq_ofNat_of_zero_le a0l
  obtain ⟨b, rfl⟩ := Int.eq_ofNat_of_zero_le a1l
  have ha : a < 18446744073709551616 := by omega
  have hb : b < 18446744073709551616 := by omega
  have ek : bits BinOp.and IntKind.u8 a2 63 = (((a2 % 64).toNat : Nat) : Int) := by
    rw [u8_and a2 63 a2l (by omega) (by decide) (by decide), show (63 : Int).toNat = 63 from rfl, nat_mask6]; omega
  refine core a b (bs a).length (bs b).length a2 (a2 % 64).toNat w ha hb a2l a2h (by omega) ek (bs_pos a) (bs_le10 ha) (bs_pos b) (bs_le10 hb) (fun w => size_any a ha w) (fun w => size_any b hb w) ?_ ?_ ?_ ?_
  · intro w
    generalize hk : (a2 % 64).toNat = k
    have hk63 : k ≤ 63 := by omega
    have hlt : 2 ^ k < 18446744073709551616 := Nat.lt_of_le_of_lt (Nat.pow_le_pow_right (by decide) hk63) (by decide)
    have e1 : IntKind.u64.wrap (2 ^ k) = ((2 ^ k : Nat) : Int) := by
      have e0 : (2 : Int) ^ k = ((2 ^ k : Nat) : Int) := by rw [Int.natCast_pow]; rfl
      rw [e0]; exact wrap_nat _ hlt
    rw [e1]
    have h := size_any (2 ^ k) hlt w
    rw [bs_pow 63 k hk63] at h
    have e2 : ((k / 7 + 1 : Nat) : Int) = (k : Int) / 7 + 1 := by omega
    rwa [e2] at h
  · intro w
    refine (put_any none 0 0 [] a w ha rfl (.inl rfl) (by decide)).mono ?_
    rintro e w' ⟨v', rfl, ho, hb'⟩
    have hp := bs_pos a
    obtain ⟨g, cap, rfl, _⟩ := own_some ho (by omega)
    rw [Nat.zero_add]
    exact ⟨g, cap, rfl, hb'⟩
  · by_cases h : b < a
    · exact .inl h
    · exact .inr ⟨h, bs_mono64 ha (by omega)⟩
  · have h1 := bs_one a
    have hp := bs_pos a
    by_cases h : 127 < a
    · exact .inl ⟨h, by omega⟩
    · exact .inr ⟨h, by omega⟩

set_option maxRecDepth 100000 in
theorem lifted (os : Os) (started : os.Started) (H : Type) (enc : TypeId × Value → H) :
    ReturnsInHanded {} Try.checked os 6 .any (Rows.varintSizesSpec.pre6 enc Try.prog Try.f6 Rows.varintSizesRow.domain false) (Rows.varintSizesSpec.post enc Try.prog Try.f6 false true false false) := by
  refine returnsInHanded_of_change (C := Try.checked) own started (by kernel_rfl) Try.func6
    (ChangeSpec.witness6 (enc := enc) (C := Try.checked) false ⟨#[], #[.int .u64 0, .int .u64 0, .int .u8 0], []⟩ 8 (by kernel_rfl) (by kernel_rfl) (by kernel_rfl) (by kernel_rfl)) ?_
  intro W base args ds gs before hval0 hW hcnd _
  have hval : ∀ (j : Nat) t v, Try.f6.params[j]? = some t → args[j]? = some v → Value.okWide Try.prog W .any base t v := hval0
  have hW' := hW
  obtain ⟨p, q, hA0, hV, rfl, hfz, hnd⟩ := hW
  have hA : DataW.TrodAll enc Try.prog W 0 (fun _ => true) true Try.f6.params.toList args.toList ds p := hA0
  rw [Try.params6] at hA hval
  obtain ⟨v0, vs0, d0, ds0, p0, q0, hargs, rfl, rfl, h0, r0⟩ := trodAll_cons hA
  obtain ⟨v1, vs1, d1, ds1, p1, q1, rfl, rfl, rfl, h1, r1⟩ := trodAll_cons r0
  obtain ⟨v2, vs2, d2, ds2, p2, q2, rfl, rfl, rfl, h2, r2⟩ := trodAll_cons r1
  obtain ⟨rfl, rfl, rfl⟩ := trodAll_nil r2
  obtain rfl : args = #[v0, v1, v2] := by cases args; simp_all
  obtain ⟨rfl, rfl⟩ := trodVars_none hV
  obtain ⟨a0, rfl, rfl, rfl, w0⟩ := open_int Try.underlying22 (hval 0 22 v0 rfl rfl) h0
  obtain ⟨a1, rfl, rfl, rfl, w1⟩ := open_int Try.underlying22 (hval 1 22 v1 rfl rfl) h1
  obtain ⟨a2, rfl, rfl, rfl, w2⟩ := open_int Try.underlying5 (hval 2 5 v2 rfl rfl) h2
  clear hA0 hval0
  simp only [List.append_nil] at hW'
  refine (walk a0 a1 a2 w0 w1 w2 W).mono fun e W' ⟨he, bel⟩ => ?_
  subst he
  exact ⟨_, rfl, _, _, _, [], _, [], hW', trodAll_mk1 (shut_bool Try.underlying4 _), (trodAll_cons_mk (shut_int Try.underlying22 w0) (trodAll_cons_mk (shut_int Try.underlying22 w1) (trodAll_cons_mk (shut_int Try.underlying5 w2) trodAll_mk0))), rfl, bel.frame _, fun h => by cases h⟩

theorem over : Rows.varintSizesRow.holds Try.pinned (OpenSpec.ofChange Rows.varintSizesSpec) :=
  OpenClaim.holds_of_wide 6 Try.f6 rfl rfl rfl rfl rfl rfl rfl ⟨rfl, rfl, rfl, rfl, rfl⟩ rfl rfl rfl rfl rfl (by kernel_rfl) Try.func6 (by kernel_rfl)
    (of_decide_eq_true (by kernel_rfl)) (by unfold Func.isWrapper; first | (rw [if_pos (by decide +kernel)]; kernel_rfl) | (rw [if_neg (by decide +kernel)]; exact ⟨rfl, rfl⟩))
    (fun os started H enc _ => lifted os started H enc)

end varintSizes
theorem sizes_holds : Rows.VarintSizesSaid := varintSizes.over
#print axioms sizes_holds
end Go.Proofs.Ytndefppbkepikaa
