/- Bits of any value, and that values which are not the same have other bits. Conditions: the package variables hold what they are laid with. -/
import Derived.Test.YtmeimofnmpmaoaaGreatDoorOn
import Derived.Test.YtmeimofnmpmaoaaGreatDoorZr
import Derived.Lib.SmallJoins
namespace Go.Proofs.YtmeimofnmpmaoaaGreatDoor
open Go.RowKit Go.Shelf Fl Go.ChangeShapes Go.WideShapes Go.ChangeAt

/-- The bits of what is no number, by its kind. -/
def mark (S : Int) : Nat := if S = 1 then 9218868437227405314 else if S = 2 then 9218868437227405312 else if S = 3 then 18442240474082181120 else 9223372036854775808
/-- These are the bits of a value that may be. -/
def Bv (q : Nat) (M E S : Int) (x : Nat) : Prop :=
  (S ≠ 0 ∧ x = mark S) ∨ (S = 0 ∧ M = 0 ∧ x = 0) ∨ (S = 0 ∧ M ≠ 0 ∧ ∃ R, Near (num q M.natAbs E) (10 ^ q) R ∧ 4503599627370496 ≤ R ∧ R < 9218868437227405312 ∧ x = (if M < 0 then 9223372036854775808 else 0) + R)

theorem may_kind {M E S : Int} (h : mayBe M E S = true) (hS : S ≠ 0) : M = 0 ∧ E = 0 ∧ 1 ≤ S ∧ S ≤ 4 := by
  unfold mayBe at h
  rw [if_neg hS] at h
  have := of_decide_eq_true h
  exact ⟨this.2.2.1, this.2.2.2, this.1, this.2.1⟩
theorem may_zero {E : Int} (h : mayBe 0 E 0 = true) : E = 0 := by simpa [mayBe] using h

theorem bits_all (q : Nat) (hq : 300 ≤ q) (M E S : Int) (hm : mayBe M E S = true) (w0 : World) (hG0 : Ground w0) :
    ∃ x : Nat, x < 18446744073709551616 ∧ (∀ w, Ground w → Calls Tryz.prog 10 #[val M E S] w fun e w' => e = .returned (.tuple #[.int .u64 (x : Int), .int .i64 0]) ∧ Below w.heap.size w w') ∧ Bv q M E S x := by
  by_cases hS : S = 0
  · subst hS
    by_cases hM : M = 0
    · subst hM
      obtain rfl := may_zero hm
      exact ⟨0, by decide, fun w hG => bits_zero w hG, .inr (.inl ⟨rfl, rfl, rfl⟩)⟩
    · obtain ⟨R, hc, hN, hl⟩ := bits_gen q hq M E hm hM w0 hG0
      have hb := may_lt hm hM
      obtain ⟨t, ht⟩ : ∃ t : Nat, t = 102 := ⟨_, rfl⟩
      have hr := near_bd ht (Nat.pow_pos (by decide)) hN (num_le ht hb.1 hb.2.2)
      refine ⟨(if decide (M < 0) then 1 else 0) * 9223372036854775808 + R, ?_, hc, .inr (.inr ⟨rfl, hM, R, hN, hr.1, hr.2, ?_⟩)⟩
      · by_cases hn : M < 0 <;> simp [hn] <;> omega
      · by_cases hn : M < 0 <;> simp [hn]
  · obtain ⟨rfl, rfl, h1, h2⟩ := may_kind hm hS
    refine ⟨mark S, ?_, fun w hG => bits_mark S (mark S) h1 h2 w (Nat.lt_trans (by decide) hG.size) (hG.c0 S.toNat (mark S) ?_), .inl ⟨hS, rfl⟩⟩
    · unfold mark; split
      · decide
      · split
        · decide
        · split <;> decide
    · have h4 : S = 1 ∨ S = 2 ∨ S = 3 ∨ S = 4 := by omega
      rcases h4 with rfl | rfl | rfl | rfl <;> rfl

theorem bv_one {q : Nat} (hq : 300 ≤ q) {M E S M' E' S' : Int} {x : Nat} (hm : mayBe M E S = true) (hm' : mayBe M' E' S' = true) (h : Bv q M E S x) (h' : Bv q M' E' S' x) : M = M' ∧ E = E' ∧ S = S' := by
  have mk : ∀ S : Int, 1 ≤ S → S ≤ 4 → (S = 1 ∧ mark S = 9218868437227405314) ∨ (S = 2 ∧ mark S = 9218868437227405312) ∨ (S = 3 ∧ mark S = 18442240474082181120) ∨ (S = 4 ∧ mark S = 9223372036854775808) := by
    intro S h1 h2
    have h4 : S = 1 ∨ S = 2 ∨ S = 3 ∨ S = 4 := by omega
    rcases h4 with rfl | rfl | rfl | rfl
    · exact .inl ⟨rfl, rfl⟩
    · exact .inr (.inl ⟨rfl, rfl⟩)
    · exact .inr (.inr (.inl ⟨rfl, rfl⟩))
    · exact .inr (.inr (.inr ⟨rfl, rfl⟩))
  rcases h with ⟨hS, hx⟩ | ⟨rfl, rfl, hx⟩ | ⟨rfl, hM, R, hN, r1, r2, hx⟩
  · obtain ⟨rfl, rfl, s1, s2⟩ := may_kind hm hS
    have k := mk S s1 s2
    rcases h' with ⟨hS', hx'⟩ | ⟨rfl, rfl, hx'⟩ | ⟨rfl, hM', R', hN', r1', r2', hx'⟩
    · obtain ⟨rfl, rfl, s1', s2'⟩ := may_kind hm' hS'
      have k' := mk S' s1' s2'
      exact ⟨rfl, rfl, by omega⟩
    · exfalso; omega
    · exfalso; split at hx' <;> omega
  · obtain rfl := may_zero hm
    rcases h' with ⟨hS', hx'⟩ | ⟨rfl, rfl, hx'⟩ | ⟨rfl, hM', R', hN', r1', r2', hx'⟩
    · obtain ⟨rfl, rfl, s1', s2'⟩ := may_kind hm' hS'
      have k' := mk S' s1' s2'
      exfalso; omega
    · obtain rfl := may_zero hm'
      exact ⟨rfl, rfl, rfl⟩
    · exfalso; split at hx' <;> omega
  · rcases h' with ⟨hS', hx'⟩ | ⟨rfl, rfl, hx'⟩ | ⟨rfl, hM', R', hN', r1', r2', hx'⟩
    · obtain ⟨rfl, rfl, s1', s2'⟩ := may_kind hm' hS'
      have k' := mk S' s1' s2'
      exfalso; split at hx <;> omega
    · exfalso; split at hx <;> omega
    · have hR : R = R' ∧ (M < 0 ↔ M' < 0) := by
        split at hx <;> split at hx' <;> omega
      obtain ⟨rfl, hs⟩ := hR
      obtain ⟨e1, e2⟩ := rung_inj hq hm hM hm' hM' hN hN'
      exact ⟨by omega, e2, rfl⟩

/-- Twice a whole number. -/
theorem bv_double {q : Nat} {M : Int} {x y : Nat} (hM : 0 < M) (h : Bv q M 0 0 x) (h' : Bv q (2 * M) 0 0 y) : y = x + 4503599627370496 := by
  rcases h with ⟨hS, _⟩ | ⟨_, h0, _⟩ | ⟨_, _, R, hN, r1, r2, hx⟩
  · exact absurd rfl hS
  · omega
  rcases h' with ⟨hS, _⟩ | ⟨_, h0, _⟩ | ⟨_, _, R', hN', r1', r2', hx'⟩
  · exact absurd rfl hS
  · omega
  have hd := near_double hN
  have e : 2 * num q M.natAbs 0 = num q (2 * M).natAbs 0 := by
    rw [num, num, ← Nat.mul_assoc]; congr 1; omega
  rw [e] at hd
  have := near_unique hd hN'
  rw [if_neg (by omega)] at hx hx'
  omega

set_option maxRecDepth 100000 in
/-- A value that comes in. -/
theorem open_val {H : Type} {enc : TypeId × Value → H} {W : World} {base b0 : Nat} {spare : Nat → Bool} {held : Bool} {v : Value} {d : DataW H} {p : List MemPlace}
    (hv : Value.okWide Tryz.prog W .any b0 23 v) (h : DataW.Trod enc Tryz.prog W base spare held 23 v d p) :
    ∃ M E S : Int, v = val M E S ∧ p = [] ∧ (-9223372036854775808 ≤ M ∧ M ≤ 9223372036854775807) ∧ ∀ (W' : World) (base' : Nat) (spare' : Nat → Bool) (held' : Bool), DataW.Trod enc Tryz.prog W' base' spare' held' 23 (val M E S) d [] := by
  obtain ⟨c0, c1, c2, y0, y1, y2, n, rfl, rfl, rfl, h0, h1, h2⟩ := Joins.open_agg3 Tryz.underlying23 (by kernel_rfl) (by kernel_rfl) hv h
  obtain ⟨z0, hz0, e0, w0⟩ := DataW.trod_int Tryz.underlying2 h0
  obtain ⟨z1, hz1, e1, w1⟩ := DataW.trod_int Tryz.underlying3 h1
  obtain ⟨z2, hz2, e2, w2⟩ := DataW.trod_int Tryz.underlying3 h2
  simp at hz0 hz1 hz2
  subst hz0; subst hz1; subst hz2
  refine ⟨z0, z1, z2, rfl, by rw [e0, e1, e2]; rfl, by simpa [Lit.wf, IntKind.min, IntKind.max, IntKind.signed, IntKind.bits] using w0, fun W' base' spare' held' => ?_⟩
  have := Joins.shut_agg3 (enc := enc) (w := W') (base := base') (spare := spare') (held := held') (t := 23) (y0 := y0) (y1 := y1) (y2 := y2) Tryz.underlying23 (by kernel_rfl) (by kernel_rfl)
    ⟨1, by rw [e0]; exact trod_int_mk 0 Tryz.underlying2 w0⟩ ⟨1, by rw [e1]; exact trod_int_mk 0 Tryz.underlying3 w1⟩ ⟨1, by rw [e2]; exact trod_int_mk 0 Tryz.underlying3 w2⟩
  rw [e0, e1, e2] at this ⊢
  exact this
end Go.Proofs.YtmeimofnmpmaoaaGreatDoor
