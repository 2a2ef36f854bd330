/- The contract of readFloat: a text of a sign, digits, e, a sign and digits tells its mantissa and its exponent. -/
import Derived.Test.YtmeimofnmpmaoaaGreatDoorSp
namespace Go.Proofs.YtmeimofnmpmaoaaGreatDoor
open Go.RowKit Go.Shelf

/-- The value of the first digits. -/
def pv (D : Nat → Nat) : Nat → Nat
  | 0 => 0
  | j + 1 => pv D j * 10 + D j

theorem pv_lt (D : Nat → Nat) (n : Nat) (h : ∀ j, j < n → D j < 10) : ∀ j, j ≤ n → pv D j < 10 ^ j
  | 0, _ => by simp [pv]
  | j + 1, hj => by
    have := pv_lt D n h j (by omega)
    have := h j (by omega)
    simp only [pv, Nat.pow_succ]; omega

theorem lower_any (c : Int) (w : World) (r : Int) (hr : Hid (bits .or .u8 c 32 = r)) :
    Calls Tryz.prog 88 #[.int .u8 c] w fun e w' => e = .returned (.int .u8 r) ∧ w' = w := by
  have h := hr.out
  go_enter Tryz.func88, Tryz.ntmps88
  go_wp2
  go_ret
  exact ⟨rfl, rfl⟩

theorem pv_pos (D : Nat → Nat) : ∀ n, 1 ≤ n → D 0 ≠ 0 → 1 ≤ pv D n
  | 0, h, _ => by omega
  | 1, _, h => by simp [pv]; omega
  | n + 2, _, h => by
    have := pv_pos D (n + 1) (by omega) h
    simp only [pv] at *; omega

set_option maxRecDepth 400000 in
set_option maxHeartbeats 4000000 in
theorem read_pos (s : ByteArray) (neg eneg : Bool) (hneg : neg = false) (o eo : Nat) (ho : o = if neg then 1 else 0) (heo : Hid (eo = if eneg then 1 else 0)) (n ne : Nat) (D E : Nat → Nat) (es : Int) (hes : Hid (es = (if eneg then -1 else 1) * (pv E ne : Int))) (n1 : 1 ≤ n) (n2 : n ≤ 15) (ne1 : 1 ≤ ne) (ne2 : ne ≤ 3)
    (hsg : neg = true → ∀ h : 0 < s.size, ((s[0]'h).toNat : Int) = 45)
    (hD : ∀ j, j < n → ∀ h : o + j < s.size, ((s[o + j]'h).toNat : Int) = 48 + (D j : Int)) (hd : ∀ j, j < n → D j < 10) (hnz : D 0 ≠ 0)
    (hE : ∀ h : o + n < s.size, ((s[o + n]'h).toNat : Int) = 101)
    (hM : eneg = true → ∀ h : o + n + 1 < s.size, ((s[o + n + 1]'h).toNat : Int) = 45)
    (hQ : ∀ k, k < ne → ∀ h : o + n + 1 + eo + k < s.size, ((s[o + n + 1 + eo + k]'h).toNat : Int) = 48 + (E k : Int)) (hde : ∀ k, k < ne → E k < 10)
    (hL0 : s.size = o + n + 1 + eo + ne) (w : World) :
    Calls Tryz.prog 108 #[.string s] w fun e w' => e = .returned (.tuple #[.int .u64 (pv D n : Int), .int .i64 es, .bool neg, .bool false, .bool false, .int .i64 (s.size : Int), .bool true]) ∧ w' = w := by
  have hlt : ∀ j, j ≤ n → pv D j < 1000000000000000 := fun j hj => Nat.lt_of_lt_of_le (pv_lt D n hd j hj) (Nat.le_trans (Nat.pow_le_pow_right (by decide) (by omega : j ≤ 15)) (by decide))
  have hlte : ∀ j, j ≤ ne → pv E j < 1000 := fun j hj => Nat.lt_of_lt_of_le (pv_lt E ne hde j hj) (Nat.le_trans (Nat.pow_le_pow_right (by decide) (by omega : j ≤ 3)) (by decide))
  have hne : ¬ s = ByteArray.empty := fun e => by rw [e] at hL0; simp at hL0; omega
  have hpre : ∀ h : o < s.size, ∃ x0 : Int, ((s[o]'h).toNat : Int) = x0 ∧ 49 ≤ x0 ∧ x0 ≤ 57 := fun h => by
    have hd0 := hd 0 (by omega)
    refine ⟨48 + (D 0 : Int), by simpa using hD 0 (by omega) (by simpa using h), by omega, by omega⟩
  have heo2 : eo < 2 := by rw [heo.out]; split <;> omega
  subst hneg

  · obtain rfl : o = 0 := ho
    obtain ⟨x0, hx0, g0, g9⟩ := hpre (by omega)
    have g1 : ¬ x0 = 43 := by omega
    have g2 : ¬ x0 = 45 := by omega
    have g3 : ¬ x0 = 48 := by omega
    have g5 : 2 < (s.size : Int) := by omega
    clear hsg hpre
    go_enter Tryz.func108, Tryz.ntmps108
    go_wp2_with fail
    go_step3
    go_wp2_with fail
    go_step3
    go_wp2_with fail
    go_loop [2, 5, 7, 9, 13, 14, 15, 16, 17] (fun m tr i un sd sg nd nm dp => ∃ j i' : Nat, j ≤ n ∧ Hid (i' = 0 + j) ∧ m = .int .u64 (pv D j : Int) ∧ tr = .bool false ∧ i = .int .i64 (i' : Int) ∧ un = .bool false ∧ sd = .bool false ∧ sg = .bool (decide (j ≠ 0)) ∧ nd = .int .i64 (j : Int) ∧ nm = .int .i64 (j : Int) ∧ dp = .int .i64 0) (fun _ _ i _ _ _ _ _ _ => 0 + n - (intOf i).toNat)
    case atStart => exact ⟨0, 0, by omega, rfl, rfl, rfl, rfl, rfl, rfl, rfl, rfl, rfl, rfl⟩
    case round =>
      clear g0 g1 g2 g3 g5 g9 hx0
      obtain ⟨j, i, hj, hi, rfl, rfl, rfl, rfl, rfl, rfl, rfl, rfl, rfl⟩ := hrel
      by_cases hjn : j < n
      · obtain ⟨x, HX⟩ : ∃ x : Int, Hid (x = 48 + (D j : Int)) := ⟨_, rfl⟩
        have hx := HX.out
        have hxi : ∀ h : i < s.size, ((s[i]'h).toNat : Int) = x := by rw [hx]; have hi' := hi.out; subst hi'; exact hD j hjn
        have hdj := hd j hjn
        have hil : (i : Int) < (s.size : Int) := by have := hi.out; omega
        have hxv := hxi (by omega)
        have t1 : ¬ x = 95 := by omega
        have t2 : ¬ x = 46 := by omega
        have t3 : 48 ≤ x := by omega
        have t4 : x ≤ 57 := by omega
        have t5 : (j : Int) < 19 := by omega
        have pj := hlt j hj
        obtain ⟨P, HP⟩ : ∃ P, Hid (P = pv D j) := ⟨_, rfl⟩
        rw [← HP.out] at pj ⊢
        have t6 : IntKind.u8.wrap (x - 48) = x - 48 := by rw [IntKind.wrap_u8]; omega
        have t7 : IntKind.u64.wrap ((P : Int) * 10) = (P : Int) * 10 := by rw [IntKind.wrap_u64]; omega
        have t8 : IntKind.u64.wrap ((P : Int) * 10 + (x - 48)) = (P : Int) * 10 + (x - 48) := by rw [IntKind.wrap_u64]; omega
        have hpv : Value.int .u64 ((P : Int) * 10 + (x - 48)) = .int .u64 (pv D (j + 1) : Int) := by rw [HP.out, hx]; simp only [pv]; congr 1; push_cast; omega
        have hpv0 : x = 48 → Value.int .u64 ((P : Int) * 10) = .int .u64 (pv D (j + 1) : Int) := fun h => by rw [← hpv, h]; simp
        clear hxi hlt hx
        rcases Nat.eq_zero_or_pos j with hj0 | hj0
        · have t9 : ¬ x = 48 := by subst hj0; have := HX.out; omega
          clear hj0 hpv0 HX hD hQ hd hde
          go_wp2_with fail
          refine ⟨⟨j + 1, i + 1, hjn, (show i + 1 = 0 + (j + 1) by have := hi.out; omega), rfl, rfl, rfl, rfl, rfl, by simp, rfl, rfl, rfl⟩, ?_⟩
          simp [intOf]; have := hi.out; omega
        · have t9 : ¬ (j : Int) = 0 := by omega
          by_cases h48 : x = 48
          · have hpv1 : Hid (Value.int .u64 ((P : Int) * 10) = .int .u64 (pv D (j + 1) : Int)) := hpv0 h48
            have t10 : IntKind.u64.wrap ((P : Int) * 10 + 0) = (P : Int) * 10 := by rw [IntKind.wrap_u64]; omega
            clear hpv0 hpv HX t8 t6
            subst h48
            clear hD hQ hd hde
            go_wp2_with fail
            refine ⟨⟨j + 1, i + 1, hjn, (show i + 1 = 0 + (j + 1) by have := hi.out; omega), by first | exact hpv1.out | rfl, rfl, rfl, rfl, rfl, by simp, rfl, rfl, rfl⟩, ?_⟩
            simp [intOf]; have := hi.out; omega
          · clear hpv0 HX hD hQ hd hde
            go_wp2_with fail
            refine ⟨⟨j + 1, i + 1, hjn, (show i + 1 = 0 + (j + 1) by have := hi.out; omega), by first | exact hpv | rfl, rfl, rfl, rfl, rfl, by simp, rfl, rfl, rfl⟩, ?_⟩
            simp [intOf]; have := hi.out; omega
      · obtain rfl : j = n := by omega
        have hxi : ∀ h : i < s.size, ((s[i]'h).toNat : Int) = 101 := by have hi' := hi.out; subst hi'; exact hE
        have hil : (i : Int) < (s.size : Int) := by have := hi.out; omega
        have hxv := hxi (by omega)
        have hdec : decide (j ≠ 0) = true := by simp; omega
        have hiq : ∀ h : i + 1 < s.size, eneg = true → ((s[i + 1]'h).toNat : Int) = 45 := by have hi' := hi.out; subst hi'; exact fun h e => hM e h
        have hil1 : (i : Int) + 1 < (s.size : Int) := by have := hi.out; omega
        have hil1' : ¬ (s.size : Int) ≤ (i : Int) + 1 := by omega
        have hle : bits .or .u8 101 32 = 101 := by decide
        obtain ⟨PM, HPM⟩ : ∃ PM, Hid (PM = pv D j) := ⟨_, rfl⟩
        have pmlt := hlt j (by omega)
        have pmpos : 1 ≤ PM := by rw [HPM.out]; exact pv_pos D j (by omega) hnz
        rw [← HPM.out] at pmlt
        rw [hdec, ← HPM.out]
        clear hdec hxi
        cases eneg
        · obtain rfl : eo = 0 := heo.out
          obtain ⟨q, hq⟩ : ∃ q, Hid (q = i + 1) := ⟨_, rfl⟩
          have hQ' : ∀ k, k < ne → ∀ h : q + k < s.size, ((s[q + k]'h).toNat : Int) = 48 + (E k : Int) := by
            have hq' := hq.out; have hi' := hi.out; subst hi'; subst hq'; simpa using hQ
          clear hQ; have hQ := hQ'; clear hQ'
          obtain ⟨y, HY⟩ : ∃ y : Int, Hid (y = 48 + (E 0 : Int)) := ⟨_, rfl⟩
          have hy0 : ∀ h : i + 1 < s.size, ((s[i + 1]'h).toNat : Int) = y := by rw [HY.out]; have := hQ 0 (by omega); have hq' := hq.out; subst hq'; simpa using this
          have hy1 := hy0 (by omega)
          have hde0 := hde 0 (by omega)
          have u1 : ¬ y = 43 := by have := HY.out; omega
          have u2 : ¬ y = 45 := by have := HY.out; omega
          have u3 : ¬ y < 48 := by have := HY.out; omega
          have u4 : ¬ 57 < y := by have := HY.out; omega
          clear hy0
          go_wp2_with (go_at_call 88; refine (lower_any 101 _ 101 hle).mono ?_; rintro e w' ⟨rfl, rfl⟩)
          go_loop [7, 9, 20] (fun i un e => ∃ k i' : Nat, k ≤ ne ∧ Hid (i' = q + k) ∧ i = .int .i64 (i' : Int) ∧ un = .bool false ∧ e = .int .i64 (pv E k : Int)) (fun i _ _ => q + ne - (intOf i).toNat)
          case atStart => exact ⟨0, i + 1, by omega, (show i + 1 = q + 0 by have := hq.out; omega), rfl, rfl, rfl⟩
          case round =>
            obtain ⟨k, i2, hk, hi2, rfl, rfl, rfl⟩ := hrel
            by_cases hkn : k < ne
            · obtain ⟨x, HX⟩ : ∃ x : Int, Hid (x = 48 + (E k : Int)) := ⟨_, rfl⟩
              have hx := HX.out
              have hxi : ∀ h : i2 < s.size, ((s[i2]'h).toNat : Int) = x := by rw [hx]; have hi' := hi2.out; subst hi'; exact hQ k hkn
              have hdk := hde k hkn
              have hil : (i2 : Int) < (s.size : Int) := by have := hi2.out; have := hq.out; have := hi.out; omega
              have hxv := hxi (by omega)
              have t1 : ¬ x = 95 := by omega
              have t3 : 48 ≤ x := by omega
              have t4 : x ≤ 57 := by omega
              have pk := hlte k (by omega)
              obtain ⟨P, HP⟩ : ∃ P, Hid (P = pv E k) := ⟨_, rfl⟩
              rw [← HP.out] at pk ⊢
              have t5 : (P : Int) < 10000 := by omega
              have hpv : Hid (Value.int .i64 ((P : Int) * 10 + x - 48) = .int .i64 (pv E (k + 1) : Int)) := by show Value.int _ _ = _; rw [HP.out, hx]; simp only [pv]; congr 1; push_cast; omega
              clear hxi hlt hD hd hx
              go_wp2_with fail
              refine ⟨⟨k + 1, i2 + 1, hkn, (show i2 + 1 = q + (k + 1) by have := hi2.out; omega), rfl, rfl, hpv.out⟩, ?_⟩
              simp [intOf]; have := hi2.out; omega
            · obtain rfl : k = ne := by omega
              obtain ⟨P, HP⟩ : ∃ P, Hid (P = pv E k) := ⟨_, rfl⟩
              have pk := hlte k (by omega)
              rw [← HP.out] at pk ⊢
              have hil : (i2 : Int) = (s.size : Int) := by have := hi2.out; have := hq.out; have := hi.out; omega
              have hil' : ¬ (i2 : Int) < (s.size : Int) := by omega
              have PM0 : ¬ (PM : Int) = 0 := by omega
              have f1 : IntKind.i64.wrap ((P : Int) * (1)) = (1) * (P : Int) := by rw [IntKind.wrap_i64]; omega
              have HIL : Hid ((i2 : Int) = (s.size : Int)) := hil
              clear hil
              have hee : Hid ((1) * (P : Int) = es) := by show _ = es; rw [hes.out, ← HP.out]; simp
              go_wp2_with fail
              go_returns
              refine ⟨?_, rfl⟩
              have hfin : (j : Int) + (P : Int) - (j : Int) = es := by have := hee.out; omega
              rw [← HPM.out, HIL.out]
              show Ending.returned (Value.tuple #[_, .int .i64 ((j : Int) + (P : Int) - (j : Int)), _, _, _, _, _]) = _
              rw [hfin]
        · obtain rfl : eo = 1 := heo.out
          obtain ⟨q, hq⟩ : ∃ q, Hid (q = i + 2) := ⟨_, rfl⟩
          have hQ' : ∀ k, k < ne → ∀ h : q + k < s.size, ((s[q + k]'h).toNat : Int) = 48 + (E k : Int) := by
            have hq' := hq.out; have hi' := hi.out; subst hi'; subst hq'; simpa using hQ
          clear hQ; have hQ := hQ'; clear hQ'
          have hy1 := hiq (by omega) rfl
          obtain ⟨y, HY⟩ : ∃ y : Int, Hid (y = 48 + (E 0 : Int)) := ⟨_, rfl⟩
          have hil2 : (i : Int) + 2 < (s.size : Int) := by have := hi.out; omega
          have hil3 : ¬ (s.size : Int) ≤ (i : Int) + 2 := by omega
          have hy0 : ∀ h : i + 2 < s.size, ((s[i + 2]'h).toNat : Int) = y := by rw [HY.out]; have := hQ 0 (by omega); have hq' := hq.out; subst hq'; simpa using this
          have hy2 := hy0 (by omega)
          have hde0 := hde 0 (by omega)
          have u3 : ¬ y < 48 := by have := HY.out; omega
          have u4 : ¬ 57 < y := by have := HY.out; omega
          clear hy0 hiq
          go_wp2_with (go_at_call 88; refine (lower_any 101 _ 101 hle).mono ?_; rintro e w' ⟨rfl, rfl⟩)
          go_loop [7, 9, 20] (fun i un e => ∃ k i' : Nat, k ≤ ne ∧ Hid (i' = q + k) ∧ i = .int .i64 (i' : Int) ∧ un = .bool false ∧ e = .int .i64 (pv E k : Int)) (fun i _ _ => q + ne - (intOf i).toNat)
          case atStart => exact ⟨0, i + 2, by omega, (show i + 2 = q + 0 by have := hq.out; omega), rfl, rfl, rfl⟩
          case round =>
            obtain ⟨k, i2, hk, hi2, rfl, rfl, rfl⟩ := hrel
            by_cases hkn : k < ne
            · obtain ⟨x, HX⟩ : ∃ x : Int, Hid (x = 48 + (E k : Int)) := ⟨_, rfl⟩
              have hx := HX.out
              have hxi : ∀ h : i2 < s.size, ((s[i2]'h).toNat : Int) = x := by rw [hx]; have hi' := hi2.out; subst hi'; exact hQ k hkn
              have hdk := hde k hkn
              have hil : (i2 : Int) < (s.size : Int) := by have := hi2.out; have := hq.out; have := hi.out; omega
              have hxv := hxi (by omega)
              have t1 : ¬ x = 95 := by omega
              have t3 : 48 ≤ x := by omega
              have t4 : x ≤ 57 := by omega
              have pk := hlte k (by omega)
              obtain ⟨P, HP⟩ : ∃ P, Hid (P = pv E k) := ⟨_, rfl⟩
              rw [← HP.out] at pk ⊢
              have t5 : (P : Int) < 10000 := by omega
              have hpv : Hid (Value.int .i64 ((P : Int) * 10 + x - 48) = .int .i64 (pv E (k + 1) : Int)) := by show Value.int _ _ = _; rw [HP.out, hx]; simp only [pv]; congr 1; push_cast; omega
              clear hxi hlt hD hd hx
              go_wp2_with fail
              refine ⟨⟨k + 1, i2 + 1, hkn, (show i2 + 1 = q + (k + 1) by have := hi2.out; omega), rfl, rfl, hpv.out⟩, ?_⟩
              simp [intOf]; have := hi2.out; omega
            · obtain rfl : k = ne := by omega
              obtain ⟨P, HP⟩ : ∃ P, Hid (P = pv E k) := ⟨_, rfl⟩
              have pk := hlte k (by omega)
              rw [← HP.out] at pk ⊢
              have hil : (i2 : Int) = (s.size : Int) := by have := hi2.out; have := hq.out; have := hi.out; omega
              have hil' : ¬ (i2 : Int) < (s.size : Int) := by omega
              have PM0 : ¬ (PM : Int) = 0 := by omega
              have f1 : IntKind.i64.wrap ((P : Int) * (-1)) = (-1) * (P : Int) := by rw [IntKind.wrap_i64]; omega
              have HIL : Hid ((i2 : Int) = (s.size : Int)) := hil
              clear hil
              have hee : Hid ((-1) * (P : Int) = es) := by show _ = es; rw [hes.out, ← HP.out]; simp
              go_wp2_with fail
              go_returns
              refine ⟨?_, rfl⟩
              have hfin : (j : Int) + -(P : Int) - (j : Int) = es := by have := hee.out; omega
              rw [← HPM.out, HIL.out]
              show Ending.returned (Value.tuple #[_, .int .i64 ((j : Int) + -(P : Int) - (j : Int)), _, _, _, _, _]) = _
              rw [hfin]
end Go.Proofs.YtmeimofnmpmaoaaGreatDoor
