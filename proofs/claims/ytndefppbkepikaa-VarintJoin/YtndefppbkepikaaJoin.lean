/- The statement VarintJoin holds: rows put one behind the other are one row; taken in two parts they are the same. No conditions: every two slices of int64, every int. -/
import Derived.Test.YtndefppbkepikaaJ
import Derived.Test.YtndefppbkepikaaO
import Derived.OpenShut
import Derived.ShutString
import Derived.ChangeOld
namespace Go.Proofs.Ytndefppbkepikaa
namespace varintJoin
open Go.ChangeShapes Go.WideShapes Go.ChangeAt Go.RowKit
open Go.ChangeMaps (open_string shut_string)
set_option linter.unusedVariables false

theorem mask1023 (a : Int) : bits BinOp.and IntKind.i64 a 1023 = (((a % 1024).toNat : Nat) : Int) := by
  show IntKind.i64.wrap ((BitVec.ofInt 64 a &&& BitVec.ofInt 64 1023).toNat : Int) = _
  have h1 : (BitVec.ofInt 64 1023).toNat = 2 ^ 10 - 1 := by decide
  have h2 : (BitVec.ofInt 64 a).toNat = (a % 18446744073709551616).toNat := by rw [BitVec.toNat_ofInt]; rfl
  rw [BitVec.toNat_and, h1, h2, Nat.and_two_pow_sub_one_eq_mod, IntKind.wrap_i64]
  omega

theorem does_conv_eq {o : Oper} {t : Nat} {a : Act} {w : World} {zs : List Int} {s : ByteArray} (ho : o.op = Op.convert 23 9 (.tmp t)) (h : Sl .u8 zs (a.eval (.tmp t)) w) (hs : strOfNums zs = s) :
    does Try.prog o a.eval w (fun v w' => v = .string s ∧ Below w.heap.size w w') := by
  rw [← hs]; exact does_conv ho h
theorem getD_take (l : List Int) (m i : Nat) (h : i < m) : (l.take m).getD i 0 = l.getD i 0 := by simp [List.getD, h]
theorem rd_take {k : IntKind} {w : World} {a : Option Addr} {zs : List Int} (h : Rd k w a zs) (m : Nat) : Rd k w a (zs.take m) := by
  rcases h with rfl | ⟨b, off, h1, h2, h3⟩
  · exact .inl (by simp)
  · refine .inr ⟨b, off, h1, h2, fun i hi => ?_⟩
    simp only [List.length_take] at hi
    rw [getD_take _ _ _ (by omega)]
    exact h3 i (by omega)
theorem own_sl0 {w : World} {base n g c : Nat} {e : TypeId} {k : IntKind} {zs : List Int} (h : w.ownsRow base e 1 (.slice (some ⟨g, 0, none⟩) n c) n (zs.map (Value.int k))) : Sl k zs (.slice (some ⟨g, 0, none⟩) n c) w := by
  have hl := h.1
  simp only [List.length_map, Nat.mul_one] at hl
  have hg := (h.lt g rfl).2
  rcases h.2 with ⟨h1, _⟩ | ⟨g', c', cur, h1, _, _, h4, h5, _, _⟩
  · cases h1
  · cases h1
    exact ⟨g, 0, c, by rw [hl], hg, by rw [hl]; exact h4, h5, own_cells h⟩
theorem shape {w : World} {base n : Nat} {v : Value} {zs : List Int} (h : w.ownsRow base 2 1 v n (zs.map (Value.int .i64))) :
    ∃ a c, v = .slice a n c ∧ Rd .i64 w a zs ∧ ((a = none ∧ n = 0 ∧ c = 0) ∨ ∃ g, a = some ⟨g, 0, none⟩ ∧ n ≤ c ∧ c ≤ 9223372036854775807) := by
  obtain ⟨a, c, rfl, hr⟩ := own_form h
  refine ⟨a, c, rfl, hr, ?_⟩
  rcases h.2 with ⟨h1, h2⟩ | ⟨g', c', cur, h1, _, _, h4, h5, _, _⟩
  · cases h1; exact .inl ⟨rfl, h2, rfl⟩
  · cases h1; exact .inr ⟨g', rfl, h4, by unfold maxLen at h5; omega⟩
theorem all64_app {a b : List Int} (ha : All64 a) (hb : All64 b) : All64 (a ++ b) := by
  intro k
  by_cases hk : k < a.length
  · have e : (a ++ b).getD k 0 = a.getD k 0 := by simp [List.getD, List.getElem?_append_left hk]
    rw [e]; exact ha k
  · have e : (a ++ b).getD k 0 = b.getD (k - a.length) 0 := by simp [List.getD, List.getElem?_append_right (show a.length ≤ k by omega)]
    rw [e]; exact hb _
theorem all64_take {a : List Int} (ha : All64 a) (m : Nat) : All64 (a.take m) := by
  intro k
  by_cases hk : k < m
  · have e : (a.take m).getD k 0 = a.getD k 0 := by simp [List.getD, hk]
    rw [e]; exact ha k
  · have e : (a.take m).getD k 0 = 0 := by simp [List.getD, List.getElem?_take, hk]
    rw [e]; decide
theorem all64_drop {a : List Int} (ha : All64 a) (m : Nat) : All64 (a.drop m) := by
  intro k
  have e : (a.drop m).getD k 0 = a.getD (m + k) 0 := by simp [List.getD]
  rw [e]; exact ha _

set_option linter.unusedSimpArgs false in
set_option maxHeartbeats 4000000 in
theorem core (aa : Option Addr) (na ca : Nat) (as' : List Int) (ab : Option Addr) (nb cb : Nat) (bs' : List Int) (at' : Int) (w : World)
    (ha : as'.length = na) (hna : na ≤ 500) (hra : Rd .i64 w aa as') (ha64 : All64 as') (hanil : aa = none → ca = 0 ∧ na = 0)
    (hb : bs'.length = nb) (hnb : nb ≤ 500) (hrb : Rd .i64 w ab bs') (hb64 : All64 bs') (hbnil : ab = none → cb = 0 ∧ nb = 0) (hat : -9223372036854775808 ≤ at' ∧ at' ≤ 9223372036854775807) :
    Calls Try.prog 7 #[.slice aa na ca, .slice ab nb cb, .int .i64 at'] w fun e w' => e = .returned (.bool true) ∧ Below w.heap.size w w' := by
  have HA : Hid (as'.length = na ∧ Rd .i64 w aa as' ∧ All64 as' ∧ (aa = none → ca = 0 ∧ na = 0)) := ⟨ha, hra, ha64, hanil⟩
  have HB : Hid (bs'.length = nb ∧ Rd .i64 w ab bs' ∧ All64 bs' ∧ (ab = none → cb = 0 ∧ nb = 0)) := ⟨hb, hrb, hb64, hbnil⟩
  clear ha hra ha64 hanil hb hrb hb64 hbnil
  obtain ⟨i0, hi, hz0, hz1, hz2⟩ := info_parts Try.info2
  have g1 : ¬ (500 : Int) < (na : Int) := by omega
  have g2 : ¬ (500 : Int) < (nb : Int) := by omega
  go_enter Try.func7, Try.ntmps7
  go_wp2_with fail
  refine (awake_any _).mono ?_
  rintro e w1 ⟨rfl, hb1⟩
  go_wp2_with (first
    | (at_builtin; refine wpList_append_any _ rfl (.tmp 31) (.tmp 32) 31 rfl w1.heap.size 2 i0 (.int .i64 0) 8 Try.underlying31 hi hz0 hz1 hz2 rfl (.slice none 0 0) 0 [] rfl (World.ownsRow_nil _ _ _ _) aa na ca (as'.map (Value.int .i64)) rfl (by simp [HA.out.1]) HA.out.2.2.2 (rd_any (HA.out.2.1.below hb1)) (ints_oneCell _ _) (by unfold maxLen; omega) (by omega) (Nat.le_refl _) ?_; intro v2 w2 ho2 hg2; simp only [Nat.zero_add, List.nil_append] at ho2)
    | (at_builtin; refine wpList_append_any _ rfl (.tmp 34) (.tmp 35) 31 rfl w1.heap.size 2 i0 (.int .i64 0) 8 Try.underlying31 hi hz0 hz1 hz2 rfl v2 na (as'.map (Value.int .i64)) rfl ho2 ab nb cb (bs'.map (Value.int .i64)) rfl (by simp [HB.out.1]) HB.out.2.2.2 (rd_any ((HB.out.2.1.below hb1).below ((Below.refl _ _).grown hg2 (Nat.le_refl _) (fun k hk => by cases hk)))) (ints_oneCell _ _) (by unfold maxLen; omega) (by omega) hg2.size ?_; intro v3 w3 ho3 hg3)
    | fail)
  obtain ⟨X, hX⟩ : ∃ X, as' ++ bs' = X := ⟨_, rfl⟩
  obtain ⟨nA, hnA⟩ : ∃ nA, na + nb = nA := ⟨_, rfl⟩
  have ho3' : w3.ownsRow w1.heap.size 2 1 v3 nA (X.map (Value.int .i64)) := by rw [← hX, ← hnA, List.map_append]; exact ho3
  have hb3 : Below w1.heap.size w1 w3 := by
    have b2 : Below w1.heap.size w1 w2 := (Below.refl _ _).grown hg2 (Nat.le_refl _) (fun k hk => by cases hk)
    exact b2.grown hg3 b2.size (fun k hk => (ho2.lt k hk).1)
  obtain ⟨aA, cA, rfl, hrA, hshape⟩ := shape ho3'
  have hX64 : All64 X := by rw [← hX]; exact all64_app HA.out.2.2.1 HB.out.2.2.1
  have hXl : X.length = nA := by rw [← hX, ← hnA, List.length_append, HA.out.1, HB.out.1]
  have hzX : zbs X = zbs as' ++ zbs bs' := by rw [← hX, zbs_append]
  have hZl : (zbs X).length ≤ 10 * nA := by
    have := zbs_len X hX64 nA (by omega)
    rwa [List.take_of_length_le (by omega)] at this
  obtain ⟨Z, hZ⟩ : ∃ Z, (zbs X).length = Z := ⟨_, rfl⟩
  have hZ2 : (zbs as').length + (zbs bs').length = Z := by rw [← hZ, hzX, List.length_append]
  have hb13 : Below w.heap.size w w3 := hb1.trans (hb3.mono hb1.size)
  have HX : Hid (All64 X ∧ X.length = nA ∧ zbs X = zbs as' ++ zbs bs' ∧ (zbs X).length = Z ∧ (zbs as').length + (zbs bs').length = Z ∧ Rd .i64 w3 aA X ∧ ((aA = none ∧ nA = 0 ∧ cA = 0) ∨ ∃ g, aA = some ⟨g, 0, none⟩ ∧ nA ≤ cA ∧ cA ≤ 9223372036854775807)) := ⟨hX64, hXl, hzX, hZ, hZ2, hrA, hshape⟩
  have hnA' : nA ≤ 1000 := by omega
  have hZ' : Z ≤ 10000 := by omega
  clear ho3' ho2 hg2 ho3 hg3 hb3 hrA hshape hX64 hXl hzX hZl hZ2 hb1 hX hnA hZ
  have h4 := putall_any none 0 0 [] aa na ca as' w3 rfl (.inl rfl) (by decide) HA.out.1 (by omega) (HA.out.2.1.below hb13) HA.out.2.2.1
  rw [Nat.zero_add, List.nil_append] at h4
  refine h4.mono ?_
  clear h4
  rintro e w4 ⟨g4, c4, rfl, ho4, hb4⟩
  have hb14 : Below w.heap.size w w4 := hb13.trans (hb4.mono hb13.size)
  go_wp2_with fail
  have h5 := putall_any (some ⟨g4, 0, none⟩) (zbs as').length c4 (zbs as') ab nb cb bs' w4 rfl (own_rd ho4) (by have := HX.out.2.2.2.2.1; omega) HB.out.1 (by omega) (HB.out.2.1.below hb14) HB.out.2.2.1
  rw [HX.out.2.2.2.2.1, ← HX.out.2.2.1] at h5
  refine h5.mono ?_
  clear h5
  rintro e w5 ⟨g5, c5, rfl, ho5, hb5⟩
  have hb15 : Below w.heap.size w w5 := hb14.trans (hb5.mono hb14.size)
  obtain ⟨sZ, hsZ⟩ : ∃ sZ, strOfNums (zbs X) = sZ := ⟨_, rfl⟩
  have hpS : Sl .u8 (zbs X) (.slice (some ⟨g5, 0, none⟩) Z c5) w5 := own_sl0 ho5
  have HP : Hid (Sl .u8 (zbs X) (.slice (some ⟨g5, 0, none⟩) Z c5) w5 ∧ strOfNums (zbs X) = sZ ∧ Rd .i64 w5 aA X) := ⟨hpS, hsZ, (HX.out.2.2.2.2.2.1.below hb4).below hb5⟩
  clear ho4 hb4 hb5 hb13 hb14 ho5 hpS hsZ
  go_wp2_with fail
  rename_i hK
  refine wp_region_K (by kernel_rfl) (by kernel_rfl) [.eq (.slice (some ⟨g5, 0, none⟩) Z c5), .eq (.string sZ), .eq (.slice aA nA cA), .rd .u8 (zbs X), .eq (.string sZ), .eq (.bool false)] w5 (Below.refl _ _) (allOps_cons ?_ (allOps_cons ?_ (allOps_cons ?_ (allOps_cons ?_ (allOps_cons ?_ (allOps_cons ?_ allOps_nil)))))) ?_
  · intro a w hS hb hf
    have t9 := (ev_tmp a 9).symm.trans ((hf 9 (by kernel_rfl)).trans rfl)
    rw [if_pos (wanted_none rfl)]
    refine does_val (v := .slice (some ⟨g5, 0, none⟩) Z c5) (w' := w) ?_ ⟨rfl, Below.refl _ _⟩
    simp [execOp, go_sem, t9]
  · intro a w hS hb hf
    have s41 : a.eval (.tmp 41) = .slice (some ⟨g5, 0, none⟩) Z c5 := slot hb 0 0 41 rfl rfl
    rw [if_pos (wanted_none rfl)]
    exact does_conv_eq rfl (by rw [s41]; exact HP.out.1.grow hS) HP.out.2.1
  · intro a w hS hb hf
    have t8 := (ev_tmp a 8).symm.trans ((hf 8 (by kernel_rfl)).trans rfl)
    rw [if_pos (wanted_none rfl)]
    refine does_val (v := .slice aA nA cA) (w' := w) ?_ ⟨rfl, Below.refl _ _⟩
    simp [execOp, go_sem, t8]
  · intro a w' hS hb hf
    have s43 : a.eval (.tmp 43) = .slice aA nA cA := slot hb 0 2 43 rfl rfl
    have t43 := (ev_tmp a 43).symm.trans s43
    rw [if_pos (wanted_none rfl)]
    refine does_call (f := 17) (args := #[.slice none 0 0, .slice aA nA cA]) (w' := w') (by simp [execOp, go_sem, t43]) ?_
    have h6 := putall_any none 0 0 [] aA nA cA X w' rfl (.inl rfl) (by decide) HX.out.2.1 (by omega) (HP.out.2.2.below hS) HX.out.1
    rw [Nat.zero_add, List.nil_append] at h6
    refine h6.mono ?_
    rintro e w6 ⟨g6, c6, rfl, ho6, hb6⟩
    exact ⟨_, rfl, own_sl0 ho6, hb6⟩
  · intro a w hS hb hf
    have s44 : Sl .u8 (zbs X) (a.eval (.tmp 44)) w := slot hb 0 3 44 rfl rfl
    rw [if_pos (wanted_none rfl)]
    exact does_conv_eq rfl s44 HP.out.2.1
  · intro a w hS hb hf
    have t42 := (ev_tmp a 42).symm.trans (show a.eval (.tmp 42) = .string sZ from slot hb 0 1 42 rfl rfl)
    have t45 := (ev_tmp a 45).symm.trans (show a.eval (.tmp 45) = .string sZ from slot hb 1 4 45 rfl rfl)
    rw [if_pos (wanted_none rfl)]
    refine does_val (v := .bool false) (w' := w) ?_ ⟨rfl, Below.refl _ _⟩
    simp [execOp, go_sem, t42, t45]
  intro a w6 hb6 hsize hdef hdone hfree
  have e41 : a.eval (.tmp 41) = .slice (some ⟨g5, 0, none⟩) Z c5 := done_slot hdone 0 41 rfl
  have e42 : a.eval (.tmp 42) = .string sZ := done_slot hdone 1 42 rfl
  have e43 : a.eval (.tmp 43) = .slice aA nA cA := done_slot hdone 2 43 rfl
  obtain ⟨y44, e44⟩ : ∃ y, a.eval (.tmp 44) = y := ⟨_, rfl⟩
  have e45 : a.eval (.tmp 45) = .string sZ := done_slot hdone 4 45 rfl
  have e46 : a.eval (.tmp 46) = .bool false := done_slot hdone 5 46 rfl
  have hact := act_puts hsize hdef hfree
  simp only [putAll, List.foldl_cons, List.foldl_nil, e41, e42, e43, e44, e45, e46, Act.put] at hact
  simp at hact
  clear e41 e42 e43 e44 e45 e46 hsize hdef hdone hfree
  subst hact
  have hb16 : Below w.heap.size w w6 := hb15.trans (hb6.mono hb15.size)
  obtain ⟨m, hm⟩ : ∃ m : Nat, (at' % 1024).toNat = m := ⟨_, rfl⟩
  have hand := mask1023 at'
  rw [hm] at hand
  have hm' : m < 1024 := by omega
  obtain ⟨kk, hkk⟩ : ∃ kk : Nat, (m : Int) % ((nA : Int) + 1) = (kk : Int) := ⟨((m : Int) % ((nA : Int) + 1)).toNat, by
    have := Int.emod_nonneg (m : Int) (show ((nA : Int) + 1) ≠ 0 by omega)
    omega⟩
  have hk1 : kk ≤ nA := by
    have := Int.emod_lt_of_pos (m : Int) (show (0 : Int) < (nA : Int) + 1 by omega)
    omega
  have HQ : Hid (Sl .u8 (zbs X) (.slice (some ⟨g5, 0, none⟩) Z c5) w6 ∧ Rd .i64 w6 aA X) := ⟨HP.out.1.grow hb6, HP.out.2.2.below hb6⟩
  clear hm hb15 hb6 HP
  refine hK _ _ ?_
  clear hK
  go_wp2_with fail
  have eX : zbs (X.take kk) ++ zbs (X.drop kk) = zbs X := by rw [← zbs_append, List.take_append_drop]
  have hXl := HX.out.2.1
  have hZl := HX.out.2.2.2.1
  obtain ⟨hg5, hc5, hcl⟩ : g5 < w6.heap.size ∧ (zbs X).length ≤ c5 ∧ ∀ i, i < (zbs X).length → w6.cell? ⟨g5, 0 + i, none⟩ = some (.int .u8 ((zbs X).getD i 0)) := by
    obtain ⟨g', off', cap', e1, e2, e3, e4, e5⟩ := HQ.out.1
    simp only [Value.slice.injEq, Option.some.injEq, Addr.mk.injEq, and_true] at e1
    obtain ⟨⟨rfl, rfl⟩, _, rfl⟩ := e1
    exact ⟨e2, e3, e5⟩
  have h7 := takeall_ok g5 0 c5 (X.take kk) (zbs (X.drop kk)) (all64_take HX.out.1 _) (by simp; omega) w6 hg5 (by rw [eX]; exact hc5) (by rw [eX]; omega) (by rw [eX]; exact hcl)
  obtain ⟨R, hR⟩ : ∃ R, (zbs (X.drop kk)).length = R := ⟨_, rfl⟩
  have hlt : (X.take kk).length = kk := by rw [List.length_take]; omega
  have hR' : R ≤ 10000 := by
    have := congrArg List.length eX
    rw [List.length_append] at this
    omega
  rw [eX, hZl, hR, hlt] at h7
  refine h7.mono ?_
  clear h7
  rintro e w7 ⟨v7, h7, rfl, hov7, hoh7, hb7⟩
  obtain ⟨a7, c7, rfl, hr7⟩ := own_form hov7
  have HS : Hid ((zbs (X.drop kk)).length = R ∧ zbs (X.take kk) ++ zbs (X.drop kk) = zbs X ∧ X.length = nA ∧ (zbs X).length = Z ∧ (zbs X).length ≤ c5 ∧ (∀ i, i < (zbs X).length → w6.cell? ⟨g5, 0 + i, none⟩ = some (.int .u8 ((zbs X).getD i 0))) ∧ Rd .i64 w7 a7 (X.take kk) ∧ (X.take kk).length = kk) := ⟨hR, eX, hXl, hZl, hc5, hcl, hr7, hlt⟩
  clear hR eX hXl hZl hc5 hcl hr7 hov7 hlt
  have hg5' : g5 < w7.heap.size := Nat.lt_of_lt_of_le hg5 hb7.size
  go_wp2_with fail
  have h8 := takeall_ok h7 0 R (X.drop kk) [] (all64_drop HX.out.1 _) (by simp; have := HS.out.2.2.1; omega) w7 (hoh7.lt h7 rfl).2 (by rw [List.append_nil, HS.out.1]; exact Nat.le_refl _) (by rw [List.append_nil, HS.out.1]; omega) (by rw [List.append_nil]; exact own_cells hoh7)
  have e8 : (((X.drop kk).length : Nat) : Int) = (nA : Int) - (kk : Int) := by rw [List.length_drop, HS.out.2.2.1]; omega
  have hld : (X.drop kk).length = nA - kk := by rw [List.length_drop, HS.out.2.2.1]
  rw [List.append_nil, HS.out.1, e8, hld] at h8
  simp only [List.length_nil, List.map_nil] at h8
  refine h8.mono ?_
  clear h8
  rintro e w8 ⟨v8, h8, rfl, hov8, _, hb8⟩
  obtain ⟨a8, c8, rfl, hr8⟩ := own_form hov8
  have HT : Hid (Rd .i64 w8 a8 (X.drop kk) ∧ (X.drop kk).length = nA - kk) := ⟨hr8, hld⟩
  clear hr8 hov8 hoh7 e8 hld
  have hb68 : Below w6.heap.size w6 w8 := hb7.trans (hb8.mono hb7.size)
  go_wp2_with fail
  have h9 := takeall_short g5 0 c5 X HX.out.1 (by have := HS.out.2.2.1; omega) w8 (Nat.lt_of_lt_of_le hg5 hb68.size) HS.out.2.2.2.2.1 (by rw [HS.out.2.2.2.1]; omega) (fun i hi => (hb68.cell (p := ⟨g5, 0 + i, none⟩) hg5).trans (HS.out.2.2.2.2.2.1 i hi))
  rw [HS.out.2.2.1, HS.out.2.2.2.1] at h9
  refine h9.mono ?_
  clear h9
  rintro e w9 ⟨rfl, hb9⟩
  have HE : Hid (Rd .i64 w9 a7 (X.take kk) ∧ Rd .i64 w9 a8 (X.drop kk) ∧ Rd .i64 w9 aA X) := ⟨(HS.out.2.2.2.2.2.2.1.below hb8).below hb9, HT.out.1.below hb9, (HQ.out.2.below hb68).below hb9⟩
  have hb19 : Below w.heap.size w w9 := (hb16.trans (hb68.mono hb16.size)).trans (hb9.mono (Nat.le_trans hb16.size hb68.size))
  clear hb7 hb8 hb68 hb9 hb16 HQ hg5' hg5
  clear hkk hand hm'
  rcases HX.out.2.2.2.2.2.2 with ⟨rfl, hn0, rfl⟩ | ⟨gA, rfl, hcA1, hcA2⟩
  · have hX0 : X = [] := List.eq_nil_of_length_eq_zero (by have := HX.out.2.1; omega)
    have hk0 : kk = 0 := by omega
    clear HX HS HT
    subst hX0
    subst hk0
    subst hn0
    go_wp2_with fail
    refine (same_any _ _ _ _ _ [] w9 rfl (by decide) (.inl rfl) (.inl rfl)).mono ?_
    rintro e w10 ⟨rfl, hb10⟩
    go_wp2_with fail
    refine (same_any _ _ _ _ _ [] w10 rfl (by decide) (.inl rfl) (.inl rfl)).mono ?_
    rintro e w11 ⟨rfl, hb11⟩
    go_wp2
    go_ret
    exact ⟨rfl, (hb19.trans (hb10.mono hb19.size)).trans (hb11.mono (Nat.le_trans hb19.size hb10.size))⟩
  · have hkc : (kk : Int) ≤ (cA : Int) := by omega
    have hrt : Rd .i64 w9 (some ⟨gA, 0, none⟩) (X.take kk) := rd_take HE.out.2.2 _
    have HE2 : Hid (Rd .i64 w9 (some ⟨gA, 0, none⟩) (X.take kk)) := hrt
    clear hrt
    have HD : Hid (∀ w', Below w9.heap.size w9 w' → (¬ cA = kk → Rd .i64 w' (some ⟨gA, kk, none⟩) (X.drop kk)) ∧ (cA = kk → Rd .i64 w' (some ⟨gA, 0, none⟩) (X.drop kk))) := by
      intro w' hbw
      refine ⟨fun _ => ?_, fun h => .inl (List.eq_nil_of_length_eq_zero (by rw [HT.out.2]; omega))⟩
      rcases (HE.out.2.2.below hbw) with h | ⟨b, off, h1, h2, h3⟩
      · exact .inl (by rw [h]; simp)
      · cases h1
        refine .inr ⟨gA, kk, rfl, h2, fun i hi => ?_⟩
        rw [List.length_drop] at hi
        have := h3 (kk + i) (by omega)
        rw [Nat.zero_add] at this
        rw [this]
        simp [List.getD]
    by_cases hce : cA = kk
    · subst hce
      clear HD
      go_wp2_with fail
      refine (same_any _ _ _ _ _ (X.take cA) w9 HS.out.2.2.2.2.2.2.2 (by omega) HE.out.1 HE2.out).mono ?_
      rintro e w10 ⟨rfl, hb10⟩
      go_wp2_with fail
      refine (same_any _ _ _ _ _ [] w10 rfl (by decide) (.inl rfl) (.inl rfl)).mono ?_
      rintro e w11 ⟨rfl, hb11⟩
      go_wp2
      go_ret
      exact ⟨rfl, (hb19.trans (hb10.mono hb19.size)).trans (hb11.mono (Nat.le_trans hb19.size hb10.size))⟩
    · have HD1 : Hid (∀ w', Below w9.heap.size w9 w' → Rd .i64 w' (some ⟨gA, kk, none⟩) (X.drop kk)) := fun w' h => (HD.out w' h).1 hce
      clear HD
      go_wp2_with fail
      refine (same_any _ _ _ _ _ (X.take kk) w9 HS.out.2.2.2.2.2.2.2 (by omega) HE.out.1 HE2.out).mono ?_
      rintro e w10 ⟨rfl, hb10⟩
      go_wp2_with fail
      refine (same_any _ _ _ _ _ (X.drop kk) w10 HT.out.2 (by omega) (HE.out.2.1.below hb10) (HD1.out w10 hb10)).mono ?_
      rintro e w11 ⟨rfl, hb11⟩
      go_wp2
      go_ret
      exact ⟨rfl, (hb19.trans (hb10.mono hb19.size)).trans (hb11.mono (Nat.le_trans hb19.size hb10.size))⟩

theorem own : ownKnob Try.prog.godebug = none := by kernel_rfl
theorem laidOut : laidOutB Try.prog = true := by kernel_rfl

theorem all64_of {l : List Int} (h : ∀ n ∈ l, (Lit.int .i64 n).wf = true) : All64 l := by
  intro k
  by_cases hk : k < l.length
  · have e : l.getD k 0 = l[k] := by simp [List.getD, hk]
    rw [e]; exact bounds_i64 (h _ (List.getElem_mem hk))
  · have e : l.getD k 0 = 0 := by simp [List.getD, show l[k]? = none from List.getElem?_eq_none (by omega)]
    rw [e]; decide

theorem walk (a0 : Option Addr) (len0 cap0 : Nat) (z0 : List Int) (a1 : Option Addr) (len1 cap1 : Nat) (z1 : List Int) (a2 : Int) (w : World) (w0 : IsRow .i64 w a0 len0 cap0 z0) (w1 : IsRow .i64 w a1 len1 cap1 z1) (w2 : (Lit.int .i64 a2).wf = true) :
    Calls Try.prog 7 #[.slice a0 len0 cap0, .slice a1 len1 cap1, .int .i64 a2] w fun e w' => e = .returned (.bool true) ∧ Below w.heap.size w w' := by
  obtain ⟨hr0, hl0, hn0, hc0, hm0, hw0⟩ := row_rd w0
  obtain ⟨hr1, hl1, hn1, hc1, hm1, hw1⟩ := row_rd w1
  by_cases h0 : len0 ≤ 500
  · by_cases h1 : len1 ≤ 500
    · exact core a0 len0 cap0 _ a1 len1 cap1 _ a2 w hl0 h0 hr0 (all64_of hw0) hn0 hl1 h1 hr1 (all64_of hw1) hn1 (bounds_i64 w2)
    · have e2 : len1 ≤ 9223372036854775807 := by unfold maxLen at hm1; omega
      have g1 : ¬ (500 : Int) < (len0 : Int) := by omega
      have g2 : (500 : Int) < (len1 : Int) := by omega
      clear hr0 hl0 hc0 hm0 hw0 hr1 hl1 hn1 hc1 hm1 hw1 hn0 w0 w1
      go_enter Try.func7, Try.ntmps7
      go_wp2_with fail
      refine (awake_any _).mono ?_
      rintro e w1 ⟨rfl, hb1⟩
      go_wp2
      go_ret
      exact ⟨rfl, hb1⟩
  · have e2 : len0 ≤ 9223372036854775807 := by unfold maxLen at hm0; omega
    have g1 : (500 : Int) < (len0 : Int) := by omega
    clear hr0 hl0 hc0 hm0 hw0 hr1 hl1 hn1 hc1 hm1 hw1 hn0 w0 w1
    go_enter Try.func7, Try.ntmps7
    go_wp2_with fail
    refine (awake_any _).mono ?_
    rintro e w1 ⟨rfl, hb1⟩
    go_wp2
    go_ret
    exact ⟨rfl, hb1⟩

set_option maxRecDepth 100000 in
theorem lifted (os : Os) (started : os.Started) (H : Type) (enc : TypeId × Value → H) :
    ReturnsInHanded {} Try.checked os 7 .any (Rows.varintJoinSpec.pre6 enc Try.prog Try.f7 Rows.varintJoinRow.domain false) (Rows.varintJoinSpec.post enc Try.prog Try.f7 false true false false) := by
  refine returnsInHanded_of_change (C := Try.checked) own started (by kernel_rfl) Try.func7
    (ChangeSpec.witness6 (enc := enc) (C := Try.checked) false ⟨#[], #[.slice none 0 0, .slice none 0 0, .int .i64 0], []⟩ 8 (by kernel_rfl) (by kernel_rfl) (by kernel_rfl) (by kernel_rfl)) ?_
  intro W base args ds gs before hval0 hW hcnd _
  have hval : ∀ (j : Nat) t v, Try.f7.params[j]? = some t → args[j]? = some v → Value.okWide Try.prog W .any base t v := hval0
  have hW' := hW
  obtain ⟨p, q, hA0, hV, rfl, hfz, hnd⟩ := hW
  have hA : DataW.TrodAll enc Try.prog W 0 (fun _ => true) true Try.f7.params.toList args.toList ds p := hA0
  rw [Try.params7] at hA hval
  obtain ⟨v0, vs0, d0, ds0, p0, q0, hargs, rfl, rfl, h0, r0⟩ := trodAll_cons hA
  obtain ⟨v1, vs1, d1, ds1, p1, q1, rfl, rfl, rfl, h1, r1⟩ := trodAll_cons r0
  obtain ⟨v2, vs2, d2, ds2, p2, q2, rfl, rfl, rfl, h2, r2⟩ := trodAll_cons r1
  obtain ⟨rfl, rfl, rfl⟩ := trodAll_nil r2
  obtain rfl : args = #[v0, v1, v2] := by cases args; simp_all
  obtain ⟨rfl, rfl⟩ := trodVars_none hV
  obtain ⟨a0, len0, cap0, rfl⟩ := okWide_slice Try.underlying31 (hval 0 31 v0 rfl rfl)
  have k0 := h0
  have lt0 : ∀ x ∈ p0, x.block < W.heap.size := by obtain ⟨m, hm⟩ := k0; exact DataW.trod_lt m _ _ _ hm
  obtain ⟨z0, w0⟩ : ∃ zs, IsRow .i64 W a0 len0 cap0 zs := by
    obtain ⟨fuel, hf⟩ := h0
    rcases open_ints Try.underlying31 Try.underlying2 (by kernel_rfl) hf with ⟨hcs, _⟩ | ⟨x, l, c, zs, hcs, _, hl, hm, hz, _, hcell, hwz⟩
    · simp [Value.cells] at hcs
      obtain ⟨rfl, rfl, rfl⟩ := hcs
      exact ⟨[], .inl ⟨rfl, rfl, rfl, rfl⟩⟩
    · simp [Value.cells] at hcs
      obtain ⟨rfl, rfl, rfl⟩ := hcs
      exact ⟨zs, .inr ⟨_, rfl, hl, hm, by simpa using hz, hcell, hwz⟩⟩
  obtain ⟨a1, len1, cap1, rfl⟩ := okWide_slice Try.underlying31 (hval 1 31 v1 rfl rfl)
  have k1 := h1
  have lt1 : ∀ x ∈ p1, x.block < W.heap.size := by obtain ⟨m, hm⟩ := k1; exact DataW.trod_lt m _ _ _ hm
  obtain ⟨z1, w1⟩ : ∃ zs, IsRow .i64 W a1 len1 cap1 zs := by
    obtain ⟨fuel, hf⟩ := h1
    rcases open_ints Try.underlying31 Try.underlying2 (by kernel_rfl) hf with ⟨hcs, _⟩ | ⟨x, l, c, zs, hcs, _, hl, hm, hz, _, hcell, hwz⟩
    · simp [Value.cells] at hcs
      obtain ⟨rfl, rfl, rfl⟩ := hcs
      exact ⟨[], .inl ⟨rfl, rfl, rfl, rfl⟩⟩
    · simp [Value.cells] at hcs
      obtain ⟨rfl, rfl, rfl⟩ := hcs
      exact ⟨zs, .inr ⟨_, rfl, hl, hm, by simpa using hz, hcell, hwz⟩⟩
  obtain ⟨a2, rfl, rfl, rfl, w2⟩ := open_int Try.underlying3 (hval 2 3 v2 rfl rfl) h2
  clear hA0 hval0
  refine (walk a0 len0 cap0 z0 a1 len1 cap1 z1 a2 W w0 w1 w2).mono fun e W' ⟨he, bel⟩ => ?_
  subst he
  exact ⟨_, rfl, _, _, _, [], _, [], hW', trodAll_mk1 (shut_bool Try.underlying4 _), (trodAll_cons_mk (Below.trod laidOut (by kernel_rfl) (of_decide_eq_true (by kernel_rfl)) k0 bel lt0) (trodAll_cons_mk (Below.trod laidOut (by kernel_rfl) (of_decide_eq_true (by kernel_rfl)) k1 bel lt1) (trodAll_cons_mk (shut_int Try.underlying3 w2) trodAll_mk0))), rfl, bel.frame _, fun h => by cases h⟩

theorem over : Rows.varintJoinRow.holds Try.pinned (OpenSpec.ofChange Rows.varintJoinSpec) :=
  OpenClaim.holds_of_wide 7 Try.f7 rfl rfl rfl rfl rfl rfl rfl ⟨rfl, rfl, rfl, rfl, rfl⟩ rfl rfl rfl rfl rfl (by kernel_rfl) Try.func7 (by kernel_rfl)
    (of_decide_eq_true (by kernel_rfl)) (by unfold Func.isWrapper; first | (rw [if_pos (by decide +kernel)]; kernel_rfl) | (rw [if_neg (by decide +kernel)]; exact ⟨rfl, rfl⟩))
    (fun os started H enc _ => lifted os started H enc)

end varintJoin
theorem join_holds : Rows.VarintJoinSaid := varintJoin.over
#print axioms join_holds
end Go.Proofs.Ytndefppbkepikaa
