/- The statement VarintTurns holds: a number turned, turned back, its size and its bytes are the document's, and what was there stays. No conditions: every int64, every uint64, every slice of bytes. -/
import Derived.Test.YtndefppbkepikaaH
import Derived.OpenShut
import Derived.ShutString
import Derived.ChangeOld
namespace Go.Proofs.Ytndefppbkepikaa
namespace varintTurns
open Go.ChangeShapes Go.WideShapes Go.ChangeAt Go.RowKit
open Go.ChangeMaps (open_string shut_string)
set_option linter.unusedVariables false

theorem rd_any {k : IntKind} {w : World} {a : Option Addr} {zs : List Int} (h : Rd k w a zs) : ∀ ad, a = some ad → ∀ j u, (zs.map (Value.int k))[j]? = some u → w.cell? (ad.add j) = some u := by
  intro ad had j u hu
  have hj : j < zs.length := by simpa using (List.getElem?_eq_some_iff.1 hu).1
  obtain ⟨ad', h1, h2⟩ := h.at (by simp; omega)
  rw [had] at h1
  cases h1
  exact h2 j u hu
theorem lit777 (w : World) : ∀ j u, [Value.int .u8 7, .int .u8 7, .int .u8 7][j]? = some u → (w.alloc (.cells #[.int .u8 7, .int .u8 7, .int .u8 7] 5)).cell? ((⟨w.heap.size, 0, none⟩ : Addr).add j) = some u := by
  intro j u hj
  match j, hj with
  | 0, hj => simp at hj; subst hj; simp [Addr.add]
  | 1, hj => simp at hj; subst hj; simp [Addr.add]
  | 2, hj => simp at hj; subst hj; simp [Addr.add]
theorem lit777_one : ∀ u ∈ [Value.int .u8 7, .int .u8 7, .int .u8 7], u.oneCell' = true := by
  intro u hu; simp at hu; subst hu; rfl

set_option maxHeartbeats 3200000 in
theorem core (n : Int) (u : Nat) (a : Option Addr) (len cap : Nat) (zs : List Int) (w : World) (n0 : -9223372036854775808 ≤ n) (n1 : n ≤ 9223372036854775807) (hu : u < 18446744073709551616)
    (hz : zs.length = len) (hlen : len ≤ 1000) (hr : Rd .u8 w a zs) (hnil : a = none → cap = 0 ∧ len = 0) (s1 s2 s3 s4 : ByteArray) (h12 : s1 ++ s2 = s3) (h14 : s1 ++ ⟨#[7, 7, 7]⟩ = s4) (hs1 : strOfNums zs = s1) (hs2 : strOfNums (bs u) = s2) (hs3 : strOfNums (zs ++ bs u) = s3)
    (hs4 : strOfNums (zs ++ [7, 7, 7]) = s4) :
    Calls Try.prog 3 #[.int .i64 n, .int .u64 (u : Int), .slice a len cap] w fun e w' => e = .returned (.bool true) ∧ Below w.heap.size w w' := by
  obtain ⟨i0, hi, hz0, hz1, hz2⟩ := info_parts Try.info5
  have HA : Hid (Rd .u8 w a zs ∧ zs.length = len ∧ (a = none → cap = 0 ∧ len = 0)) := ⟨hr, hz, hnil⟩
  have HS : Hid (strOfNums zs = s1 ∧ strOfNums (bs u) = s2 ∧ strOfNums (zs ++ bs u) = s3 ∧ strOfNums (zs ++ [7, 7, 7]) = s4 ∧ s1 ++ s2 = s3 ∧ s1 ++ ⟨#[7, 7, 7]⟩ = s4) := ⟨hs1, hs2, hs3, hs4, h12, h14⟩
  clear hr hz hs1 hs2 hs3 hs4 hnil h12 h14
  have hn : ¬ (1000 : Int) < (len : Int) := by omega
  go_enter Try.func3, Try.ntmps3
  go_wp2_with fail
  refine (awake_any _).mono ?_
  rintro e w1 ⟨rfl, hb1⟩
  have hcv : Sem.run Try.prog (convert 23 9 (.slice a len cap)) w1 = .ok (.string s1) w1 := by
    rw [← HS.out.1]; exact conv_rd w1 a cap len zs HA.out.2.1 (HA.out.1.below hb1)
  go_wp2_with (first
    | (at_make; refine wpList_make_own _ rfl (.const (.int .i64 0)) (.tmp 22) 23 rfl w1.heap.size 5 i0 (.int .u8 0) 1 Try.underlying23 hi hz0 hz1 .i64 .i64 _ (len + 20) rfl rfl (by omega) (by rw [hz2]; omega) (by unfold maxLen; omega) (Nat.le_refl _) ?_; intro w2 ho2 hg2)
    | (at_builtin; refine wpList_append_fits_any _ rfl (.tmp 23) (.tmp 24) 23 rfl w1.heap.size 5 i0 1 Try.underlying23 hi hz1 w1.heap.size 0 (len + 20) [] rfl ho2 a len cap (zs.map (Value.int .u8)) rfl (by simp [HA.out.2.1]) (fun h => (HA.out.2.2 h).symm) (rd_any ((HA.out.1.below hb1).below ((Below.refl _ _).grown hg2 (Nat.le_refl _) (fun k hk => by cases hk)))) (ints_oneCell _ _) (by omega) ?_; intro w3 ho3 hg3; simp only [Nat.zero_add, List.nil_append] at ho3)
    | (at_builtin; refine wpList_append_fits _ rfl (.tmp 25) (.tmp 26) 23 rfl w1.heap.size 5 i0 1 Try.underlying23 hi hz1 w1.heap.size len (len + 20) (zs.map (Value.int .u8)) rfl (ho3.alloc _) ⟨w3.heap.size, 0, none⟩ 3 3 [.int .u8 7, .int .u8 7, .int .u8 7] rfl rfl (lit777 w3) lit777_one (by omega) ?_; intro w4 ho4 hg4)
    | fail)
  clear hcv
  have hbl := bs_le10 hu
  have hbp := bs_pos u
  have ho4' : w4.ownsRow w1.heap.size 5 1 (.slice (some ⟨w1.heap.size, 0, none⟩) (len + 3) (len + 20)) (len + 3) ((zs ++ [7, 7, 7]).map (Value.int .u8)) := by
    rw [List.map_append]; exact ho4
  have hb4 : Below w1.heap.size w1 w4 := by
    have b2 : Below w1.heap.size w1 w2 := (Below.refl _ _).grown hg2 (Nat.le_refl _) (fun k hk => by cases hk)
    have b3 : Below w1.heap.size w1 w3 := b2.grown hg3 b2.size (fun k hk => by cases hk; exact Nat.le_refl _)
    exact (b3.alloc b3.size _).grown hg4 (by have := b3.size; simp; omega) (fun k hk => by cases hk; exact Nat.le_refl _)
  have hroom : Rd .u8 w4 (some ⟨w1.heap.size, 0, none⟩) (zs ++ [7, 7, 7]) := own_rd ho4'
  have hfront : Rd .u8 w4 (some ⟨w1.heap.size, 0, none⟩) zs := by
    rcases hroom with h | ⟨b, off, h1, h2, h3⟩
    · simp at h
    · exact .inr ⟨b, off, h1, h2, cells_app_left h3⟩
  clear ho2 hg2 ho3 hg3 ho4 hg4 ho4'
  have HR : Hid (Rd .u8 w4 (some ⟨w1.heap.size, 0, none⟩) (zs ++ [7, 7, 7])) := hroom
  clear hroom
  refine (put_any (some ⟨w1.heap.size, 0, none⟩) len (len + 20) zs u w4 hu HA.out.2.1 hfront (by omega)).mono ?_
  rintro e w5 ⟨v5, rfl, ho5, hb5⟩
  obtain ⟨g5, cap5, rfl, _, _, _, _⟩ := own_some ho5 (by omega)
  have H5 : Hid (Rd .u8 w5 (some ⟨g5, 0, none⟩) (zs ++ bs u)) := own_rd ho5
  clear ho5 hfront
  go_wp2_with fail
  refine (refbytes_any u w5 hu).mono ?_
  rintro e w6 ⟨v6, rfl, ho6, hb6⟩
  obtain ⟨g6, cap6, rfl, _, _, _, _⟩ := own_some ho6 (by omega)
  have hcvr : Sem.run Try.prog (convert 23 9 (.slice (some ⟨w1.heap.size, 0, none⟩) (len + 3) (len + 20))) w6 = .ok (.string s4) w6 := by
    rw [← HS.out.2.2.2.1]; exact conv_rd w6 _ _ _ _ (by simp [HA.out.2.1]) ((HR.out.below hb5).below hb6)
  have hcvp : Sem.run Try.prog (convert 23 9 (.slice (some ⟨g5, 0, none⟩) (len + (bs u).length) cap5)) w6 = .ok (.string s3) w6 := by
    rw [← HS.out.2.2.1]; exact conv_rd w6 _ _ _ _ (by simp [HA.out.2.1]) (H5.out.below hb6)
  have hcvw : Sem.run Try.prog (convert 23 9 (.slice (some ⟨g6, 0, none⟩) (bs u).length cap6)) w6 = .ok (.string s2) w6 := by
    rw [← HS.out.2.1]; exact conv_rd w6 _ _ _ _ rfl (own_rd ho6)
  have hz1' : s1.size = len := by rw [← HS.out.1, strOfNums_size]; exact HA.out.2.1
  have hz2' : s2.size = (bs u).length := by rw [← HS.out.2.1, strOfNums_size]
  have h12 := HS.out.2.2.2.2.1
  have h14 := HS.out.2.2.2.2.2
  have hb7 : Below w.heap.size w w6 := (hb1.trans (hb4.mono hb1.size)).trans ((hb5.trans (hb6.mono hb5.size)).mono (Nat.le_trans hb1.size hb4.size))
  clear ho6 hb1 hb4 hb5 hb6 HR H5 HA HS
  go_wp2_with (first
    | (go_at_call 11; refine (zig_any n n0 n1 _).mono ?_; rintro e w7 ⟨rfl, rfl⟩)
    | (go_at_call 12; refine (refzig_any n n0 n1 _).mono ?_; rintro e w7 ⟨rfl, rfl⟩)
    | (go_at_call 13; refine (zag_any u (by omega) (by omega) _).mono ?_; rintro e w7 ⟨rfl, rfl⟩)
    | (go_at_call 14; refine (refzag_any u (by omega) (by omega) _).mono ?_; rintro e w7 ⟨rfl, rfl⟩)
    | (go_at_call 15; refine (size_any u hu _).mono ?_; rintro e w7 ⟨rfl, rfl⟩))
  go_ret
  exact ⟨rfl, hb7⟩

theorem own : ownKnob Try.prog.godebug = none := by kernel_rfl
theorem laidOut : laidOutB Try.prog = true := by kernel_rfl

theorem walk (a0 : Int) (a1 : Int) (a2 : Option Addr) (len2 cap2 : Nat) (z2 : List Int) (w : World) (w0 : (Lit.int .i64 a0).wf = true) (w1 : (Lit.int .u64 a1).wf = true) (w2 : IsRow .u8 w a2 len2 cap2 z2) :
    Calls Try.prog 3 #[.int .i64 a0, .int .u64 a1, .slice a2 len2 cap2] w fun e w' => e = .returned (.bool true) ∧ Below w.heap.size w w' := by
  obtain ⟨n0, n1⟩ := bounds_i64 w0
  obtain ⟨u0, u1⟩ := bounds_u64 w1
  obtain ⟨u, rfl⟩ := Int.eq_ofNat_of_zero_le u0
  obtain ⟨hr, hl, hnil, _, hcap, _⟩ := row_rd w2
  by_cases h : len2 ≤ 1000
  · exact core a0 u a2 len2 cap2 _ w n0 n1 (by omega) hl h hr hnil _ _ _ _ (str_append _ _) (by rw [← str_append]; rfl) rfl rfl rfl rfl
  · have hcap' : len2 ≤ 9223372036854775807 := by unfold maxLen at hcap; omega
    have hn : (1000 : Int) < (len2 : Int) := by omega
    clear hr hl hnil w2 hcap
    go_enter Try.func3, Try.ntmps3
    go_wp2_with fail
    refine (awake_any _).mono ?_
    rintro e w1 ⟨rfl, hb1⟩
    go_wp2
    go_ret
    exact ⟨rfl, hb1⟩

set_option maxRecDepth 100000 in
theorem lifted (os : Os) (started : os.Started) (H : Type) (enc : TypeId × Value → H) :
    ReturnsInHanded {} Try.checked os 3 .any (Rows.varintTurnsSpec.pre6 enc Try.prog Try.f3 Rows.varintTurnsRow.domain false) (Rows.varintTurnsSpec.post enc Try.prog Try.f3 false true false false) := by
  refine returnsInHanded_of_change (C := Try.checked) own started (by kernel_rfl) Try.func3
    (ChangeSpec.witness6 (enc := enc) (C := Try.checked) false ⟨#[], #[.int .i64 0, .int .u64 0, .slice none 0 0], []⟩ 8 (by kernel_rfl) (by kernel_rfl) (by kernel_rfl) (by kernel_rfl)) ?_
  intro W base args ds gs before hval0 hW hcnd _
  have hval : ∀ (j : Nat) t v, Try.f3.params[j]? = some t → args[j]? = some v → Value.okWide Try.prog W .any base t v := hval0
  have hW' := hW
  obtain ⟨p, q, hA0, hV, rfl, hfz, hnd⟩ := hW
  have hA : DataW.TrodAll enc Try.prog W 0 (fun _ => true) true Try.f3.params.toList args.toList ds p := hA0
  rw [Try.params3] at hA hval
  obtain ⟨v0, vs0, d0, ds0, p0, q0, hargs, rfl, rfl, h0, r0⟩ := trodAll_cons hA
  obtain ⟨v1, vs1, d1, ds1, p1, q1, rfl, rfl, rfl, h1, r1⟩ := trodAll_cons r0
  obtain ⟨v2, vs2, d2, ds2, p2, q2, rfl, rfl, rfl, h2, r2⟩ := trodAll_cons r1
  obtain ⟨rfl, rfl, rfl⟩ := trodAll_nil r2
  obtain rfl : args = #[v0, v1, v2] := by cases args; simp_all
  obtain ⟨rfl, rfl⟩ := trodVars_none hV
  obtain ⟨a0, rfl, rfl, rfl, w0⟩ := open_int Try.underlying2 (hval 0 2 v0 rfl rfl) h0
  obtain ⟨a1, rfl, rfl, rfl, w1⟩ := open_int Try.underlying22 (hval 1 22 v1 rfl rfl) h1
  obtain ⟨a2, len2, cap2, rfl⟩ := okWide_slice Try.underlying23 (hval 2 23 v2 rfl rfl)
  have k2 := h2
  have lt2 : ∀ x ∈ p2, x.block < W.heap.size := by obtain ⟨m, hm⟩ := k2; exact DataW.trod_lt m _ _ _ hm
  obtain ⟨z2, w2⟩ : ∃ zs, IsRow .u8 W a2 len2 cap2 zs := by
    obtain ⟨fuel, hf⟩ := h2
    rcases open_ints Try.underlying23 Try.underlying5 (by kernel_rfl) hf with ⟨hcs, _⟩ | ⟨x, l, c, zs, hcs, _, hl, hm, hz, _, hcell, hwz⟩
    · simp [Value.cells] at hcs
      obtain ⟨rfl, rfl, rfl⟩ := hcs
      exact ⟨[], .inl ⟨rfl, rfl, rfl, rfl⟩⟩
    · simp [Value.cells] at hcs
      obtain ⟨rfl, rfl, rfl⟩ := hcs
      exact ⟨zs, .inr ⟨_, rfl, hl, hm, by simpa using hz, hcell, hwz⟩⟩
  clear hA0 hval0
  refine (walk a0 a1 a2 len2 cap2 z2 W w0 w1 w2).mono fun e W' ⟨he, bel⟩ => ?_
  subst he
  exact ⟨_, rfl, _, _, _, [], _, [], hW', trodAll_mk1 (shut_bool Try.underlying4 _), (trodAll_cons_mk (shut_int Try.underlying2 w0) (trodAll_cons_mk (shut_int Try.underlying22 w1) (trodAll_cons_mk (Below.trod laidOut (by kernel_rfl) (of_decide_eq_true (by kernel_rfl)) k2 bel lt2) trodAll_mk0))), rfl, bel.frame _, fun h => by cases h⟩

theorem over : Rows.varintTurnsRow.holds Try.pinned (OpenSpec.ofChange Rows.varintTurnsSpec) :=
  OpenClaim.holds_of_wide 3 Try.f3 rfl rfl rfl rfl rfl rfl rfl ⟨rfl, rfl, rfl, rfl, rfl⟩ rfl rfl rfl rfl rfl (by kernel_rfl) Try.func3 (by kernel_rfl)
    (of_decide_eq_true (by kernel_rfl)) (by unfold Func.isWrapper; first | (rw [if_pos (by decide +kernel)]; kernel_rfl) | (rw [if_neg (by decide +kernel)]; exact ⟨rfl, rfl⟩))
    (fun os started H enc _ => lifted os started H enc)

end varintTurns
theorem turns_holds : Rows.VarintTurnsSaid := varintTurns.over
#print axioms turns_holds
end Go.Proofs.Ytndefppbkepikaa
