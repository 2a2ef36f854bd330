/- The statement VarintBack holds: what was put is taken, one by one and all at once, and what lies behind is left. No conditions: every slice of int64, every uint64, every slice of bytes. -/
import Derived.Test.YtndefppbkepikaaJ
import Derived.Test.YtndefppbkepikaaO
import Derived.OpenShut
import Derived.ShutString
import Derived.ChangeOld
namespace Go.Proofs.Ytndefppbkepikaa
namespace varintBack
open Go.ChangeShapes Go.WideShapes Go.ChangeAt Go.RowKit
open Go.ChangeMaps (open_string shut_string)
set_option linter.unusedVariables false

theorem getD_take (l : List Int) (m i : Nat) (h : i < m) : (l.take m).getD i 0 = l.getD i 0 := by simp [List.getD, h]
theorem rd_take {k : IntKind} {w : World} {a : Option Addr} {zs : List Int} (h : Rd k w a zs) (m : Nat) : Rd k w a (zs.take m) := by
  rcases h with rfl | ⟨b, off, h1, h2, h3⟩
  · exact .inl (by simp)
  · refine .inr ⟨b, off, h1, h2, fun i hi => ?_⟩
    simp only [List.length_take] at hi
    rw [getD_take _ _ _ (by omega)]
    exact h3 i (by omega)

set_option maxHeartbeats 3200000 in
theorem core (al : Option Addr) (n capl : Nat) (ls : List Int) (u : Nat) (ab : Option Addr) (nb capb : Nat) (bh : List Int) (w : World) (hu : u < 18446744073709551616)
    (hl : ls.length = n) (hn : n ≤ 1000) (hrl : Rd .i64 w al ls) (h64 : All64 ls) (hb : bh.length = nb) (hnb : nb ≤ 1000) (hrb : Rd .u8 w ab bh) (hnil : ab = none → capb = 0 ∧ nb = 0) :
    Calls Try.prog 4 #[.slice al n capl, .int .u64 (u : Int), .slice ab nb capb] w fun e w' => e = .returned (.bool true) ∧ Below w.heap.size w w' := by
  have HA : Hid (ls.length = n ∧ Rd .i64 w al ls ∧ All64 ls ∧ bh.length = nb ∧ Rd .u8 w ab bh ∧ (ab = none → capb = 0 ∧ nb = 0)) := ⟨hl, hrl, h64, hb, hrb, hnil⟩
  clear hl hrl h64 hb hrb hnil
  have g1 : ¬ (1000 : Int) < (n : Int) := by omega
  have g2 : ¬ (1000 : Int) < (nb : Int) := by omega
  have hbp := bs_pos u
  have hbl := bs_le10 hu
  go_enter Try.func4, Try.ntmps4
  go_wp2_with fail
  refine (awake_any _).mono ?_
  rintro e w1 ⟨rfl, hb1⟩
  go_wp2_with fail
  refine (put_any none 0 0 [] u w1 hu rfl (.inl rfl) (by decide)).mono ?_
  rintro e w2 ⟨v2, rfl, ho2, hb2⟩
  rw [Nat.zero_add, List.nil_append] at ho2
  obtain ⟨g2', c2, rfl, _, hg2, hc2, hm2⟩ := own_some ho2 (by omega)
  have hcells := own_cells ho2
  have hrd2 : Rd .u8 w2 (some ⟨g2', 0, none⟩) (bs u) := own_rd ho2
  clear ho2
  go_wp2_with fail
  have h3 := take_ok g2' 0 c2 u [] w2 hu hg2 (by rw [List.append_nil]; exact hcells) (by rw [List.append_nil]; exact hc2) hm2 (by decide)
  rw [List.append_nil] at h3
  refine h3.mono ?_
  clear h3
  rintro e w3 ⟨h3, rfl, _, hb3⟩
  have HP : Hid (Rd .u8 w3 (some ⟨g2', 0, none⟩) (bs u)) := hrd2.below hb3
  clear hcells hrd2
  have hm2' : c2 ≤ 9223372036854775807 := by unfold maxLen at hm2; omega
  clear hm2
  go_wp2_with fail
  have h4 := take_short (some ⟨g2', 0, none⟩) c2 ((bs u).take ((bs u).length - 1)) w3 (rd_take HP.out _) (by simp; omega) (by
    intro i hi
    simp only [List.length_take] at hi
    have := (bs_facts hu).1 i (by omega)
    rw [getD_take _ _ _ (by omega)]; exact this)
  rw [List.length_take, Nat.min_eq_left (by omega)] at h4
  refine h4.mono ?_
  clear h4
  rintro e w4 ⟨rfl, rfl⟩
  have hb14 : Below w.heap.size w w4 := (hb1.trans (hb2.mono hb1.size)).trans (hb3.mono (Nat.le_trans hb1.size hb2.size))
  obtain ⟨i0, hi, hz0, hz1, hz2⟩ := info_parts Try.info5
  have hzl : (zbs ls).length ≤ 10 * n := by
    have := zbs_len ls HA.out.2.2.1 n (by have := HA.out.1; omega)
    rwa [List.take_of_length_le (by have := HA.out.1; omega)] at this
  clear hb1 hb2 hb3
  go_wp2_with (first
    | (go_at_call 17; refine (putall_any (some ⟨g2', 0, none⟩) (bs u).length c2 (bs u) al n capl ls w4 rfl HP.out (by omega) HA.out.1 (by omega) (HA.out.2.1.below hb14) HA.out.2.2.1).mono ?_; rintro e w5 ⟨g5, c5, rfl, ho5, hb5⟩)
    | (at_builtin; refine wpList_append_any _ rfl (.tmp 53) (.tmp 54) 23 rfl w4.heap.size 5 i0 (.int .u8 0) 1 Try.underlying23 hi hz0 hz1 hz2 rfl _ _ _ rfl ho5 ab nb capb (bh.map (Value.int .u8)) rfl (by simp [HA.out.2.2.2.1]) HA.out.2.2.2.2.2 (rd_any ((HA.out.2.2.2.2.1.below hb14).below hb5)) (ints_oneCell _ _) (by unfold maxLen; omega) (by omega) hb5.size ?_; intro v6 w6 ho6 hg6)
    | fail)
  have eN : (bs u ++ (zbs ls ++ bh)).length = (bs u).length + (zbs ls).length + nb := by
    rw [List.length_append, List.length_append, HA.out.2.2.2.1]; omega
  have ho6' : w6.ownsRow w4.heap.size 5 1 v6 ((bs u).length + (zbs ls).length + nb) ((bs u ++ (zbs ls ++ bh)).map (Value.int .u8)) := by
    rw [← List.append_assoc, List.map_append]; exact ho6
  clear ho6
  obtain ⟨g6, c6, rfl, _, hg6', hc6, hm6⟩ := own_some ho6' (by omega)
  have hb56 : Below w.heap.size w w6 := by
    refine (hb14.trans (hb5.mono hb14.size)).grown hg6 (Nat.le_trans hb14.size hb5.size) (fun k hk => ?_)
    exact Nat.le_trans hb14.size (ho5.lt k hk).1
  have h7 := take_ok g6 0 c6 u (zbs ls ++ bh) w6 hu hg6' (own_cells ho6') (by rw [eN]; exact hc6) hm6 (by rw [List.length_append, HA.out.2.2.2.1]; omega)
  rw [eN] at h7
  obtain ⟨R, hR⟩ : ∃ R, (zbs ls ++ bh).length = R := ⟨_, rfl⟩
  have HR : Hid ((zbs ls ++ bh).length = R ∧ R ≤ 11000) := ⟨hR, by rw [← hR, List.length_append, HA.out.2.2.2.1]; omega⟩
  rw [hR] at h7
  clear hR
  refine h7.mono ?_
  clear h7 ho6' hg6 ho5 hb5 hb14 HP hg6' hc6 hm6 eN
  rintro e w7 ⟨h7, rfl, ho7, hb7⟩
  go_wp2_with fail
  have h8 := takeall_ok h7 0 R ls bh HA.out.2.2.1 (by have := HA.out.1; omega) w7 (ho7.lt h7 rfl).2 (by rw [HR.out.1]; exact Nat.le_refl _) (by rw [HR.out.1]; have := HR.out.2; omega) (own_cells ho7)
  rw [HR.out.1, HA.out.1, HA.out.2.2.2.1] at h8
  refine h8.mono ?_
  clear h8
  rintro e w8 ⟨v8, h8, rfl, hov, hoh, hb8⟩
  obtain ⟨a8, c8, rfl, hr8⟩ := own_form hov
  have hb78 : Below w.heap.size w w8 := (hb56.trans (hb7.mono hb56.size)).trans (hb8.mono (Nat.le_trans hb56.size hb7.size))
  have hrh : Rd .u8 w8 (some ⟨h8, 0, none⟩) bh := own_rd hoh
  obtain ⟨sB, hsB⟩ : ∃ sB, strOfNums bh = sB := ⟨_, rfl⟩
  have HF : Hid (Rd .i64 w8 a8 ls ∧ Rd .u8 w8 (some ⟨h8, 0, none⟩) bh ∧ strOfNums bh = sB) := ⟨hr8, hrh, hsB⟩
  clear hov hoh hr8 hrh hsB ho7 hb56 hb7 hb8
  go_wp2_with (go_at_call 19; refine (same_any a8 al n c8 capl ls w8 HA.out.1 (by omega) HF.out.1 (HA.out.2.1.below hb78)).mono ?_; rintro e w9 ⟨rfl, hb9⟩; have hcv1 : Sem.run Try.prog (convert 23 9 (.slice (some ⟨h8, 0, none⟩) nb nb)) w9 = .ok (.string sB) w9 := (by rw [← HF.out.2.2]; exact conv_rd w9 _ _ _ _ HA.out.2.2.2.1 (HF.out.2.1.below hb9)); have hcv2 : Sem.run Try.prog (convert 23 9 (.slice ab nb capb)) w9 = .ok (.string sB) w9 := (by rw [← HF.out.2.2]; exact conv_rd w9 _ _ _ _ HA.out.2.2.2.1 ((HA.out.2.2.2.2.1.below hb78).below hb9)))
  go_ret
  exact ⟨rfl, hb78.trans (hb9.mono hb78.size)⟩

theorem own : ownKnob Try.prog.godebug = none := by kernel_rfl
theorem laidOut : laidOutB Try.prog = true := by kernel_rfl

theorem all64_of {l : List Int} (h : ∀ n ∈ l, (Lit.int .i64 n).wf = true) : All64 l := by
  intro k
  by_cases hk : k < l.length
  · have e : l.getD k 0 = l[k] := by simp [List.getD, hk]
    rw [e]; exact bounds_i64 (h _ (List.getElem_mem hk))
  · have e : l.getD k 0 = 0 := by simp [List.getD, show l[k]? = none from List.getElem?_eq_none (by omega)]
    rw [e]; decide

theorem walk (a0 : Option Addr) (len0 cap0 : Nat) (z0 : List Int) (a1 : Int) (a2 : Option Addr) (len2 cap2 : Nat) (z2 : List Int) (w : World) (w0 : IsRow .i64 w a0 len0 cap0 z0) (w1 : (Lit.int .u64 a1).wf = true) (w2 : IsRow .u8 w a2 len2 cap2 z2) :
    Calls Try.prog 4 #[.slice a0 len0 cap0, .int .u64 a1, .slice a2 len2 cap2] w fun e w' => e = .returned (.bool true) ∧ Below w.heap.size w w' := by
  obtain ⟨u0, u1⟩ := bounds_u64 w1
  obtain ⟨u, rfl⟩ := Int.eq_ofNat_of_zero_le u0
  obtain ⟨hr0, hl0, _, hc0, hm0, hw0⟩ := row_rd w0
  obtain ⟨hr2, hl2, hn2, hc2, hm2, _⟩ := row_rd w2
  by_cases h0 : len0 ≤ 1000
  · by_cases h2 : len2 ≤ 1000
    · exact core a0 len0 cap0 _ u a2 len2 cap2 _ w (by omega) hl0 h0 hr0 (all64_of hw0) hl2 h2 hr2 hn2
    · have e2 : len2 ≤ 9223372036854775807 := by unfold maxLen at hm2; omega
      have g1 : ¬ (1000 : Int) < (len0 : Int) := by omega
      have g2 : (1000 : Int) < (len2 : Int) := by omega
      clear hr0 hl0 hc0 hm0 hw0 hr2 hl2 hn2 hc2 hm2 w0 w2
      go_enter Try.func4, Try.ntmps4
      go_wp2_with fail
      refine (awake_any _).mono ?_
      rintro e w1 ⟨rfl, hb1⟩
      go_wp2
      go_ret
      exact ⟨rfl, hb1⟩
  · have e2 : len0 ≤ 9223372036854775807 := by unfold maxLen at hm0; omega
    have g1 : (1000 : Int) < (len0 : Int) := by omega
    clear hr0 hl0 hc0 hm0 hw0 hr2 hl2 hn2 hc2 hm2 w0 w2
    go_enter Try.func4, Try.ntmps4
    go_wp2_with fail
    refine (awake_any _).mono ?_
    rintro e w1 ⟨rfl, hb1⟩
    go_wp2
    go_ret
    exact ⟨rfl, hb1⟩

set_option maxRecDepth 100000 in
theorem lifted (os : Os) (started : os.Started) (H : Type) (enc : TypeId × Value → H) :
    ReturnsInHanded {} Try.checked os 4 .any (Rows.varintBackSpec.pre6 enc Try.prog Try.f4 Rows.varintBackRow.domain false) (Rows.varintBackSpec.post enc Try.prog Try.f4 false true false false) := by
  refine returnsInHanded_of_change (C := Try.checked) own started (by kernel_rfl) Try.func4
    (ChangeSpec.witness6 (enc := enc) (C := Try.checked) false ⟨#[], #[.slice none 0 0, .int .u64 0, .slice none 0 0], []⟩ 8 (by kernel_rfl) (by kernel_rfl) (by kernel_rfl) (by kernel_rfl)) ?_
  intro W base args ds gs before hval0 hW hcnd _
  have hval : ∀ (j : Nat) t v, Try.f4.params[j]? = some t → args[j]? = some v → Value.okWide Try.prog W .any base t v := hval0
  have hW' := hW
  obtain ⟨p, q, hA0, hV, rfl, hfz, hnd⟩ := hW
  have hA : DataW.TrodAll enc Try.prog W 0 (fun _ => true) true Try.f4.params.toList args.toList ds p := hA0
  rw [Try.params4] at hA hval
  obtain ⟨v0, vs0, d0, ds0, p0, q0, hargs, rfl, rfl, h0, r0⟩ := trodAll_cons hA
  obtain ⟨v1, vs1, d1, ds1, p1, q1, rfl, rfl, rfl, h1, r1⟩ := trodAll_cons r0
  obtain ⟨v2, vs2, d2, ds2, p2, q2, rfl, rfl, rfl, h2, r2⟩ := trodAll_cons r1
  obtain ⟨rfl, rfl, rfl⟩ := trodAll_nil r2
  obtain rfl : args = #[v0, v1, v2] := by cases args; simp_all
  obtain ⟨rfl, rfl⟩ := trodVars_none hV
  obtain ⟨a0, len0, cap0, rfl⟩ := okWide_slice Try.underlying31 (hval 0 31 v0 rfl rfl)
  have k0 := h0
  have lt0 : ∀ x ∈ p0, x.block < W.heap.size := by obtain ⟨m, hm⟩ := k0; exact DataW.trod_lt m _ _ _ hm
  obtain ⟨z0, w0⟩ : ∃ zs, IsRow .i64 W a0 len0 cap0 zs := by
    obtain ⟨fuel, hf⟩ := h0
    rcases open_ints Try.underlying31 Try.underlying2 (by kernel_rfl) hf with ⟨hcs, _⟩ | ⟨x, l, c, zs, hcs, _, hl, hm, hz, _, hcell, hwz⟩
    · simp [Value.cells] at hcs
      obtain ⟨rfl, rfl, rfl⟩ := hcs
      exact ⟨[], .inl ⟨rfl, rfl, rfl, rfl⟩⟩
    · simp [Value.cells] at hcs
      obtain ⟨rfl, rfl, rfl⟩ := hcs
      exact ⟨zs, .inr ⟨_, rfl, hl, hm, by simpa using hz, hcell, hwz⟩⟩
  obtain ⟨a1, rfl, rfl, rfl, w1⟩ := open_int Try.underlying22 (hval 1 22 v1 rfl rfl) h1
  obtain ⟨a2, len2, cap2, rfl⟩ := okWide_slice Try.underlying23 (hval 2 23 v2 rfl rfl)
  have k2 := h2
  have lt2 : ∀ x ∈ p2, x.block < W.heap.size := by obtain ⟨m, hm⟩ := k2; exact DataW.trod_lt m _ _ _ hm
  obtain ⟨z2, w2⟩ : ∃ zs, IsRow .u8 W a2 len2 cap2 zs := by
    obtain ⟨fuel, hf⟩ := h2
    rcases open_ints Try.underlying23 Try.underlying5 (by kernel_rfl) hf with ⟨hcs, _⟩ | ⟨x, l, c, zs, hcs, _, hl, hm, hz, _, hcell, hwz⟩
    · simp [Value.cells] at hcs
      obtain ⟨rfl, rfl, rfl⟩ := hcs
      exact ⟨[], .inl ⟨rfl, rfl, rfl, rfl⟩⟩
    · simp [Value.cells] at hcs
      obtain ⟨rfl, rfl, rfl⟩ := hcs
      exact ⟨zs, .inr ⟨_, rfl, hl, hm, by simpa using hz, hcell, hwz⟩⟩
  clear hA0 hval0
  refine (walk a0 len0 cap0 z0 a1 a2 len2 cap2 z2 W w0 w1 w2).mono fun e W' ⟨he, bel⟩ => ?_
  subst he
  exact ⟨_, rfl, _, _, _, [], _, [], hW', trodAll_mk1 (shut_bool Try.underlying4 _), (trodAll_cons_mk (Below.trod laidOut (by kernel_rfl) (of_decide_eq_true (by kernel_rfl)) k0 bel lt0) (trodAll_cons_mk (shut_int Try.underlying22 w1) (trodAll_cons_mk (Below.trod laidOut (by kernel_rfl) (of_decide_eq_true (by kernel_rfl)) k2 bel lt2) trodAll_mk0))), rfl, bel.frame _, fun h => by cases h⟩

theorem over : Rows.varintBackRow.holds Try.pinned (OpenSpec.ofChange Rows.varintBackSpec) :=
  OpenClaim.holds_of_wide 4 Try.f4 rfl rfl rfl rfl rfl rfl rfl ⟨rfl, rfl, rfl, rfl, rfl⟩ rfl rfl rfl rfl rfl (by kernel_rfl) Try.func4 (by kernel_rfl)
    (of_decide_eq_true (by kernel_rfl)) (by unfold Func.isWrapper; first | (rw [if_pos (by decide +kernel)]; kernel_rfl) | (rw [if_neg (by decide +kernel)]; exact ⟨rfl, rfl⟩))
    (fun os started H enc _ => lifted os started H enc)

end varintBack
theorem back_holds : Rows.VarintBackSaid := varintBack.over
#print axioms back_holds
end Go.Proofs.Ytndefppbkepikaa
