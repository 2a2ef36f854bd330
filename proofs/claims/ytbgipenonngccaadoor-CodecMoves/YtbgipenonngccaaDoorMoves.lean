/- For every row and number, a row all of whose numbers are moved by that number has the same differences: only its first number's bytes are others. CodecMoves returns true, and its arguments read as before. Conditions: the listed package variable starts as the program's text lays it (the card ties it). -/
import Derived.Test.YtbgipenonngccaaDoorOw
namespace Go.Proofs.YtbgipenonngccaaDoor
open Go.ChangeShapes Go.WideShapes Go.ChangeAt Go.RowKit Go.Lib

def mv (b : Int) (l : List Int) : List Int := l.map fun x => wrap64 (x + b)
theorem mv_length (b : Int) (l : List Int) : (mv b l).length = l.length := by simp [mv]
theorem mv_all (b : Int) (l : List Int) : All64 (mv b l) := all64_iff.2 fun x hx => by
  obtain ⟨y, _, rfl⟩ := List.mem_map.1 hx
  exact wrap_bd _
theorem dfs_mv (b : Int) : ∀ (l : List Int) (p : Int), dfs (wrap64 (p + b)) (mv b l) = dfs p l
  | [], _ => rfl
  | x :: l, p => by
    show dif (wrap64 (p + b)) (wrap64 (x + b)) :: dfs (wrap64 (x + b)) (mv b l) = _
    rw [dif_move, dfs_mv b l x]; rfl
theorem mv_getD (b : Int) (l : List Int) (j : Nat) (hj : j < l.length) : (mv b l).getD j 0 = wrap64 (l.getD j 0 + b) := by
  simp [mv, List.getD, hj]
theorem alk_mv (b : Int) {l : List Int} (h : All64 l) : alk (mv b l) = alk l := by
  have e : alk (mv b l) = true ↔ alk l = true := by
    rw [alk_iff, alk_iff, mv_length]
    constructor
    · intro hh j hj
      have := hh j hj
      rw [mv_getD b l j hj, mv_getD b l 0 (by omega)] at this
      have h1 := h j
      have h2 := h 0
      unfold wrap64 at this
      omega
    · intro hh j hj
      rw [mv_getD b l j hj, mv_getD b l 0 (by omega), hh j hj]
  cases h1 : alk (mv b l) <;> cases h2 : alk l <;> simp_all
/-- What stands in the codes of a row and of the row that is moved. -/
theorem moves_nms (b x : Int) (t : List Int) (h : All64 (x :: t)) (k : Nat) : (nms k (x :: t) = none ∧ nms k (mv b (x :: t)) = none) ∨ ∃ r, All64 r ∧ r.length ≤ t.length ∧ nms k (x :: t) = some (x :: r) ∧ nms k (mv b (x :: t)) = some (wrap64 (x + b) :: r) := by
  obtain ⟨hx, ht⟩ := all64_cons.1 h
  have d1 : dfs 0 (x :: t) = x :: dfs x t := by rw [dfs_cons, dif_zero hx]
  have d2 : dfs 0 (mv b (x :: t)) = wrap64 (x + b) :: dfs x t := by
    show dfs 0 (wrap64 (x + b) :: mv b t) = _
    rw [dfs_cons, dif_zero (wrap_bd _), dfs_mv]
  rcases Nat.lt_or_ge k 4 with hk | hk
  · rcases four hk with rfl | rfl | rfl | rfl
    · rw [nms_0, nms_0, mv_length, alk_mv b h]
      by_cases hc : 1 ≤ (x :: t).length ∧ alk (x :: t) = true
      · right; rw [if_pos hc, if_pos hc]; exact ⟨[], all64_nil, Nat.zero_le _, rfl, rfl⟩
      · left; rw [if_neg hc, if_neg hc]; exact ⟨rfl, rfl⟩
    · rw [nms_1, nms_1, mv_length, d1, d2, List.tail_cons, List.tail_cons]
      by_cases hc : 2 ≤ (x :: t).length ∧ alk (dfs x t) = true
      · right
        rw [if_pos hc, if_pos hc]
        refine ⟨(dfs x t).take 1, all64_take (dfs_all _ _) 1, ?_, rfl, rfl⟩
        rw [List.length_take, dfs_length]; omega
      · left; rw [if_neg hc, if_neg hc]; exact ⟨rfl, rfl⟩
    · right
      refine ⟨dfs x t, dfs_all _ _, by rw [dfs_length]; exact Nat.le_refl _, ?_, ?_⟩
      · show some (dfs 0 (x :: t)) = _; rw [d1]
      · show some (dfs 0 (mv b (x :: t))) = _; rw [d2]
    · rw [nms_3, nms_3, mv_length, d1, d2]
      by_cases hc : 2 ≤ (x :: t).length
      · right
        rw [if_pos hc, if_pos hc]
        refine ⟨dfs 0 (dfs x t), dfs_all _ _, by rw [dfs_length, dfs_length]; exact Nat.le_refl _, rfl, rfl⟩
      · left; rw [if_neg hc, if_neg hc]; exact ⟨rfl, rfl⟩
  · left
    obtain ⟨j, rfl⟩ : ∃ j, k = j + 4 := ⟨k - 4, by omega⟩
    exact ⟨rfl, rfl⟩
theorem moves_code (b x : Int) (t : List Int) (h : All64 (x :: t)) (hn : (x :: t).length ≤ 1000) (k : Nat) : (code k (x :: t) = none ∧ code k (mv b (x :: t)) = none) ∨
    ∃ r, code k (x :: t) = some ((k : Int) :: (bs (t.length + 1) ++ (zb x ++ r))) ∧ code k (mv b (x :: t)) = some ((k : Int) :: (bs (t.length + 1) ++ (zb (wrap64 (x + b)) ++ r))) ∧ r.length ≤ 10000 := by
  rcases moves_nms b x t h k with ⟨h1, h2⟩ | ⟨r, ha, hl, h1, h2⟩
  · exact .inl ⟨code_nil h1, code_nil h2⟩
  · right
    have hn' : t.length + 1 ≤ 1000 := hn
    refine ⟨zbs r, code_some (by omega) h1, ?_, ?_⟩
    · have := code_some (l := mv b (x :: t)) (by rw [mv_length]; omega) h2
      rw [mv_length] at this; exact this
    · have := zbs_len r ha r.length (Nat.le_refl _)
      rw [List.take_length] at this; omega

set_option linter.unusedSimpArgs false in
set_option maxRecDepth 100000 in
set_option maxHeartbeats 6400000 in
theorem codecMoves_walk {w : World} (a0 : Option Addr) (len cap : Nat) (ms : List Int) (hv : IsI .i64 w a0 len cap ms) (hwf : ∀ n ∈ ms, (Lit.int .i64 n).wf = true) (b : Int) (_ : -9223372036854775808 ≤ b ∧ b ≤ 9223372036854775807) (hF : Fw w) :
    Calls Tryd.prog 7 #[.slice a0 len cap, .int .i64 b] w fun e w' => e = .returned (.bool true) ∧ Below w.heap.size w w' := by
  obtain ⟨i0, hi, hz0, hz1, hz2⟩ := info_parts Tryd.info2
  have HW : Hid (Calls Tryd.prog 8 #[] w fun e w' => e = .returned (.bool true) ∧ Below w.heap.size w w') := awake_any w hF
  have HV : Hid (IsI .i64 w a0 len cap ms ∧ All64 ms ∧ Fw w) := ⟨hv, all64_of hwf, hF⟩
  clear hv hwf hF
  go_enter Tryd.func7, Tryd.ntmps7
  go_wp2_with fail
  refine Calls.mono HW.out ?_
  rintro e w1 ⟨rfl, hb1⟩
  by_cases h0 : len = 0
  · subst h0
    go_wp2_with fail
    go_ret
    exact ⟨rfl, hb1⟩
  have h0' : ((len : Int) == 0) = false := by simp; omega
  by_cases hlen : len ≤ 1000
  rotate_left
  · have h' : (1000 : Int) < (len : Int) := by omega
    go_wp2_with fail
    go_ret
    exact ⟨rfl, hb1⟩
  have h' : ¬ (1000 : Int) < (len : Int) := by omega
  have HC : Hid (∀ j w', Below w.heap.size w w' → j < len → ∃ bb off, a0 = some ⟨bb, off, none⟩ ∧ w'.cell? ⟨bb, off + j, none⟩ = some (.int .i64 (ms.getD j 0))) := fun j w' hb hj => by
    rcases HV.out.1.rd with h | ⟨bb, off, e, hlt, hc⟩
    · have := HV.out.1.hl; rw [h] at this; simp at this; omega
    · exact ⟨bb, off, e, (hb.cell (p := ⟨bb, off + j, none⟩) hlt).trans (hc j (by rw [HV.out.1.hl]; exact hj))⟩
  go_wp2_with fail
  go_loopw [6, 7] (fun v i wr => ∃ j : Nat, i = .int .i64 (j : Int) ∧ j ≤ len ∧ Hid (wr.ownsRow w1.heap.size 2 1 v j ((mv b (ms.take j)).map (Value.int .i64))) ∧ Below w1.heap.size w1 wr) (fun _ i _ => len - (RowKit.intOf i).toNat)
  case atStart => exact ⟨0, rfl, Nat.zero_le _, ⟨rfl, .inl ⟨rfl, rfl⟩⟩, Below.refl _ _⟩
  case round =>
    obtain ⟨j, rfl, hj, ho, hb⟩ := hrel
    by_cases hlt : j < len
    · have hlt' : (j : Int) < (len : Int) := by omega
      have hbs := hb.size
      obtain ⟨bb, off, rfl, hc⟩ := HC.out j wr (hb1.trans (hb.mono hb1.size)) hlt
      obtain ⟨z, hz⟩ : ∃ z, Hid (z = ms.getD j 0) := ⟨_, rfl⟩
      rw [← hz.out] at hc
      obtain ⟨z', hz'⟩ : ∃ z', z' = wrap64 (z + b) := ⟨_, rfl⟩
      go_wp2_with (at_builtin; refine wpList_append_own _ rfl (.tmp 33) (.tmp 40) 22 rfl w1.heap.size 2 i0 (.int .i64 0) 1 8 Tryd.underlying22 hi hz0 hz1 hz2 rfl (by decide) _ j _ rfl (ho.out.alloc _) ⟨wr.heap.size, 0, none⟩ 1 1 [.int .i64 (wrap64 (z + b))] rfl rfl (one_news wr _) (one_one _) (by unfold maxLen; omega) (by omega) (by simp; omega) ?_; intro v' w2 hown hgrow _)
      go_roundw
      case rel =>
        refine ⟨j + 1, by go_num, hlt, ?_, (hb.alloc hbs _).grown hgrow (by simp; omega) (fun q e => (ho.out.lt q e).1)⟩
        have e1 : (mv b (ms.take j)).map (Value.int .i64) ++ [Value.int .i64 (wrap64 (z + b))] = (mv b (ms.take (j + 1))).map (Value.int .i64) := by
          have hj' : j < ms.length := by rw [HV.out.1.hl]; exact hlt
          have hg : ms.getD j 0 = ms[j] := by simp [List.getD, hj']
          rw [List.take_succ_eq_append_getElem hj', hz.out, hg]
          simp only [mv, List.map_append, List.map_cons, List.map_nil]
        rw [← e1]; exact hown
      case measure => simp [RowKit.intOf]; omega
    · have hlt' : ¬ (j : Int) < (len : Int) := by omega
      obtain rfl : j = len := by omega
      have e2 : ms.take j = ms := by rw [← HV.out.1.hl, List.take_length]
      rw [e2] at ho
      obtain ⟨a6, c6, rfl, I6⟩ := own_isI ho.out
      have hbw : Below w.heap.size w wr := hb1.trans (hb.mono hb1.size)
      obtain ⟨x0, t0, hms⟩ : ∃ x0 t0, ms = x0 :: t0 := by
        cases ms with
        | nil => exact absurd HV.out.1.hl.symm h0
        | cons x0 t0 => exact ⟨x0, t0, rfl⟩
      have hjt : j = t0.length + 1 := by rw [← HV.out.1.hl, hms]; rfl
      have H64 := HV.out.2.1
      have HA : Hid (∀ (k : Int) w', Below wr.heap.size wr w' → Calls Tryd.prog 9 #[.int .i64 k, .slice a0 j cap] w' (AsIs k ms w')) := fun k w' hb' => as_any k a0 j cap ms w' HV.out.1.hl HV.out.1.hc HV.out.1.hm (HV.out.1.rd.below (hbw.trans (hb'.mono hbw.size))) H64 (HV.out.2.2.below (hbw.trans (hb'.mono hbw.size)))
      have HB : Hid (∀ (k : Int) w', Below wr.heap.size wr w' → Calls Tryd.prog 9 #[.int .i64 k, .slice a6 j c6] w' (AsIs k (mv b ms) w')) := fun k w' hb' => as_any k a6 j c6 _ w' I6.hl I6.hc I6.hm (I6.rd.below hb') (mv_all b ms) (HV.out.2.2.below (hbw.trans (hb'.mono hbw.size)))
      have HMC : Hid (∀ k, (code k ms = none ∧ code k (mv b ms) = none) ∨ ∃ r, code k ms = some ((k : Int) :: (bs j ++ (zb x0 ++ r))) ∧ code k (mv b ms) = some ((k : Int) :: (bs j ++ (zb (wrap64 (x0 + b)) ++ r))) ∧ r.length ≤ 10000) := fun k => by
        rw [hms, hjt]
        exact moves_code b x0 t0 (by rw [← hms]; exact H64) (by show t0.length + 1 ≤ 1000; omega) k
      have hx0 : I64 x0 := (all64_cons.1 (by rw [← hms]; exact H64)).1
      obtain ⟨y0, hy0⟩ : ∃ y0, Hid (y0 = wrap64 (x0 + b)) := ⟨_, rfl⟩
      rw [← hy0.out] at HMC
      have hy64 : I64 y0 := by rw [hy0.out]; exact wrap_bd _
      have C0 : Hid (∀ w', Below wr.heap.size wr w' → ∃ bb off, a0 = some ⟨bb, off, none⟩ ∧ w'.cell? ⟨bb, off, none⟩ = some (.int .i64 x0)) := fun w' hb' => by
        obtain ⟨bb, off, e, hc⟩ := HC.out 0 w' (hbw.trans (hb'.mono hbw.size)) (by omega)
        exact ⟨bb, off, e, by rw [hms] at hc; exact hc⟩
      have C6 : Hid (∀ w', Below wr.heap.size wr w' → ∃ bb off, a6 = some ⟨bb, off, none⟩ ∧ w'.cell? ⟨bb, off, none⟩ = some (.int .i64 y0)) := fun w' hb' => by
        rcases I6.rd with h | ⟨bb, off, e, hlt, hc⟩
        · rw [hms] at h; cases h
        · refine ⟨bb, off, e, ?_⟩
          have := (hb'.cell (p := ⟨bb, off + 0, none⟩) hlt).trans (hc 0 (by rw [mv_length, HV.out.1.hl]; omega))
          rw [hms] at this
          rw [hy0.out]; exact this
      clear I6 ho H64 hms hjt e2
      obtain ⟨ux, ex1, ex2, ex3⟩ := zz_nat hx0.1 hx0.2
      obtain ⟨uy, ey1, ey2, ey3⟩ := zz_nat hy64.1 hy64.2
      have HZx : Hid (∀ w', Calls Tryd.prog 17 #[.int .i64 x0] w' fun e w'' => e = .returned (.int .u64 (ux : Int)) ∧ w'' = w') := fun w' => by
        have := refzig_any x0 hx0.1 hx0.2 w'
        rw [ex1] at this; exact this
      have HZy : Hid (∀ w', Calls Tryd.prog 17 #[.int .i64 y0] w' fun e w'' => e = .returned (.int .u64 (uy : Int)) ∧ w'' = w') := fun w' => by
        have := refzig_any y0 hy64.1 hy64.2 w'
        rw [ey1] at this; exact this
      have HX : Hid (zb x0 = bs ux ∧ zb y0 = bs uy) := ⟨ex3, ey3⟩
      clear ex1 ex3 ey1 ey3
      have hjw : IntKind.u64.wrap (j : Int) = (j : Int) := by rw [IntKind.wrap_u64]; omega
      go_wp2_with fail
      go_loopw [8] (fun i wr' => ∃ k : Nat, i = .int .i64 (k : Int) ∧ k ≤ 4 ∧ Below wr.heap.size wr wr') (fun i _ => 4 - (RowKit.intOf i).toNat)
      case atStart => exact ⟨0, rfl, by decide, Below.refl _ _⟩
      case round =>
        rename_i wr2 hrel
        obtain ⟨k, rfl, hk, hbr⟩ := hrel
        by_cases hkl : k < 4
        · have hkl' : (k : Int) ≤ 3 := by omega
          go_wp2_with fail
          refine (HA.out (k : Int) _ hbr).mono ?_
          rcases HMC.out k with ⟨n1, n2⟩ | ⟨r, s1, s2, hrl⟩
          · rintro e w3 ⟨⟨ca, ga, cpa, hca, _, _⟩ | ⟨hca, rfl⟩, hb3⟩
            · rw [codeI_nat, n1] at hca; cases hca
            have hb13 := hbr.trans (hb3.mono hbr.size)
            go_wp2_with fail
            refine (HB.out (k : Int) w3 hb13).mono ?_
            rintro e w4 ⟨⟨ca, ga, cpa, hca, _, _⟩ | ⟨hca, rfl⟩, hb4⟩
            · rw [codeI_nat, n2] at hca; cases hca
            have hb14 := hb13.trans (hb4.mono hb13.size)
            go_wp2_with fail
            go_roundw
            case rel => exact ⟨k + 1, by go_num, by omega, hb14⟩
            case measure => simp [RowKit.intOf]; omega
          · rintro e w3 ⟨⟨cA, ga, ca, hcA, rfl, hoA⟩ | ⟨hcA, _⟩, hb3⟩
            rotate_left
            · rw [codeI_nat, s1] at hcA; cases hcA
            rw [codeI_nat, s1] at hcA
            have hb13 := hbr.trans (hb3.mono hbr.size)
            obtain ⟨la, hla⟩ : ∃ x : Nat, Hid (x = cA.length) := ⟨_, rfl⟩
            rw [← hla.out] at hoA ⊢
            have hcaA : la ≤ ca := own_cap hoA
            have HRA : Hid (Rd .u8 w3 (some ⟨ga, 0, none⟩) cA ∧ some ((k : Int) :: (bs j ++ (zb x0 ++ r))) = some cA) := ⟨own_rd hoA, hcA⟩
            clear hoA hcA hb3
            go_wp2_with fail
            refine (HB.out (k : Int) w3 hb13).mono ?_
            rintro e w4 ⟨⟨cB, gb, cb, hcB, rfl, hoB⟩ | ⟨hcB, _⟩, hb4⟩
            rotate_left
            · rw [codeI_nat, s2] at hcB; cases hcB
            rw [codeI_nat, s2] at hcB
            have hb14 := hb13.trans (hb4.mono hb13.size)
            obtain ⟨lb, hlb⟩ : ∃ x : Nat, Hid (x = cB.length) := ⟨_, rfl⟩
            rw [← hlb.out] at hoB ⊢
            have hcbB : lb ≤ cb := own_cap hoB
            have HRB : Hid (Rd .u8 w4 (some ⟨gb, 0, none⟩) cB ∧ some ((k : Int) :: (bs j ++ (zb y0 ++ r))) = some cB) := ⟨own_rd hoB, hcB⟩
            have HB34 : Hid (Below w3.heap.size w3 w4) := hb4
            clear hoB hcB hb4
            obtain ⟨bb0, off0, rfl, cc0⟩ := C0.out w4 hb14
            go_wp2_with fail
            refine (HZx.out w4).mono ?_
            rintro e w5 ⟨rfl, rfl⟩
            go_wp2_with fail
            refine (refbytes_any ux w5 ex2).mono ?_
            rintro e w5' ⟨vx, rfl, hox, hb5⟩
            obtain ⟨ax, cx, rfl, _⟩ := own_form hox
            have hb15 := hb14.trans (hb5.mono hb14.size)
            obtain ⟨x, hxl⟩ : ∃ x : Nat, Hid (x = (bs ux).length) := ⟨_, rfl⟩
            rw [← hxl.out] at hox ⊢
            clear hox
            obtain ⟨bb6, off6, rfl, cc6⟩ := C6.out w5' hb15
            go_wp2_with fail
            refine (HZy.out w5').mono ?_
            rintro e w6 ⟨rfl, rfl⟩
            go_wp2_with fail
            refine (refbytes_any uy w6 ey2).mono ?_
            rintro e w6' ⟨vy, rfl, hoy, hb6⟩
            obtain ⟨ay, cy, rfl, _⟩ := own_form hoy
            have hb16 := hb15.trans (hb6.mono hb15.size)
            obtain ⟨y, hyl⟩ : ∃ x : Nat, Hid (x = (bs uy).length) := ⟨_, rfl⟩
            rw [← hyl.out] at hoy ⊢
            clear hoy
            go_wp2_with fail
            refine (refbytes_any j w6' (by omega)).mono ?_
            rintro e w7 ⟨vj, rfl, hoj, hb7⟩
            obtain ⟨aj, cj, rfl, _⟩ := own_form hoj
            have hb17 := hb16.trans (hb7.mono hb16.size)
            obtain ⟨h1, hhl⟩ : ∃ x : Nat, Hid (x = (bs j).length) := ⟨_, rfl⟩
            rw [← hhl.out] at hoj ⊢
            clear hoj
            have hx10 : x ≤ 10 := by rw [hxl.out]; exact bs_le10 ex2
            have hy10 : y ≤ 10 := by rw [hyl.out]; exact bs_le10 ey2
            have hh10 : h1 ≤ 10 := by rw [hhl.out]; exact bs_le10 (by omega)
            obtain ⟨h, hh⟩ : ∃ h : Nat, h = 1 + h1 := ⟨_, rfl⟩
            have hhe : (1 : Int) + (h1 : Int) = (h : Int) := by omega
            obtain ⟨mA, hmA⟩ : ∃ m : Nat, m = h + x := ⟨_, rfl⟩
            obtain ⟨mB, hmB⟩ : ∃ m : Nat, m = h + y := ⟨_, rfl⟩
            have EA : Hid (cA.drop mA = r ∧ la = mA + r.length) := by
              have e := Option.some.inj HRA.out.2
              have l1 : ((k : Int) :: (bs j ++ zb x0)).length = mA := by rw [HX.out.1]; simp [hmA, hh, hhl.out, hxl.out]; omega
              have e' : cA = ((k : Int) :: (bs j ++ zb x0)) ++ r := by rw [← e]; simp
              refine ⟨?_, ?_⟩
              · rw [e', ← l1, List.drop_left]
              · rw [hla.out, e', List.length_append, l1]
            have EB : Hid (cB.drop mB = r ∧ lb = mB + r.length) := by
              have e := Option.some.inj HRB.out.2
              have l1 : ((k : Int) :: (bs j ++ zb y0)).length = mB := by rw [HX.out.2]; simp [hmB, hh, hhl.out, hyl.out]; omega
              have e' : cB = ((k : Int) :: (bs j ++ zb y0)) ++ r := by rw [← e]; simp
              refine ⟨?_, ?_⟩
              · rw [e', ← l1, List.drop_left]
              · rw [hlb.out, e', List.length_append, l1]
            have lA : mA ≤ la := by rw [EA.out.2]; omega
            have lB : mB ≤ lb := by rw [EB.out.2]; omega
            have hAw : IntKind.i64.wrap ((h : Int) + (x : Int)) = (mA : Int) := by rw [IntKind.wrap_i64]; omega
            have hBw : IntKind.i64.wrap ((h : Int) + (y : Int)) = (mB : Int) := by rw [IntKind.wrap_i64]; omega
            obtain ⟨aA, haA⟩ : ∃ a : Option Addr, (if ca = mA then some ⟨ga, 0, none⟩ else some ⟨ga, mA, none⟩) = a := ⟨_, rfl⟩
            obtain ⟨aB, haB⟩ : ∃ a : Option Addr, (if cb = mB then some ⟨gb, 0, none⟩ else some ⟨gb, mB, none⟩) = a := ⟨_, rfl⟩
            obtain ⟨s, hs⟩ : ∃ s, Hid (s = strOfNums r) := ⟨_, rfl⟩
            have b47 : Below w5.heap.size w5 w7 := (hb5.trans (hb6.mono hb5.size)).trans (hb7.mono (Nat.le_trans hb5.size hb6.size))
            have b37 : Below w3.heap.size w3 w7 := HB34.out.trans (b47.mono HB34.out.size)
            have HVA : Hid (∀ wx, Below w7.heap.size w7 wx → Sem.run Tryd.prog (convert 24 9 (.slice aA (la - mA) (ca - mA))) wx = .ok (.string s) wx) := fun wx hbx => by
              have hd := Rd.drop (n := la) (m := mA) (cap := ca) HRA.out.1 hla.out.symm hcaA lA
              rw [haA, EA.out.1] at hd
              rw [hs.out]
              exact conv_rd wx aA (ca - mA) (la - mA) r hd.2 ((hd.1.below b37).below hbx)
            have HVB : Hid (∀ wx, Below w7.heap.size w7 wx → Sem.run Tryd.prog (convert 24 9 (.slice aB (lb - mB) (cb - mB))) wx = .ok (.string s) wx) := fun wx hbx => by
              have hd := Rd.drop (n := lb) (m := mB) (cap := cb) HRB.out.1 hlb.out.symm hcbB lB
              rw [haB, EB.out.1] at hd
              rw [hs.out]
              exact conv_rd wx aB (cb - mB) (lb - mB) r hd.2 ((hd.1.below b47).below hbx)
            clear hmA hmB hh
            go_wp2_with fail
            refine wp_region_K (by kernel_rfl) (by kernel_rfl) [.eq (.slice (some ⟨ga, 0, none⟩) la ca), .eq (.int .i64 (la : Int)), .eq (.int .i64 (h : Int)), .eq (.int .i64 (x : Int)), .eq (.int .i64 (mA : Int)), .eq (.bool false), .eq (.bool false), .eq (.slice (some ⟨gb, 0, none⟩) lb cb), .eq (.int .i64 (lb : Int)), .eq (.int .i64 (h : Int)), .eq (.int .i64 (y : Int)), .eq (.int .i64 (mB : Int)), .eq (.bool false), .eq (.bool false), .eq (.bool false), .eq (.slice (some ⟨ga, 0, none⟩) la ca), .eq (.int .i64 (h : Int)), .eq (.int .i64 (x : Int)), .eq (.int .i64 (mA : Int)), .eq (.slice aA (la - mA) (ca - mA)), .eq (.string s), .eq (.slice (some ⟨gb, 0, none⟩) lb cb), .eq (.int .i64 (h : Int)), .eq (.int .i64 (y : Int)), .eq (.int .i64 (mB : Int)), .eq (.slice aB (lb - mB) (cb - mB)), .eq (.string s), .eq (.bool false), .eq (.bool false)] w7 (Below.refl _ _) (allOps_cons ?_ (allOps_cons ?_ (allOps_cons ?_ (allOps_cons ?_ (allOps_cons ?_ (allOps_cons ?_ (allOps_cons ?_ (allOps_cons ?_ (allOps_cons ?_ (allOps_cons ?_ (allOps_cons ?_ (allOps_cons ?_ (allOps_cons ?_ (allOps_cons ?_ (allOps_cons ?_ (allOps_cons ?_ (allOps_cons ?_ (allOps_cons ?_ (allOps_cons ?_ (allOps_cons ?_ (allOps_cons ?_ (allOps_cons ?_ (allOps_cons ?_ (allOps_cons ?_ (allOps_cons ?_ (allOps_cons ?_ (allOps_cons ?_ (allOps_cons ?_ (allOps_cons ?_ allOps_nil))))))))))))))))))))))))))))) ?_
            · intro a wx hS hb hf
              have s9 : a.eval (.tmp 9) = .slice (some ⟨ga, 0, none⟩) la ca := (hf 9 (by kernel_rfl)).trans rfl
              rw [if_pos (wanted_none rfl)]
              refine does_val (v := .slice (some ⟨ga, 0, none⟩) la ca) (w' := wx) ?_ ⟨rfl, Below.refl _ _⟩
              have t9 := (ev_tmp a 9).symm.trans s9
              simp [execOp, go_sem, t9]
            · intro a wx hS hb hf
              have s81 : a.eval (.tmp 81) = .slice (some ⟨ga, 0, none⟩) la ca := slot hb 0 0 81 rfl rfl
              rw [if_pos (wanted_none rfl)]
              refine does_val (v := .int .i64 (la : Int)) (w' := wx) ?_ ⟨rfl, Below.refl _ _⟩
              have t81 := (ev_tmp a 81).symm.trans s81
              simp [execOp, go_sem, t81]
            · intro a wx hS hb hf
              have s15 : a.eval (.tmp 15) = .int .i64 (h : Int) := (hf 15 (by kernel_rfl)).trans rfl
              rw [if_pos (wanted_none rfl)]
              refine does_val (v := .int .i64 (h : Int)) (w' := wx) ?_ ⟨rfl, Below.refl _ _⟩
              have t15 := (ev_tmp a 15).symm.trans s15
              simp [execOp, go_sem, t15]
            · intro a wx hS hb hf
              have s13 : a.eval (.tmp 13) = .int .i64 (x : Int) := (hf 13 (by kernel_rfl)).trans rfl
              rw [if_pos (wanted_none rfl)]
              refine does_val (v := .int .i64 (x : Int)) (w' := wx) ?_ ⟨rfl, Below.refl _ _⟩
              have t13 := (ev_tmp a 13).symm.trans s13
              simp [execOp, go_sem, t13]
            · intro a wx hS hb hf
              have s83 : a.eval (.tmp 83) = .int .i64 (h : Int) := slot hb 0 2 83 rfl rfl
              have s84 : a.eval (.tmp 84) = .int .i64 (x : Int) := slot hb 1 3 84 rfl rfl
              rw [if_pos (wanted_none rfl)]
              refine does_val (v := .int .i64 (mA : Int)) (w' := wx) ?_ ⟨rfl, Below.refl _ _⟩
              have t83 := (ev_tmp a 83).symm.trans s83
              have t84 := (ev_tmp a 84).symm.trans s84
              simp [execOp, go_sem, t83, t84, hAw]
            · intro a wx hS hb hf
              have s82 : a.eval (.tmp 82) = .int .i64 (la : Int) := slot hb 0 1 82 rfl rfl
              have s85 : a.eval (.tmp 85) = .int .i64 (mA : Int) := slot hb 1 4 85 rfl rfl
              rw [if_pos (wanted_none rfl)]
              refine does_val (v := .bool false) (w' := wx) ?_ ⟨rfl, Below.refl _ _⟩
              have t82 := (ev_tmp a 82).symm.trans s82
              have t85 := (ev_tmp a 85).symm.trans s85
              simp [execOp, go_sem, t82, t85]
              omega
            · intro a wx hS hb hf
              have s86 : a.eval (.tmp 86) = .bool false := slot hb 0 5 86 rfl rfl
              rw [if_pos (wanted_none rfl)]
              refine does_val (v := .bool false) (w' := wx) ?_ ⟨rfl, Below.refl _ _⟩
              have t86 := (ev_tmp a 86).symm.trans s86
              simp [execOp, go_sem, t86]
            · intro a wx hS hb hf
              have s11 : a.eval (.tmp 11) = .slice (some ⟨gb, 0, none⟩) lb cb := (hf 11 (by kernel_rfl)).trans rfl
              have s87 : a.eval (.tmp 87) = .bool false := slot hb 0 6 87 rfl rfl
              rw [if_pos (wanted_of (g := 6) (d := 87) (b := false) rfl rfl s87)]
              refine does_val (v := .slice (some ⟨gb, 0, none⟩) lb cb) (w' := wx) ?_ ⟨rfl, Below.refl _ _⟩
              have t11 := (ev_tmp a 11).symm.trans s11
              simp [execOp, go_sem, t11]
            · intro a wx hS hb hf
              have s88 : a.eval (.tmp 88) = .slice (some ⟨gb, 0, none⟩) lb cb := slot hb 0 7 88 rfl rfl
              have s87 : a.eval (.tmp 87) = .bool false := slot hb 1 6 87 rfl rfl
              rw [if_pos (wanted_of (g := 6) (d := 87) (b := false) rfl rfl s87)]
              refine does_val (v := .int .i64 (lb : Int)) (w' := wx) ?_ ⟨rfl, Below.refl _ _⟩
              have t88 := (ev_tmp a 88).symm.trans s88
              simp [execOp, go_sem, t88]
            · intro a wx hS hb hf
              have s15 : a.eval (.tmp 15) = .int .i64 (h : Int) := (hf 15 (by kernel_rfl)).trans rfl
              have s87 : a.eval (.tmp 87) = .bool false := slot hb 0 6 87 rfl rfl
              rw [if_pos (wanted_of (g := 6) (d := 87) (b := false) rfl rfl s87)]
              refine does_val (v := .int .i64 (h : Int)) (w' := wx) ?_ ⟨rfl, Below.refl _ _⟩
              have t15 := (ev_tmp a 15).symm.trans s15
              simp [execOp, go_sem, t15]
            · intro a wx hS hb hf
              have s14 : a.eval (.tmp 14) = .int .i64 (y : Int) := (hf 14 (by kernel_rfl)).trans rfl
              have s87 : a.eval (.tmp 87) = .bool false := slot hb 0 6 87 rfl rfl
              rw [if_pos (wanted_of (g := 6) (d := 87) (b := false) rfl rfl s87)]
              refine does_val (v := .int .i64 (y : Int)) (w' := wx) ?_ ⟨rfl, Below.refl _ _⟩
              have t14 := (ev_tmp a 14).symm.trans s14
              simp [execOp, go_sem, t14]
            · intro a wx hS hb hf
              have s90 : a.eval (.tmp 90) = .int .i64 (h : Int) := slot hb 0 9 90 rfl rfl
              have s91 : a.eval (.tmp 91) = .int .i64 (y : Int) := slot hb 1 10 91 rfl rfl
              have s87 : a.eval (.tmp 87) = .bool false := slot hb 2 6 87 rfl rfl
              rw [if_pos (wanted_of (g := 6) (d := 87) (b := false) rfl rfl s87)]
              refine does_val (v := .int .i64 (mB : Int)) (w' := wx) ?_ ⟨rfl, Below.refl _ _⟩
              have t90 := (ev_tmp a 90).symm.trans s90
              have t91 := (ev_tmp a 91).symm.trans s91
              simp [execOp, go_sem, t90, t91, hBw]
            · intro a wx hS hb hf
              have s89 : a.eval (.tmp 89) = .int .i64 (lb : Int) := slot hb 0 8 89 rfl rfl
              have s92 : a.eval (.tmp 92) = .int .i64 (mB : Int) := slot hb 1 11 92 rfl rfl
              have s87 : a.eval (.tmp 87) = .bool false := slot hb 2 6 87 rfl rfl
              rw [if_pos (wanted_of (g := 6) (d := 87) (b := false) rfl rfl s87)]
              refine does_val (v := .bool false) (w' := wx) ?_ ⟨rfl, Below.refl _ _⟩
              have t89 := (ev_tmp a 89).symm.trans s89
              have t92 := (ev_tmp a 92).symm.trans s92
              simp [execOp, go_sem, t89, t92]
              omega
            · intro a wx hS hb hf
              have s87 : a.eval (.tmp 87) = .bool false := slot hb 0 6 87 rfl rfl
              have s93 : a.eval (.tmp 93) = .bool false := slot hb 1 12 93 rfl rfl
              rw [if_pos (wanted_none rfl)]
              refine does_val (v := .bool false) (w' := wx) ?_ ⟨rfl, Below.refl _ _⟩
              have t87 := (ev_tmp a 87).symm.trans s87
              have t93 := (ev_tmp a 93).symm.trans s93
              simp [execOp, go_sem, t87, t93]
            · intro a wx hS hb hf
              have s94 : a.eval (.tmp 94) = .bool false := slot hb 0 13 94 rfl rfl
              rw [if_pos (wanted_none rfl)]
              refine does_val (v := .bool false) (w' := wx) ?_ ⟨rfl, Below.refl _ _⟩
              have t94 := (ev_tmp a 94).symm.trans s94
              simp [execOp, go_sem, t94]
            · intro a wx hS hb hf
              have s9 : a.eval (.tmp 9) = .slice (some ⟨ga, 0, none⟩) la ca := (hf 9 (by kernel_rfl)).trans rfl
              have s95 : a.eval (.tmp 95) = .bool false := slot hb 0 14 95 rfl rfl
              rw [if_pos (wanted_of (g := 14) (d := 95) (b := false) rfl rfl s95)]
              refine does_val (v := .slice (some ⟨ga, 0, none⟩) la ca) (w' := wx) ?_ ⟨rfl, Below.refl _ _⟩
              have t9 := (ev_tmp a 9).symm.trans s9
              simp [execOp, go_sem, t9]
            · intro a wx hS hb hf
              have s15 : a.eval (.tmp 15) = .int .i64 (h : Int) := (hf 15 (by kernel_rfl)).trans rfl
              have s95 : a.eval (.tmp 95) = .bool false := slot hb 0 14 95 rfl rfl
              rw [if_pos (wanted_of (g := 14) (d := 95) (b := false) rfl rfl s95)]
              refine does_val (v := .int .i64 (h : Int)) (w' := wx) ?_ ⟨rfl, Below.refl _ _⟩
              have t15 := (ev_tmp a 15).symm.trans s15
              simp [execOp, go_sem, t15]
            · intro a wx hS hb hf
              have s13 : a.eval (.tmp 13) = .int .i64 (x : Int) := (hf 13 (by kernel_rfl)).trans rfl
              have s95 : a.eval (.tmp 95) = .bool false := slot hb 0 14 95 rfl rfl
              rw [if_pos (wanted_of (g := 14) (d := 95) (b := false) rfl rfl s95)]
              refine does_val (v := .int .i64 (x : Int)) (w' := wx) ?_ ⟨rfl, Below.refl _ _⟩
              have t13 := (ev_tmp a 13).symm.trans s13
              simp [execOp, go_sem, t13]
            · intro a wx hS hb hf
              have s97 : a.eval (.tmp 97) = .int .i64 (h : Int) := slot hb 0 16 97 rfl rfl
              have s98 : a.eval (.tmp 98) = .int .i64 (x : Int) := slot hb 1 17 98 rfl rfl
              have s95 : a.eval (.tmp 95) = .bool false := slot hb 2 14 95 rfl rfl
              rw [if_pos (wanted_of (g := 14) (d := 95) (b := false) rfl rfl s95)]
              refine does_val (v := .int .i64 (mA : Int)) (w' := wx) ?_ ⟨rfl, Below.refl _ _⟩
              have t97 := (ev_tmp a 97).symm.trans s97
              have t98 := (ev_tmp a 98).symm.trans s98
              simp [execOp, go_sem, t97, t98, hAw]
            · intro a wx hS hb hf
              have s96 : a.eval (.tmp 96) = .slice (some ⟨ga, 0, none⟩) la ca := slot hb 0 15 96 rfl rfl
              have s99 : a.eval (.tmp 99) = .int .i64 (mA : Int) := slot hb 1 18 99 rfl rfl
              have s95 : a.eval (.tmp 95) = .bool false := slot hb 2 14 95 rfl rfl
              rw [if_pos (wanted_of (g := 14) (d := 95) (b := false) rfl rfl s95)]
              refine does_val (v := .slice aA (la - mA) (ca - mA)) (w' := wx) ?_ ⟨rfl, Below.refl _ _⟩
              have t96 := (ev_tmp a 96).symm.trans s96
              have t99 := (ev_tmp a 99).symm.trans s99
              simp [execOp, go_sem, t96, t99]
              rw [if_pos (by omega), haA]
            · intro a wx hS hb hf
              have s100 : a.eval (.tmp 100) = .slice aA (la - mA) (ca - mA) := slot hb 0 19 100 rfl rfl
              have s95 : a.eval (.tmp 95) = .bool false := slot hb 1 14 95 rfl rfl
              rw [if_pos (wanted_of (g := 14) (d := 95) (b := false) rfl rfl s95)]
              refine does_val (v := .string s) (w' := wx) ?_ ⟨rfl, Below.refl _ _⟩
              have t100 := (ev_tmp a 100).symm.trans s100
              have hcv := HVA.out wx hS
              simp [execOp, go_sem, t100, hcv]
            · intro a wx hS hb hf
              have s11 : a.eval (.tmp 11) = .slice (some ⟨gb, 0, none⟩) lb cb := (hf 11 (by kernel_rfl)).trans rfl
              have s95 : a.eval (.tmp 95) = .bool false := slot hb 0 14 95 rfl rfl
              rw [if_pos (wanted_of (g := 14) (d := 95) (b := false) rfl rfl s95)]
              refine does_val (v := .slice (some ⟨gb, 0, none⟩) lb cb) (w' := wx) ?_ ⟨rfl, Below.refl _ _⟩
              have t11 := (ev_tmp a 11).symm.trans s11
              simp [execOp, go_sem, t11]
            · intro a wx hS hb hf
              have s15 : a.eval (.tmp 15) = .int .i64 (h : Int) := (hf 15 (by kernel_rfl)).trans rfl
              have s95 : a.eval (.tmp 95) = .bool false := slot hb 0 14 95 rfl rfl
              rw [if_pos (wanted_of (g := 14) (d := 95) (b := false) rfl rfl s95)]
              refine does_val (v := .int .i64 (h : Int)) (w' := wx) ?_ ⟨rfl, Below.refl _ _⟩
              have t15 := (ev_tmp a 15).symm.trans s15
              simp [execOp, go_sem, t15]
            · intro a wx hS hb hf
              have s14 : a.eval (.tmp 14) = .int .i64 (y : Int) := (hf 14 (by kernel_rfl)).trans rfl
              have s95 : a.eval (.tmp 95) = .bool false := slot hb 0 14 95 rfl rfl
              rw [if_pos (wanted_of (g := 14) (d := 95) (b := false) rfl rfl s95)]
              refine does_val (v := .int .i64 (y : Int)) (w' := wx) ?_ ⟨rfl, Below.refl _ _⟩
              have t14 := (ev_tmp a 14).symm.trans s14
              simp [execOp, go_sem, t14]
            · intro a wx hS hb hf
              have s103 : a.eval (.tmp 103) = .int .i64 (h : Int) := slot hb 0 22 103 rfl rfl
              have s104 : a.eval (.tmp 104) = .int .i64 (y : Int) := slot hb 1 23 104 rfl rfl
              have s95 : a.eval (.tmp 95) = .bool false := slot hb 2 14 95 rfl rfl
              rw [if_pos (wanted_of (g := 14) (d := 95) (b := false) rfl rfl s95)]
              refine does_val (v := .int .i64 (mB : Int)) (w' := wx) ?_ ⟨rfl, Below.refl _ _⟩
              have t103 := (ev_tmp a 103).symm.trans s103
              have t104 := (ev_tmp a 104).symm.trans s104
              simp [execOp, go_sem, t103, t104, hBw]
            · intro a wx hS hb hf
              have s102 : a.eval (.tmp 102) = .slice (some ⟨gb, 0, none⟩) lb cb := slot hb 0 21 102 rfl rfl
              have s105 : a.eval (.tmp 105) = .int .i64 (mB : Int) := slot hb 1 24 105 rfl rfl
              have s95 : a.eval (.tmp 95) = .bool false := slot hb 2 14 95 rfl rfl
              rw [if_pos (wanted_of (g := 14) (d := 95) (b := false) rfl rfl s95)]
              refine does_val (v := .slice aB (lb - mB) (cb - mB)) (w' := wx) ?_ ⟨rfl, Below.refl _ _⟩
              have t102 := (ev_tmp a 102).symm.trans s102
              have t105 := (ev_tmp a 105).symm.trans s105
              simp [execOp, go_sem, t102, t105]
              rw [if_pos (by omega), haB]
            · intro a wx hS hb hf
              have s106 : a.eval (.tmp 106) = .slice aB (lb - mB) (cb - mB) := slot hb 0 25 106 rfl rfl
              have s95 : a.eval (.tmp 95) = .bool false := slot hb 1 14 95 rfl rfl
              rw [if_pos (wanted_of (g := 14) (d := 95) (b := false) rfl rfl s95)]
              refine does_val (v := .string s) (w' := wx) ?_ ⟨rfl, Below.refl _ _⟩
              have t106 := (ev_tmp a 106).symm.trans s106
              have hcv := HVB.out wx hS
              simp [execOp, go_sem, t106, hcv]
            · intro a wx hS hb hf
              have s101 : a.eval (.tmp 101) = .string s := slot hb 0 20 101 rfl rfl
              have s107 : a.eval (.tmp 107) = .string s := slot hb 1 26 107 rfl rfl
              have s95 : a.eval (.tmp 95) = .bool false := slot hb 2 14 95 rfl rfl
              rw [if_pos (wanted_of (g := 14) (d := 95) (b := false) rfl rfl s95)]
              refine does_val (v := .bool false) (w' := wx) ?_ ⟨rfl, Below.refl _ _⟩
              have t101 := (ev_tmp a 101).symm.trans s101
              have t107 := (ev_tmp a 107).symm.trans s107
              simp [execOp, go_sem, t101, t107]
            · intro a wx hS hb hf
              have s95 : a.eval (.tmp 95) = .bool false := slot hb 0 14 95 rfl rfl
              have s108 : a.eval (.tmp 108) = .bool false := slot hb 1 27 108 rfl rfl
              rw [if_pos (wanted_none rfl)]
              refine does_val (v := .bool false) (w' := wx) ?_ ⟨rfl, Below.refl _ _⟩
              have t95 := (ev_tmp a 95).symm.trans s95
              have t108 := (ev_tmp a 108).symm.trans s108
              simp [execOp, go_sem, t95, t108]

            intro a u hbu hts hd hdone hfree
            have e109 : a.eval (.tmp 109) = .bool false := done_slot hdone 28 109 rfl
            obtain ⟨x81, e81⟩ : ∃ x, a.eval (.tmp 81) = x := ⟨_, rfl⟩
            obtain ⟨x82, e82⟩ : ∃ x, a.eval (.tmp 82) = x := ⟨_, rfl⟩
            obtain ⟨x83, e83⟩ : ∃ x, a.eval (.tmp 83) = x := ⟨_, rfl⟩
            obtain ⟨x84, e84⟩ : ∃ x, a.eval (.tmp 84) = x := ⟨_, rfl⟩
            obtain ⟨x85, e85⟩ : ∃ x, a.eval (.tmp 85) = x := ⟨_, rfl⟩
            obtain ⟨x86, e86⟩ : ∃ x, a.eval (.tmp 86) = x := ⟨_, rfl⟩
            obtain ⟨x87, e87⟩ : ∃ x, a.eval (.tmp 87) = x := ⟨_, rfl⟩
            obtain ⟨x88, e88⟩ : ∃ x, a.eval (.tmp 88) = x := ⟨_, rfl⟩
            obtain ⟨x89, e89⟩ : ∃ x, a.eval (.tmp 89) = x := ⟨_, rfl⟩
            obtain ⟨x90, e90⟩ : ∃ x, a.eval (.tmp 90) = x := ⟨_, rfl⟩
            obtain ⟨x91, e91⟩ : ∃ x, a.eval (.tmp 91) = x := ⟨_, rfl⟩
            obtain ⟨x92, e92⟩ : ∃ x, a.eval (.tmp 92) = x := ⟨_, rfl⟩
            obtain ⟨x93, e93⟩ : ∃ x, a.eval (.tmp 93) = x := ⟨_, rfl⟩
            obtain ⟨x94, e94⟩ : ∃ x, a.eval (.tmp 94) = x := ⟨_, rfl⟩
            obtain ⟨x95, e95⟩ : ∃ x, a.eval (.tmp 95) = x := ⟨_, rfl⟩
            obtain ⟨x96, e96⟩ : ∃ x, a.eval (.tmp 96) = x := ⟨_, rfl⟩
            obtain ⟨x97, e97⟩ : ∃ x, a.eval (.tmp 97) = x := ⟨_, rfl⟩
            obtain ⟨x98, e98⟩ : ∃ x, a.eval (.tmp 98) = x := ⟨_, rfl⟩
            obtain ⟨x99, e99⟩ : ∃ x, a.eval (.tmp 99) = x := ⟨_, rfl⟩
            obtain ⟨x100, e100⟩ : ∃ x, a.eval (.tmp 100) = x := ⟨_, rfl⟩
            obtain ⟨x101, e101⟩ : ∃ x, a.eval (.tmp 101) = x := ⟨_, rfl⟩
            obtain ⟨x102, e102⟩ : ∃ x, a.eval (.tmp 102) = x := ⟨_, rfl⟩
            obtain ⟨x103, e103⟩ : ∃ x, a.eval (.tmp 103) = x := ⟨_, rfl⟩
            obtain ⟨x104, e104⟩ : ∃ x, a.eval (.tmp 104) = x := ⟨_, rfl⟩
            obtain ⟨x105, e105⟩ : ∃ x, a.eval (.tmp 105) = x := ⟨_, rfl⟩
            obtain ⟨x106, e106⟩ : ∃ x, a.eval (.tmp 106) = x := ⟨_, rfl⟩
            obtain ⟨x107, e107⟩ : ∃ x, a.eval (.tmp 107) = x := ⟨_, rfl⟩
            obtain ⟨x108, e108⟩ : ∃ x, a.eval (.tmp 108) = x := ⟨_, rfl⟩
            have hact := act_puts hts hd hfree
            simp only [putAll, List.foldl_cons, List.foldl_nil, e81, e82, e83, e84, e85, e86, e87, e88, e89, e90, e91, e92, e93, e94, e95, e96, e97, e98, e99, e100, e101, e102, e103, e104, e105, e106, e107, e108, e109, Act.put] at hact
            simp at hact
            clear e81 e82 e83 e84 e85 e86 e87 e88 e89 e90 e91 e92 e93 e94 e95 e96 e97 e98 e99 e100 e101 e102 e103 e104 e105 e106 e107 e108 e109 hts hd hdone hfree
            subst hact
            have hb18 := hb17.trans (hbu.mono hb17.size)
            go_wp2_with fail
            go_roundw
            case rel => exact ⟨k + 1, by go_num, by omega, hb18⟩
            case measure => simp [RowKit.intOf]; omega
        · have hkl' : ¬ (k : Int) ≤ 3 := by omega
          go_wp2_with fail
          go_ret
          exact ⟨rfl, hbw.trans (hbr.mono hbw.size)⟩

set_option maxRecDepth 100000 in
theorem codecMoves_lifted (os : Os) (started : os.Started) (H : Type) (enc : TypeId × Value → H) :
    ReturnsInHanded {} Tryd.checked os 7 .any (fun w args => (Rows.codecMovesSpec.pre enc Tryd.prog Tryd.f7 [] false w args ∧ laidMetH Tryd.prog Rows.codecMovesRow.laid w) ∧ sizedMet enc Tryd.prog Tryd.f7 (OpenSpec.ofChange Rows.codecMovesSpec) false w args)
      (Rows.codecMovesSpec.post enc Tryd.prog Tryd.f7 false true false false) := by
  refine returns_and_shaped (C := Tryd.checked) (X := fun w _ => laidMetH Tryd.prog Rows.codecMovesRow.laid w) (fun _ _ _ hh h => h.of_heap hh) own started (by kernel_rfl) Tryd.func7
    (ChangeSpec.witness_shaped (enc := enc) (C := Tryd.checked) (os := os) (X := fun w _ => laidMetH Tryd.prog Rows.codecMovesRow.laid w) false (World.laidAll Tryd.prog os Rows.codecMovesRow.laid) #[.slice none 0 0, .int .i64 0] 8 (World.laidAll_os _ _ _)
      (World.shaped_of_ZipB (by kernel_rfl) (by kernel_rfl)) (by kernel_rfl) (by kernel_rfl) (by kernel_rfl)
      (by rw [MakeChecks.laidMetH_plain _ _ _ (by kernel_rfl)]; exact laidMet_laidAll _ (by kernel_rfl) (by kernel_rfl))) ?_
  intro W base args ds gs before hval0 hW hL hsh
  have hval : ∀ (j : Nat) t v, Tryd.f7.params[j]? = some t → args[j]? = some v → Value.okWide Tryd.prog W .any base t v := hval0
  have hW' := hW
  obtain ⟨p, q, hA0, hV, rfl, _, _⟩ := hW
  have hA : DataW.TrodAll enc Tryd.prog W 0 (fun _ => true) true Tryd.f7.params.toList args.toList ds p := hA0
  rw [Tryd.params7] at hA hval
  obtain ⟨v0, vs0, d0, ds0, p0, q0, hargs, rfl, rfl, h0, r0⟩ := trodAll_cons hA
  obtain ⟨v1, vs1, d1, ds1, p1, q1, rfl, rfl, rfl, h1, r1⟩ := trodAll_cons r0
  obtain ⟨rfl, rfl, rfl⟩ := trodAll_nil r1
  obtain rfl : args = #[v0, v1] := by cases args; simp_all
  obtain ⟨rfl, rfl⟩ := trodVars_none hV
  obtain ⟨a0, len0, cap0, rfl⟩ := okWide_slice Tryd.underlying22 (hval 0 22 v0 rfl rfl)
  have k0 := h0
  have lt0 : ∀ x ∈ p0, x.block < W.heap.size := by obtain ⟨m, hm⟩ := k0; exact DataW.trod_lt m _ _ _ hm
  obtain ⟨vl0, w0, wf0⟩ : ∃ ms, IsI .i64 W a0 len0 cap0 ms ∧ ∀ n ∈ ms, (Lit.int .i64 n).wf = true := by obtain ⟨fuel, hf⟩ := h0; exact isI_22 hf
  obtain ⟨a1, rfl, rfl, rfl, w1⟩ := open_int Tryd.underlying2 (hval 1 2 v1 rfl rfl) h1
  have hx1 : -9223372036854775808 ≤ a1 ∧ a1 ≤ 9223372036854775807 := by simpa [Lit.wf, IntKind.min, IntKind.max, IntKind.signed, IntKind.bits] using w1
  clear hA0 hval0
  rw [MakeChecks.laidMetH_plain _ _ _ (by kernel_rfl)] at hL
  refine (codecMoves_walk (w := W) a0 len0 cap0 vl0 w0 wf0 a1 hx1 (fw_of (laidMet.reads hL (by simp [Rows.codecMovesRow])))).mono fun e W' ⟨he, hb⟩ => ?_
  subst he
  exact ⟨_, rfl, _, _, _, [], _, [], hW', trodAll_mk1 (shut_bool Tryd.underlying4 _), (trodAll_cons_mk (Below.trod laidOut (by kernel_rfl) (of_decide_eq_true (by kernel_rfl)) k0 hb lt0) (trodAll_cons_mk (shut_int Tryd.underlying2 w1) trodAll_mk0)), rfl, hb.frame _, fun h => by cases h⟩

theorem codecMoves_row : Rows.CodecMovesSaid :=
  OpenClaim.holds_of_wide 7 Tryd.f7 rfl rfl rfl rfl rfl rfl rfl ⟨rfl, rfl, rfl, rfl, rfl⟩ rfl rfl rfl rfl rfl (by kernel_rfl) Tryd.func7 (by kernel_rfl)
    (of_decide_eq_true (by kernel_rfl)) (by unfold Func.isWrapper; first | (rw [if_pos (by decide +kernel)]; kernel_rfl) | (rw [if_neg (by decide +kernel)]; exact ⟨rfl, rfl⟩))
    (fun os started H enc _ => codecMoves_lifted os started H enc)

theorem codecMoves_holds : Rows.CodecMovesCardSaid :=
  Claim7.holds_tied_plain_at .later [] [.data] true (true, "268070590a5cdbedef29cc263c966a7d9eccac97f001ce0c2ffcf9837f493a1d") false codecMoves_row (fun _ h => by cases h) (by kernel_rfl) (fun _ h => by cases h) codecMoves_row_tie rfl ⟨rfl, rfl⟩ (by kernel_rfl) rfl
    (fun f fn hf hfn => by
      obtain rfl : f = 7 := Option.some.inj ((show Tryd.prog.funcNamed Rows.codecMovesRow.func = some 7 by kernel_rfl).symm.trans hf) |>.symm
      obtain rfl : fn = Tryd.f7 := (Option.some.inj (Tryd.func7.symm.trans hfn)).symm
      exact ⟨by kernel_rfl, fun j t ht => by
        rw [Tryd.params7] at ht
        have hm : t ∈ [22, 2] := by simpa using Array.mem_of_getElem? ht
        have hall : ([22, 2].all fun u => !Tryd.prog.wantsStandIn u) = true := by kernel_rfl
        exact (show Tryd.prog.wantsStandIn t = false by simpa using List.all_eq_true.1 hall t hm)⟩)
    (by kernel_rfl)
#print axioms codecMoves_holds
end Go.Proofs.YtbgipenonngccaaDoor
