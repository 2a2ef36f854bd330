/- The contract of awake: the document's examples. Conditions: the table of half bytes holds what it is laid with. -/
import Derived.Test.YtifkpimglmncdaaDoorOn
import Derived.Lib.SlBytesConst
namespace Go.Proofs.YtifkpimglmncdaaDoor
open Go.RowKit

theorem make_eq {k : Int} (kind : Nat) (e : k = (kind : Int)) (hk : kind ≤ 255) (a : Option Addr) (len cap : Nat) (zs : List Int) (w : World) (hI : IsI .u8 w a len cap zs) (hby : Bytes zs) (hlen : len ≤ 65535) (hH : Ha w) :
    Calls Tryd.prog 9 #[.int .i64 k, .slice a len cap] w fun e w' => ∃ a' n' c', e = .returned (.tuple #[.slice a' n' c', .int .i64 0]) ∧ n' = 1 + (bs len).length + len + 4 ∧ w'.ownsRow w.heap.size 5 1 (.slice a' n' c') n' ((frm kind zs).map (Value.int .u8)) ∧ IsI .u8 w' a' n' c' (frm kind zs) ∧ Below w.heap.size w w' := by
  subst e
  refine (make_any kind hk a len cap zs w hI hby hlen hH).mono ?_
  rintro e w' ⟨v', rfl, ho, hb⟩
  obtain ⟨a', c', rfl, hI'⟩ := own_isI ho
  exact ⟨a', _, c', rfl, by rw [frm_length, hI.hl], ho, hI', hb⟩
theorem isI_lit (w : World) (xs : List Int) (m : Nat × Nat) (h : xs.length ≤ 100) : IsI .u8 (w.alloc (.cells (xs.map (Value.int .u8)).toArray 5 m)) (some ⟨w.heap.size, 0, none⟩) xs.length xs.length xs := by
  refine ⟨rfl, Nat.le_refl _, by unfold maxLen; omega, ?_, fun h => by cases h⟩
  refine .inr ⟨w.heap.size, 0, rfl, by simp, fun i hi => ?_⟩
  have hn := heap_alloc_new w (.cells (xs.map (Value.int .u8)).toArray 5 m)
  simp only [World.cell?, hn, Nat.zero_add]
  simp [List.getD, hi]
theorem crc_nine : crc [49, 50, 51, 52, 53, 54, 55, 56, 57] = 3421780262 := by decide +kernel
theorem sum_nine (w : World) (hH : Ha w) : Calls Tryd.prog 11 #[.slice (some ⟨w.heap.size, 0, none⟩) 9 9] (w.alloc (.cells #[.int .u8 49, .int .u8 50, .int .u8 51, .int .u8 52, .int .u8 53, .int .u8 54, .int .u8 55, .int .u8 56, .int .u8 57] 5 (9, 10))) fun e w' => e = .returned (.int .u32 3421780262) ∧ Below w.heap.size w w' := by
  have hI := isI_lit w [49, 50, 51, 52, 53, 54, 55, 56, 57] (9, 10) (by decide)
  have h := sum_any _ 9 9 [49, 50, 51, 52, 53, 54, 55, 56, 57] _ hI.hl (by decide) hI.rd (by intro x hx; simp at hx; omega) (hH.below ((Below.refl _ _).alloc (Nat.le_refl _) _))
  rw [crc_nine] at h
  refine Calls.mono h ?_
  rintro e w' ⟨rfl, rfl⟩
  exact ⟨rfl, (Below.refl _ _).alloc (Nat.le_refl _) _⟩
theorem bs_1 : bs 1 = [1] := bs_small (by decide)
theorem two_at (w : World) (x y : Value) (t : TypeId) : ∀ j v, [x, y][j]? = some v → (w.alloc (.cells #[x, y] t)).cell? ((⟨w.heap.size, 0, none⟩ : Addr).add j) = some v := by
  intro j v hj
  match j, hj with
  | 0, hj => simp at hj; subst hj; simp [Addr.add]
  | 1, hj => simp at hj; subst hj; simp [Addr.add]
theorem str_a : strOfNums [97] = { data := #[97] } := by rfl

set_option maxHeartbeats 4000000 in
theorem awake_any (w : World) (hH : Ha w) : Calls Tryd.prog 8 #[] w fun e w' => e = .returned (.bool true) ∧ Below w.heap.size w w' := by
  obtain ⟨i0, hi, hz0, hz1, hz2⟩ := info_parts Tryd.info5
  have HH : Hid (Ha w) := hH
  clear hH
  have hb97 : Hid (Bytes [97]) := by intro x hx; simp at hx; omega
  have hb12 : Hid (Bytes [1, 2]) := by intro x hx; simp at hx; omega
  have kc := fun (w : World) (C : Array Value) (n c : Nat) => Lib.run_convert_bytes_const (P := Tryd.prog) w 22 5 C n c Tryd.underlying22 Tryd.underlying5
  go_enter Tryd.func8, Tryd.ntmps8
  go_wp2_with (first
    | (go_at_call 9
       have hb0 : Below w.heap.size w (w.alloc (.cells #[.int .u8 97] 5 (1, 2))) := (Below.refl _ _).alloc (Nat.le_refl _) _
       refine (make_eq 3 rfl (by decide) (some ⟨w.heap.size, 0, none⟩) 1 1 [97] _ (isI_lit w [97] (1, 2) (by decide)) hb97.out (by decide) (HH.out.below hb0)).mono ?_
       rintro e w1 ⟨a1, n1, c1, rfl, hn1, ho1, hI1, hb1⟩
       rw [bs_1] at hn1
       obtain rfl : n1 = 7 := hn1
       have H1 : Hid (IsI .u8 w1 a1 7 c1 (frm 3 [97]) ∧ Below w.heap.size w w1) := ⟨hI1, hb0.trans (hb1.mono (by simp))⟩
       clear ho1 hI1 hb1 hb0)
    | (at_builtin; refine wpList_append_any _ rfl (.tmp 16) (.tmp 17) 22 rfl w1.heap.size 5 i0 (.int .u8 0) 1 Tryd.underlying22 hi hz0 hz1 hz2 rfl _ 0 _ rfl (own_empty w1 _ (Nat.le_refl _)) a1 7 c1 ((frm 3 [97]).map (Value.int .u8)) rfl (by rw [List.length_map, H1.out.1.hl]) H1.out.1.none (rd_any (H1.out.1.rd.below ((Below.refl _ _).alloc (Nat.le_refl _) _))) (ints_oneCell _ _) (by decide) (by decide) (by simp) ?_
       intro v2 w2 ho2 hg2
       have H2 : Hid (w2.ownsRow w1.heap.size 5 1 v2 7 ((frm 3 [97]).map (Value.int .u8)) ∧ Below w1.heap.size w1 w2) := by
         have hbb : Below w1.heap.size w1 (w1.alloc (.cells #[] 5)) := (Below.refl _ _).alloc (Nat.le_refl _) _
         exact ⟨ho2, hbb.grown hg2 (by simp) (fun j hj => ((own_empty w1 _ (Nat.le_refl _)).lt j hj).1)⟩
       clear ho2 hg2)
    | (at_builtin; refine wpList_append_own _ rfl (.tmp 18) (.tmp 19) 22 rfl w1.heap.size 5 i0 (.int .u8 0) 1 1 Tryd.underlying22 hi hz0 hz1 hz2 rfl (by decide) _ 7 _ rfl (H2.out.1.alloc _) ⟨w2.heap.size, 0, none⟩ 2 2 [.int .u8 1, .int .u8 2] rfl rfl (two_at w2 _ _ _) (ints_oneCell .u8 [1, 2]) (by decide) (by decide) (by have := H2.out.2.size; simp; omega) ?_
       intro v3 w3 ho3 hg3 _
       have ho3' : w3.ownsRow w1.heap.size 5 1 v3 9 ((frm 3 [97] ++ [1, 2]).map (Value.int .u8)) := by rw [List.map_append]; exact ho3
       obtain ⟨a3, c3, rfl, hI3⟩ := own_isI ho3'
       have hb3 : Below w1.heap.size w2 w3 := ((Below.refl _ _).alloc H2.out.2.size _).grown hg3 (by have := H2.out.2.size; simp; omega) (fun j hj => (H2.out.1.lt j hj).1)
       have H3 : Hid (IsI .u8 w3 a3 9 c3 (frm 3 [97] ++ [1, 2]) ∧ Below w1.heap.size w1 w3) := ⟨hI3, H2.out.2.trans hb3⟩
       clear ho3 hg3 ho3' hI3 hb3)
    | (go_at_call 14
       refine (next_any _ 3 0 [97] [1, 2] _ (by decide) (by decide) (found_ok 3 (by decide) [97] [1, 2] (by decide) hb97.out hb12.out a3 9 c3 _ H3.out.1 ((HH.out.below H1.out.2).below H3.out.2) (by decide))).mono ?_
       rintro e w4 ⟨v4, v5, rfl, ho4, ho5, hb4⟩
       obtain ⟨a4, c4, rfl, hI4⟩ := own_isI ho4
       obtain ⟨a5, c5, rfl, hI5⟩ := own_isI ho5
       have H4 : Hid (IsI .u8 w4 a4 1 c4 [97] ∧ Below w1.heap.size w1 w4) := ⟨hI4, H3.out.2.trans (hb4.mono H3.out.2.size)⟩
       clear hI4 hI5 ho4 ho5 hb4)
    | (go_at_call 13
       refine (only_ok _ 3 [97] (by decide) _ (found_ok 3 (by decide) [97] [] (by decide) hb97.out (fun x hx => by cases hx) a1 7 c1 _ (by rw [List.append_nil]; exact H1.out.1.below H4.out.2) ((HH.out.below H1.out.2).below H4.out.2) (by decide))).mono ?_
       rintro e w5 ⟨v5, rfl, ho5, hb5⟩
       obtain ⟨a6, c6, rfl, hI6⟩ := own_isI ho5
       have H5 : Hid (IsI .u8 w5 a6 1 c6 [97] ∧ IsI .u8 w5 a4 1 c4 [97] ∧ Below w.heap.size w w5) := ⟨hI6, H4.out.1.below hb5, (H1.out.2.trans (H4.out.2.mono H1.out.2.size)).trans (hb5.mono (Nat.le_trans H1.out.2.size H4.out.2.size))⟩
       clear hI6 ho5 hb5)
    | (go_at_call 11
       refine (sum_nine w5 (HH.out.below H5.out.2.2)).mono ?_
       rintro e w6 ⟨rfl, hb6⟩
       have hcv1 := conv_rd w6 a6 c6 1 [97] rfl (H5.out.1.below hb6).rd
       have hcv2 := conv_rd w6 a4 c4 1 [97] rfl (H5.out.2.1.below hb6).rd
       rw [str_a] at hcv1 hcv2
       have H6 : Hid (Below w.heap.size w w6) := H5.out.2.2.trans (hb6.mono H5.out.2.2.size)
       clear hb6))
  go_ret
  exact ⟨rfl, H6.out⟩
end Go.Proofs.YtifkpimglmncdaaDoor
