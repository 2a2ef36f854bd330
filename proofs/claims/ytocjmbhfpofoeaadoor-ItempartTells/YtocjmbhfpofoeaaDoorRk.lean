/- The contracts of Clone, and of the document's own tail and Make. Conditions: sizes. -/
import Derived.Test.YtocjmbhfpofoeaaDoorMk
import Derived.Test.YtocjmbhfpofoeaaDoorHb
namespace Go.Proofs.YtocjmbhfpofoeaaDoor
open Go.RowKit

theorem own_empty (w : World) (base : Nat) (hb : base ≤ w.heap.size) : (w.alloc (.cells #[] 5)).ownsRow base 5 1 (.slice (some ⟨w.heap.size, 0, none⟩) 0 0) 0 (([] : List Int).map (Value.int .u8)) :=
  own_of (m := 0) (n := 0) hb (by decide) rfl (by rw [splice_none]; exact heap_alloc_new w _)
theorem own_one (w : World) (base : Nat) (hb : base ≤ w.heap.size) (x : Int) : (w.alloc (.cells #[.int .u8 x] 5)).ownsRow base 5 1 (.slice (some ⟨w.heap.size, 0, none⟩) 1 1) 1 ([x].map (Value.int .u8)) :=
  own_of (m := 0) (n := 1) hb (by decide) rfl (heap_alloc_new w _)
theorem own_four (w : World) (base : Nat) (hb : base ≤ w.heap.size) (x y z u : Int) : (w.alloc (.cells #[.int .u8 x, .int .u8 y, .int .u8 z, .int .u8 u] 5)).ownsRow base 5 1 (.slice (some ⟨w.heap.size, 0, none⟩) 4 4) 4 ([x, y, z, u].map (Value.int .u8)) :=
  own_of (m := 0) (n := 4) hb (by decide) rfl (heap_alloc_new w _)

set_option maxRecDepth 20000 in
set_option maxHeartbeats 1600000 in
theorem clone_any (a : Option Addr) (len cap : Nat) (zs : List Int) (w : World) (hI : IsI .u8 w a len cap zs) (hlen : len ≤ 100000000) :
    Calls Tryd.prog 40 #[.slice a len cap] w fun e w' => ∃ v', e = .returned v' ∧ w'.ownsRow w.heap.size 5 1 v' len (zs.map (Value.int .u8)) ∧ Below w.heap.size w w' := by
  obtain ⟨i0, hi, hz0, hz1, hz2⟩ := info_parts Tryd.info5
  have HI : Hid (IsI .u8 w a len cap zs) := hI
  clear hI
  cases a with
  | none =>
    obtain ⟨rfl, rfl⟩ := HI.out.none rfl
    have hnil : ∀ W, (binOp .eql 23 (.slice none 0 0) (.slice none 0 0)).run Tryd.prog W = .ok (.bool true) W := fun W => run_eql_nil_slice W _ _ none 0 0 0 0 Tryd.underlying23
    go_enter Tryd.func40, Tryd.ntmps40
    go_wp2
    go_ret
    refine ⟨_, rfl, ?_, Below.refl _ _⟩
    have : zs = [] := List.eq_nil_of_length_eq_zero HI.out.hl
    subst this
    exact World.ownsRow_nil _ _ _ _
  | some ad =>
    have hnil : ∀ W, (binOp .eql 23 (.slice (some ad) len cap) (.slice none 0 0)).run Tryd.prog W = .ok (.bool false) W := fun W => by
      simp only [binOp]
      simp [Op.equal, Op.maxDepth, Lib.run_equalIn_slice_nil W 9999 23 5 (some ad) len cap 0 0 Tryd.underlying23]
    go_enter Tryd.func40, Tryd.ntmps40
    go_wp2_with (at_builtin; refine wpList_append_one _ rfl (.tmp 5) (.tmp 6) 23 rfl w.heap.size 5 i0 (.int .u8 0) 1 Tryd.underlying23 hi hz0 hz1 hz2 rfl _ 0 _ rfl (own_empty w _ (Nat.le_refl _)) (some ad) len cap (zs.map (Value.int .u8)) rfl (by rw [List.length_map, HI.out.hl]) HI.out.none (rd_any (HI.out.rd.below ((Below.refl _ _).alloc (Nat.le_refl _) _))) (ints_oneCell _ _) (by unfold maxLen; omega) (by omega) (by simp) ?_; intro v' w1 hown' hgrow)
    go_ret
    refine ⟨v', rfl, ?_, ?_⟩
    · rw [Nat.zero_add] at hown'; exact hown'
    · exact ((Below.refl w.heap.size w).alloc (Nat.le_refl _) _).grown hgrow (by simp) (fun j hj => ((own_empty w _ (Nat.le_refl _)).lt j hj).1)

set_option maxRecDepth 20000 in
set_option maxHeartbeats 1600000 in
theorem tail_any (a : Option Addr) (len cap : Nat) (zs : List Int) (w : World) (hI : IsI .u8 w a len cap zs) (hby : Bytes zs) (hlen : len ≤ 100000000) :
    Calls Tryd.prog 49 #[.slice a len cap] w fun e w' => ∃ v', e = .returned v' ∧ w'.ownsRow w.heap.size 5 1 v' 4 ((tl (crc zs)).map (Value.int .u8)) ∧ Below w.heap.size w w' := by
  obtain ⟨s, hs⟩ : ∃ s, s = crc zs := ⟨_, rfl⟩
  have hs32 : s < 4294967296 := by rw [hs]; exact crc_lt zs
  have HS := refsum_any a len cap zs w hI.hl (by omega) hI.rd hby
  rw [← hs] at HS ⊢
  have HS' : Hid (Calls Tryd.prog 62 #[.slice a len cap] w fun e w' => e = .returned (.int .u32 (s : Int)) ∧ w' = w) := HS
  clear HS hI hs hby
  go_enter Tryd.func49, Tryd.ntmps49
  go_wp2_with (go_at_call 62; refine HS'.out.mono ?_; rintro e w' ⟨rfl, rfl⟩)
  go_ret
  refine ⟨_, rfl, ?_, (Below.refl _ _).alloc (Nat.le_refl _) _⟩
  exact own_four w' _ (Nat.le_refl _) _ _ _ _

set_option maxRecDepth 20000 in
set_option maxHeartbeats 4000000 in
theorem refmake_any (kind : Nat) (hk : kind ≤ 255) (a : Option Addr) (len cap : Nat) (zs : List Int) (w : World) (hI : IsI .u8 w a len cap zs) (hby : Bytes zs) (hlen : len ≤ 65535) :
    Calls Tryd.prog 28 #[.int .i64 (kind : Int), .slice a len cap] w fun e w' => ∃ v', e = .returned (.tuple #[v', .int .i64 0]) ∧ w'.ownsRow w.heap.size 5 1 v' (frm kind zs).length ((frm kind zs).map (Value.int .u8)) ∧ Below w.heap.size w w' := by
  obtain ⟨i0, hi, hz0, hz1, hz2⟩ := info_parts Tryd.info5
  have HI : Hid (IsI .u8 w a len cap zs ∧ Bytes zs) := ⟨hI, hby⟩
  have hzl := hI.hl
  have hbl : (bs len).length ≤ 10 := bs_le10 (by omega)
  obtain ⟨hl, hhl⟩ : ∃ hl, hl = (bs len).length := ⟨_, rfl⟩
  have HL : Hid (zs.length = len ∧ hl = (bs len).length) := ⟨hzl, hhl⟩
  rw [← hhl] at hbl
  clear hI hby hzl hhl
  have hk1 : ¬ (kind : Int) < 0 := by omega
  have hk2 : ¬ (255 : Int) < (kind : Int) := by omega
  have hl1 : ¬ (65535 : Int) < (len : Int) := by omega
  go_enter Tryd.func28, Tryd.ntmps28
  go_wp2_with (first
    | (go_at_call 29; refine (refbytes_any len _ (by omega)).mono ?_; rw [← HL.out.2]; rintro e w1 ⟨v1, rfl, ho1, hb1⟩; obtain ⟨a1, c1, rfl, hI1⟩ := own_isI ho1
       have HI1 : Hid (IsI .u8 w1 a1 hl c1 (bs len) ∧ Below w.heap.size w w1 ∧ w1.ownsRow w.heap.size 5 1 (.slice (some ⟨w.heap.size, 0, none⟩) 1 1) 1 ([(kind : Int)].map (Value.int .u8))) := ⟨hI1, ((Below.refl w.heap.size w).alloc (Nat.le_refl _) _).trans (hb1.mono (by simp)), own_below (own_one w _ (Nat.le_refl _) _) hb1⟩
       clear hI1 ho1 hb1)
    | (at_builtin; refine wpList_append_one _ rfl (.tmp 19) (.tmp 23) 23 rfl w.heap.size 5 i0 (.int .u8 0) 1 Tryd.underlying23 hi hz0 hz1 hz2 rfl _ 1 _ rfl HI1.out.2.2 a1 hl c1 ((bs len).map (Value.int .u8)) rfl (by rw [List.length_map, HI1.out.1.hl]) HI1.out.1.none (rd_any HI1.out.1.rd) (ints_oneCell _ _) (by unfold maxLen; omega) (by omega) HI1.out.2.1.size ?_
       intro v3 w3 ho3 hg3
       rw [← List.map_append] at ho3
       have HO3 : Hid (w3.ownsRow w.heap.size 5 1 v3 (1 + hl) (([(kind : Int)] ++ bs len).map (Value.int .u8))) := ho3
       have HB3 : Hid (Below w.heap.size w w3) := HI1.out.2.1.trans ((Below.refl _ _).grown hg3 HI1.out.2.1.size (fun j hj => (HI1.out.2.2.lt j hj).1))
       clear ho3 hg3)
    | (at_builtin; refine wpList_append_one _ rfl (.tmp 25) (.tmp 26) 23 rfl w.heap.size 5 i0 (.int .u8 0) 1 Tryd.underlying23 hi hz0 hz1 hz2 rfl _ (1 + hl) _ rfl HO3.out a len cap (zs.map (Value.int .u8)) rfl (by rw [List.length_map, HI.out.1.hl]) HI.out.1.none (rd_any (HI.out.1.rd.below HB3.out)) (ints_oneCell _ _) (by unfold maxLen; omega) (by omega) HB3.out.size ?_
       intro v4 w4 ho4 hg4
       rw [← List.map_append] at ho4
       have HB4 : Hid (Below w.heap.size w w4) := HB3.out.trans ((Below.refl _ _).grown hg4 HB3.out.size (fun j hj => (HO3.out.lt j hj).1))
       obtain ⟨n4, hn4⟩ : ∃ n4, n4 = 1 + hl + len := ⟨_, rfl⟩
       rw [← hn4] at ho4
       have ho5 : w4.ownsRow w.heap.size 5 1 v4 n4 ((hd kind zs).map (Value.int .u8)) := by rw [hd, HL.out.1]; exact ho4
       obtain ⟨a4, c4, rfl, hI4⟩ := own_isI ho5
       have HO4 : Hid (w4.ownsRow w.heap.size 5 1 (.slice a4 n4 c4) n4 ((hd kind zs).map (Value.int .u8)) ∧ IsI .u8 w4 a4 n4 c4 (hd kind zs)) := ⟨ho5, hI4⟩
       have HN : Hid (n4 = 1 + hl + len) := hn4
       have hn4' : n4 ≤ 1000000 := by omega
       clear ho4 hg4 hI4 hn4 ho5)
    | (go_at_call 49; refine (tail_any a4 n4 c4 (hd kind zs) w4 HO4.out.2 (hd_bytes hk (by rw [HL.out.1]; omega) HI.out.2) (by omega)).mono ?_; rintro e w5 ⟨v5, rfl, ho5, hb5⟩; obtain ⟨a5, c5, rfl, hI5⟩ := own_isI ho5
       have HI5 : Hid (IsI .u8 w5 a5 4 c5 (tl (crc (hd kind zs))) ∧ Below w4.heap.size w4 w5) := ⟨hI5, hb5⟩
       clear hI5 ho5 hb5)
    | (at_builtin; refine wpList_append_one _ rfl (.tmp 28) (.tmp 30) 23 rfl w.heap.size 5 i0 (.int .u8 0) 1 Tryd.underlying23 hi hz0 hz1 hz2 rfl _ n4 _ rfl (own_below HO4.out.1 HI5.out.2) a5 4 c5 ((tl (crc (hd kind zs))).map (Value.int .u8)) rfl (by rw [List.length_map, HI5.out.1.hl]) HI5.out.1.none (rd_any HI5.out.1.rd) (ints_oneCell _ _) (by unfold maxLen; omega) (by omega) (Nat.le_trans HB4.out.size HI5.out.2.size) ?_
       intro v6 w6 ho6 hg6))
  go_ret2
  refine ⟨v6, rfl, ?_, ?_⟩
  · have e : (frm kind zs).length = n4 + 4 := by rw [frm_length, HN.out, HL.out.1, ← HL.out.2]
    rw [e, frm, List.map_append]
    exact ho6
  · exact (HB4.out.trans (HI5.out.2.mono HB4.out.size)).trans ((Below.refl _ _).grown hg6 (Nat.le_trans HB4.out.size HI5.out.2.size) (fun j hj => ((own_below HO4.out.1 HI5.out.2).lt j hj).1))

theorem refmake_arg (kind : Int) (hk : kind < 0 ∨ 255 < kind) (a : Option Addr) (len cap : Nat) (w : World) :
    Calls Tryd.prog 28 #[.int .i64 kind, .slice a len cap] w fun e w' => e = .returned (.tuple #[.slice none 0 0, .int .i64 1]) ∧ w' = w := by
  by_cases h : kind < 0
  · go_enter Tryd.func28, Tryd.ntmps28
    go_wp2
    go_ret2
    exact ⟨rfl, rfl⟩
  · have h2 : 255 < kind := by omega
    go_enter Tryd.func28, Tryd.ntmps28
    go_wp2
    go_ret2
    exact ⟨rfl, rfl⟩
theorem refmake_limit (kind : Int) (h0 : 0 ≤ kind) (h1 : kind ≤ 255) (a : Option Addr) (len cap : Nat) (hl : 65535 < len) (w : World) :
    Calls Tryd.prog 28 #[.int .i64 kind, .slice a len cap] w fun e w' => e = .returned (.tuple #[.slice none 0 0, .int .i64 2]) ∧ w' = w := by
  have h2 : ¬ kind < 0 := by omega
  have h3 : ¬ 255 < kind := by omega
  have h4 : (65535 : Int) < (len : Int) := by omega
  go_enter Tryd.func28, Tryd.ntmps28
  go_wp2
  go_ret2
  exact ⟨rfl, rfl⟩
end Go.Proofs.YtocjmbhfpofoeaaDoor
