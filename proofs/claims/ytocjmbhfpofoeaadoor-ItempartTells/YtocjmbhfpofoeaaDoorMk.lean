/- The contracts of summed, of Make, of the document's own tail and Make, and of Clone. Conditions: the table of half bytes; sizes. -/
import Derived.Test.YtocjmbhfpofoeaaDoorIx
namespace Go.Proofs.YtocjmbhfpofoeaaDoor
open Go.RowKit

theorem four_at (w : World) (x y z u : Value) (t : TypeId) : ∀ j v, [x, y, z, u][j]? = some v → (w.alloc (.cells #[x, y, z, u] t)).cell? ((⟨w.heap.size, 0, none⟩ : Addr).add j) = some v := by
  intro j v hj
  match j, hj with
  | 0, hj => simp at hj; subst hj; simp [Addr.add]
  | 1, hj => simp at hj; subst hj; simp [Addr.add]
  | 2, hj => simp at hj; subst hj; simp [Addr.add]
  | 3, hj => simp at hj; subst hj; simp [Addr.add]
theorem tl_map (s : Nat) : (tl s).map (Value.int .u8) = [.int .u8 ((s : Int) / 16777216), .int .u8 ((s : Int) / 65536 % 256), .int .u8 ((s : Int) / 256 % 256), .int .u8 ((s : Int) % 256)] := rfl
theorem four_one (x y z u : Int) : ∀ v ∈ [Value.int .u8 x, .int .u8 y, .int .u8 z, .int .u8 u], v.oneCell' = true := by
  intro v hv
  simp at hv
  rcases hv with rfl | rfl | rfl | rfl <;> rfl

set_option maxRecDepth 20000 in
set_option maxHeartbeats 1600000 in
theorem summed_any (base : Nat) (a : Option Addr) (c n : Nat) (zs : List Int) (w : World) (hown : w.ownsRow base 5 1 (.slice a n c) n (zs.map (Value.int .u8))) (hb : base ≤ w.heap.size) (hn : n ≤ 1000000) (hby : Bytes zs) (hH : Ha w) :
    Calls Tryd.prog 61 #[.slice a n c] w fun e w' => ∃ v', e = .returned v' ∧ w'.ownsRow base 5 1 v' (n + 4) ((zs ++ tl (crc zs)).map (Value.int .u8)) ∧ Below base w w' := by
  obtain ⟨i0, hi, hz0, hz1, hz2⟩ := info_parts Tryd.info5
  obtain ⟨a', c', he, hI⟩ := own_isI hown
  cases he
  obtain ⟨s, hs⟩ : ∃ s, s = crc zs := ⟨_, rfl⟩
  have hs32 : s < 4294967296 := by rw [hs]; exact crc_lt zs
  have HS := sum_any a n c zs w hI.hl (by omega) hI.rd hby hH
  rw [← hs] at HS ⊢
  have HS' : Hid (Calls Tryd.prog 73 #[.slice a n c] w fun e w' => e = .returned (.int .u32 (s : Int)) ∧ w' = w) := HS
  have HO : Hid (w.ownsRow base 5 1 (.slice a n c) n (zs.map (Value.int .u8))) := hown
  clear HS hown hI hs
  go_enter Tryd.func61, Tryd.ntmps61
  go_wp2_with (first
    | (go_at_call 73; refine HS'.out.mono ?_; rintro e w' ⟨rfl, rfl⟩)
    | (at_builtin; refine wpList_append_own _ rfl (.tmp 6) (.tmp 18) 23 rfl base 5 i0 (.int .u8 0) 1 1 Tryd.underlying23 hi hz0 hz1 hz2 rfl (by decide) _ n _ rfl (HO.out.alloc _) ⟨w'.heap.size, 0, none⟩ 4 4 [.int .u8 ((s : Int) / 16777216), .int .u8 ((s : Int) / 65536 % 256), .int .u8 ((s : Int) / 256 % 256), .int .u8 ((s : Int) % 256)] rfl rfl (four_at w' _ _ _ _ _) (four_one _ _ _ _) (by unfold maxLen; omega) (by omega) (by simp; omega) ?_; intro v' w1 hown' hgrow _))
  go_ret
  refine ⟨v', rfl, ?_, ?_⟩
  · rw [List.map_append, tl_map]; exact hown'
  · exact ((Below.refl base w').alloc hb _).grown hgrow (by simp; omega) (fun j hj => (HO.out.lt j hj).1)

/-- All of a frame but its sum. -/
def hd (kind : Nat) (zs : List Int) : List Int := (kind : Int) :: (bs zs.length ++ zs)
/-- A frame. -/
def frm (kind : Nat) (zs : List Int) : List Int := hd kind zs ++ tl (crc (hd kind zs))
theorem hd_length (kind : Nat) (zs : List Int) : (hd kind zs).length = 1 + (bs zs.length).length + zs.length := by simp [hd]; omega
theorem frm_length (kind : Nat) (zs : List Int) : (frm kind zs).length = 1 + (bs zs.length).length + zs.length + 4 := by simp [frm, hd_length, tl_length]
theorem hd_bytes {kind : Nat} {zs : List Int} (hk : kind ≤ 255) (hz : zs.length < 18446744073709551616) (h : Bytes zs) : Bytes (hd kind zs) := by
  intro x hx
  rcases List.mem_cons.1 hx with rfl | hx
  · omega
  · rcases List.mem_append.1 hx with hx | hx
    · exact bs_mem64 hz x hx
    · exact h x hx
theorem frm_bytes {kind : Nat} {zs : List Int} (hk : kind ≤ 255) (hz : zs.length < 18446744073709551616) (h : Bytes zs) : Bytes (frm kind zs) := by
  intro x hx
  rcases List.mem_append.1 hx with hx | hx
  · exact hd_bytes hk hz h x hx
  · exact tl_bytes (crc_lt _) x hx
theorem splice_none (l : List Value) : splice l 0 (([] : List Int).map (Value.int .u8)) = l := by simp [splice]

set_option maxRecDepth 20000 in
set_option maxHeartbeats 4000000 in
theorem make_any (kind : Nat) (hk : kind ≤ 255) (a : Option Addr) (len cap : Nat) (zs : List Int) (w : World) (hI : IsI .u8 w a len cap zs) (hby : Bytes zs) (hlen : len ≤ 65535) (hH : Ha w) :
    Calls Tryd.prog 45 #[.int .i64 (kind : Int), .slice a len cap] w fun e w' => ∃ v', e = .returned (.tuple #[v', .int .i64 0]) ∧ w'.ownsRow w.heap.size 5 1 v' (frm kind zs).length ((frm kind zs).map (Value.int .u8)) ∧ Below w.heap.size w w' := by
  obtain ⟨i0, hi, hz0, hz1, hz2⟩ := info_parts Tryd.info5
  have HI : Hid (IsI .u8 w a len cap zs ∧ Bytes zs ∧ Ha w) := ⟨hI, hby, hH⟩
  have hzl := hI.hl
  have hbl : (bs len).length ≤ 10 := bs_le10 (by omega)
  obtain ⟨hl, hhl⟩ : ∃ hl, hl = (bs len).length := ⟨_, rfl⟩
  have HL : Hid (zs.length = len ∧ hl = (bs len).length) := ⟨hzl, hhl⟩
  rw [← hhl] at hbl
  obtain ⟨m, hm⟩ : ∃ m, m = 1 + hl + len + 4 := ⟨_, rfl⟩
  have hmi : 1 + (hl : Int) + (len : Int) + 4 = (m : Int) := by omega
  clear hm
  clear hI hby hH hzl hhl
  have hk1 : ¬ (kind : Int) < 0 := by omega
  have hk2 : ¬ (255 : Int) < (kind : Int) := by omega
  have hl1 : ¬ (65535 : Int) < (len : Int) := by omega
  go_enter Tryd.func45, Tryd.ntmps45
  go_wp2_with (first
    | (go_at_call 59; refine (put_any (some ⟨w.heap.size, 0, none⟩) 1 1 [(kind : Int)] len _ (by omega) rfl (.inr ⟨w.heap.size, 0, rfl, by simp, fun i hi => by
          obtain rfl : i = 0 := by simp at hi; omega
          simp⟩) (by omega)).mono ?_; rw [← HL.out.2]; rintro e w1 ⟨v1, rfl, ho1, hb1⟩; obtain ⟨a1, c1, rfl, hI1⟩ := own_isI ho1
       have HI1 : Hid (IsI .u8 w1 a1 (1 + hl) c1 ([(kind : Int)] ++ bs len) ∧ Below w.heap.size w w1) := ⟨hI1, ((Below.refl w.heap.size w).alloc (Nat.le_refl _) _).trans (hb1.mono (by simp))⟩
       clear hI1 ho1 hb1)
    | (at_make; refine wpList_make_any _ rfl (.const (.int .i64 0)) (.tmp 29) 23 rfl 5 i0 (.int .u8 0) Tryd.underlying23 hi hz0 .i64 .i64 _ _ 0 m rfl rfl (by omega) (by omega) (by omega) (by rw [hz2]; omega) (by unfold maxLen; omega) (zeros m).toArray (by rw [hz1, zeros_made]) ?_
       have HO2 : Hid ((w1.alloc (.cells (zeros m).toArray 5)).ownsRow w.heap.size 5 1 (.slice (some ⟨w1.heap.size, 0, none⟩) 0 m) 0 ([].map (Value.int .u8))) := by
         have := own_of (m := m) (n := 0) (xs := ([] : List Int).map (Value.int .u8)) HI1.out.2.size (by unfold maxLen; omega) rfl (by rw [splice_none]; exact heap_alloc_new w1 _)
         rwa [Nat.zero_add] at this
       have HB2 : Hid (Below w.heap.size w (w1.alloc (.cells (zeros m).toArray 5))) := HI1.out.2.alloc HI1.out.2.size _
       have HJ2 : Hid (IsI .u8 (w1.alloc (.cells (zeros m).toArray 5)) a1 (1 + hl) c1 ([(kind : Int)] ++ bs len)) := HI1.out.1.below ((Below.refl _ _).alloc (Nat.le_refl _) _)
       generalize (w1.alloc (.cells (zeros m).toArray 5)) = w2 at *)
    | (at_builtin; refine wpList_append_one _ rfl (.tmp 31) (.tmp 32) 23 rfl w.heap.size 5 i0 (.int .u8 0) 1 Tryd.underlying23 hi hz0 hz1 hz2 rfl _ 0 _ rfl HO2.out a1 (1 + hl) c1 (([(kind : Int)] ++ bs len).map (Value.int .u8)) rfl (by rw [List.length_map, HJ2.out.hl]) HJ2.out.none (rd_any HJ2.out.rd) (ints_oneCell _ _) (by unfold maxLen; omega) (by omega) HB2.out.size ?_
       intro v3 w3 ho3 hg3
       rw [← List.map_append, List.nil_append] at ho3
       have HO3 : Hid (w3.ownsRow w.heap.size 5 1 v3 (0 + (1 + hl)) (([(kind : Int)] ++ bs len).map (Value.int .u8))) := ho3
       have HB3 : Hid (Below w.heap.size w w3) := HB2.out.trans ((Below.refl _ _).grown hg3 HB2.out.size (fun j hj => (HO2.out.lt j hj).1))
       clear ho3 hg3)
    | (at_builtin; refine wpList_append_one _ rfl (.tmp 34) (.tmp 35) 23 rfl w.heap.size 5 i0 (.int .u8 0) 1 Tryd.underlying23 hi hz0 hz1 hz2 rfl _ (0 + (1 + hl)) _ rfl HO3.out a len cap (zs.map (Value.int .u8)) rfl (by rw [List.length_map, HI.out.1.hl]) HI.out.1.none (rd_any (HI.out.1.rd.below HB3.out)) (ints_oneCell _ _) (by unfold maxLen; omega) (by omega) HB3.out.size ?_
       intro v4 w4 ho4 hg4
       rw [← List.map_append] at ho4
       have HB4 : Hid (Below w.heap.size w w4) := HB3.out.trans ((Below.refl _ _).grown hg4 HB3.out.size (fun j hj => (HO3.out.lt j hj).1))
       obtain ⟨n4, hn4⟩ : ∃ n4, n4 = 0 + (1 + hl) + len := ⟨_, rfl⟩
       rw [← hn4] at ho4
       obtain ⟨a4, c4, rfl, hI4⟩ := own_isI ho4
       have HO4 : Hid (w4.ownsRow w.heap.size 5 1 (.slice a4 n4 c4) n4 ((hd kind zs).map (Value.int .u8))) := by
         show w4.ownsRow _ _ _ _ _ _
         rw [hd, HL.out.1]; exact ho4
       have HN : Hid (n4 = 0 + (1 + hl) + len) := hn4
       have hn4' : n4 ≤ 1000000 := by omega
       clear ho4 hg4 hI4 hn4)
    | (go_at_call 61; refine (summed_any w.heap.size a4 c4 n4 (hd kind zs) w4 HO4.out HB4.out.size hn4' (hd_bytes hk (by rw [HL.out.1]; omega) HI.out.2.1) (HI.out.2.2.below HB4.out)).mono ?_; rintro e w5 ⟨v5, rfl, ho5, hb5⟩))
  go_ret2
  refine ⟨v5, rfl, ?_, HB4.out.trans hb5⟩
  have e : (frm kind zs).length = n4 + 4 := by rw [frm_length, HN.out, HL.out.1, ← HL.out.2]; omega
  rw [e]
  exact ho5

theorem make_arg (kind : Int) (hk : kind < 0 ∨ 255 < kind) (a : Option Addr) (len cap : Nat) (w : World) :
    Calls Tryd.prog 45 #[.int .i64 kind, .slice a len cap] w fun e w' => e = .returned (.tuple #[.slice none 0 0, .int .i64 1]) ∧ w' = w := by
  by_cases h : kind < 0
  · go_enter Tryd.func45, Tryd.ntmps45
    go_wp2
    go_ret2
    exact ⟨rfl, rfl⟩
  · have h2 : 255 < kind := by omega
    go_enter Tryd.func45, Tryd.ntmps45
    go_wp2
    go_ret2
    exact ⟨rfl, rfl⟩
theorem make_limit (kind : Int) (h0 : 0 ≤ kind) (h1 : kind ≤ 255) (a : Option Addr) (len cap : Nat) (hl : 65535 < len) (w : World) :
    Calls Tryd.prog 45 #[.int .i64 kind, .slice a len cap] w fun e w' => e = .returned (.tuple #[.slice none 0 0, .int .i64 2]) ∧ w' = w := by
  have h2 : ¬ kind < 0 := by omega
  have h3 : ¬ 255 < kind := by omega
  have h4 : (65535 : Int) < (len : Int) := by omega
  go_enter Tryd.func45, Tryd.ntmps45
  go_wp2
  go_ret2
  exact ⟨rfl, rfl⟩
end Go.Proofs.YtocjmbhfpofoeaaDoor
