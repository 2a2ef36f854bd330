/- The contract of Only; what first finds in frames, in frames whose sum is another one, in frames that are cut. Conditions: the table of half bytes; sizes. -/
import Derived.Test.YtifkpimglmncdaaDoorNo
namespace Go.Proofs.YtifkpimglmncdaaDoor
open Go.RowKit

set_option maxHeartbeats 1600000 in
theorem only_err (b : Value) (k x ask : Int) (hx : (x == 0) = false) (z1 z2 : List Int) (w : World) (HF : Hid (Calls Tryd.prog 19 #[b] w (Found w k x z1 z2))) :
    Calls Tryd.prog 13 #[b, .int .i64 ask] w fun e w' => e = .returned (.tuple #[.slice none 0 0, .int .i64 x]) ∧ Below w.heap.size w w' := by
  go_enter Tryd.func13, Tryd.ntmps13
  go_wp2_with (go_at_call 19; refine HF.out.mono ?_; rintro e w0 ⟨hb0, a1, n1, c1, a2, n2, c2, rfl, hI1', hI2'⟩
               have HI : Hid (Below w.heap.size w w0) := hb0
               clear hI1' hI2' hb0)
  go_ret2
  exact ⟨rfl, HI.out.alloc HI.out.size _⟩
set_option maxHeartbeats 1600000 in
theorem only_rest (b : Value) (k ask : Int) (z1 z2 : List Int) (hz : 0 < z2.length) (w : World) (HF : Hid (Calls Tryd.prog 19 #[b] w (Found w k 0 z1 z2))) :
    Calls Tryd.prog 13 #[b, .int .i64 ask] w fun e w' => e = .returned (.tuple #[.slice none 0 0, .int .i64 11]) ∧ Below w.heap.size w w' := by
  go_enter Tryd.func13, Tryd.ntmps13
  go_wp2_with (go_at_call 19; refine HF.out.mono ?_; rintro e w0 ⟨hb0, a1, n1, c1, a2, n2, c2, rfl, hI1', hI2'⟩
               have HI : Hid (Below w.heap.size w w0) := hb0
               have hn2 : (0 : Int) < (n2 : Int) := by have := hI2'.hl; omega
               clear hI1' hI2' hb0)
  go_ret2
  exact ⟨rfl, HI.out.alloc HI.out.size _⟩
set_option maxHeartbeats 1600000 in
theorem only_kind (b : Value) (k ask : Int) (hk : (k == ask) = false) (z1 : List Int) (w : World) (HF : Hid (Calls Tryd.prog 19 #[b] w (Found w k 0 z1 []))) :
    Calls Tryd.prog 13 #[b, .int .i64 ask] w fun e w' => e = .returned (.tuple #[.slice none 0 0, .int .i64 11]) ∧ Below w.heap.size w w' := by
  go_enter Tryd.func13, Tryd.ntmps13
  go_wp2_with (go_at_call 19; refine HF.out.mono ?_; rintro e w0 ⟨hb0, a1, n1, c1, a2, n2, c2, rfl, hI1', hI2'⟩
               have HI : Hid (Below w.heap.size w w0) := hb0
               obtain rfl : n2 = 0 := hI2'.hl.symm
               clear hI1' hI2' hb0)
  go_ret2
  exact ⟨rfl, HI.out.alloc HI.out.size _⟩
set_option maxHeartbeats 1600000 in
theorem only_ok (b : Value) (k : Int) (z1 : List Int) (hz : z1.length ≤ 100000000) (w : World) (HF : Hid (Calls Tryd.prog 19 #[b] w (Found w k 0 z1 []))) :
    Calls Tryd.prog 13 #[b, .int .i64 k] w fun e w' => ∃ v, e = .returned (.tuple #[v, .int .i64 0]) ∧ w'.ownsRow w.heap.size 5 1 v z1.length (z1.map (Value.int .u8)) ∧ Below w.heap.size w w' := by
  go_enter Tryd.func13, Tryd.ntmps13
  go_wp2_with (first
    | (go_at_call 19; refine HF.out.mono ?_; rintro e w0 ⟨hb0, a1, n1, c1, a2, n2, c2, rfl, hI1', hI2'⟩
       have HI : Hid (IsI .u8 w0 a1 n1 c1 z1 ∧ Below w.heap.size w w0) := ⟨hI1', hb0⟩
       obtain rfl : n2 = 0 := hI2'.hl.symm
       clear hI1' hI2' hb0)
    | (go_at_call 20; refine (clone_any a1 n1 c1 z1 _ (HI.out.1.below ((Below.refl _ _).alloc (Nat.le_refl _) _)) (by have := HI.out.1.hl; omega)).mono ?_; rintro e w2 ⟨v, rfl, ho, hb2⟩))
  go_ret2
  refine ⟨v, rfl, ?_, ?_⟩
  · rw [HI.out.1.hl]; exact own_mono ho (by have := HI.out.2.size; simp; omega)
  · exact (HI.out.2.alloc HI.out.2.size _).trans (hb2.mono (by have := HI.out.2.size; simp; omega))

theorem isI_nil (w : World) : IsI .u8 w none 0 0 [] := ⟨rfl, Nat.le_refl _, Nat.zero_le _, .inl rfl, fun _ => rfl⟩
theorem found_ok (kind : Nat) (hk : kind ≤ 255) (zs rest : List Int) (hn : zs.length ≤ 65535) (hbz : Bytes zs) (hbr : Bytes rest) (a : Option Addr) (len cap : Nat) (w : World) (hI : IsI .u8 w a len cap (frm kind zs ++ rest)) (hH : Ha w) (hlen : len ≤ 1000000) :
    Calls Tryd.prog 19 #[.slice a len cap] w (Found w kind 0 zs rest) := by
  have hl := hI.hl
  rw [List.length_append, frm_length] at hl
  have hby : Bytes (frm kind zs ++ rest) := fun x hx => by
    rcases List.mem_append.1 hx with h | h
    · exact frm_bytes hk (by omega) hbz x h
    · exact hbr x h
  obtain ⟨g, off, rfl, hS⟩ := sb_of hI hby (by omega)
  refine (first_any g off len cap kind zs (tl (crc (hd kind zs))) rest _ w hk hn (tl_length _) rfl hS hH hlen true (by rw [jn_tl (crc_lt _)]; simp)).mono ?_
  rintro e w' ⟨hb, h⟩
  obtain ⟨a1, c1, a2, c2, rfl, h1, h2⟩ := h
  exact ⟨hb, a1, _, c1, a2, _, c2, rfl, h1, h2⟩
theorem found_sum (kind : Nat) (hk : kind ≤ 255) (zs s4 : List Int) (hn : zs.length ≤ 65535) (hbz : Bytes zs) (hb4 : Bytes s4) (h4 : s4.length = 4) (hne : jn s4 0 ≠ crc (hd kind zs)) (a : Option Addr) (len cap : Nat) (w : World) (hI : IsI .u8 w a len cap (hd kind zs ++ s4)) (hH : Ha w) (hlen : len ≤ 1000000) :
    Calls Tryd.prog 19 #[.slice a len cap] w (Found w 0 50 [] []) := by
  have hl := hI.hl
  rw [List.length_append, hd_length] at hl
  have hby : Bytes (hd kind zs ++ s4) := fun x hx => by
    rcases List.mem_append.1 hx with h | h
    · exact hd_bytes hk (by omega) hbz x h
    · exact hb4 x h
  obtain ⟨g, off, rfl, hS⟩ := sb_of hI hby (by omega)
  refine (first_any g off len cap kind zs s4 [] _ w hk hn h4 (List.append_nil _).symm hS hH hlen false (by simp; omega)).mono ?_
  rintro e w' ⟨hb, h⟩
  exact ⟨hb, none, 0, 0, none, 0, 0, h, isI_nil _, isI_nil _⟩
theorem found_cut (kind : Nat) (hk : kind ≤ 255) (zs s4 : List Int) (hn : zs.length ≤ 65535) (hbz : Bytes zs) (hb4 : Bytes s4) (h4 : s4.length = 4) (a : Option Addr) (len cap : Nat) (hlt : len < (hd kind zs ++ s4).length) (w : World) (hI : IsI .u8 w a len cap ((hd kind zs ++ s4).take len)) :
    Calls Tryd.prog 19 #[.slice a len cap] w (Found w 0 10 [] []) := by
  by_cases h0 : len = 0
  · subst h0
    refine (first_empty a cap w).mono ?_
    rintro e w' ⟨rfl, hb⟩
    exact ⟨hb, none, 0, 0, none, 0, 0, rfl, isI_nil _, isI_nil _⟩
  · have hby : Bytes ((hd kind zs ++ s4).take len) := fun x hx => by
      rcases List.mem_append.1 (List.mem_of_mem_take hx) with h | h
      · exact hd_bytes hk (by omega) hbz x h
      · exact hb4 x h
    obtain ⟨g, off, rfl, hS⟩ := sb_of hI hby (by omega)
    refine (first_cut g off len cap kind zs s4 _ w hk hn h4 (by omega) hlt rfl hS).mono ?_
    rintro e w' ⟨rfl, hb⟩
    exact ⟨hb, none, 0, 0, none, 0, 0, rfl, isI_nil _, isI_nil _⟩
end Go.Proofs.YtifkpimglmncdaaDoor
