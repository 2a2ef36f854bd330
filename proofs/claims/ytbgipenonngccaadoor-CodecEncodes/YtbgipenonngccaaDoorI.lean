/- The contract of PutAll: what was there, and behind it the bytes of each number, turned, in new memory. Conditions: at most 5000 numbers, bytes ahead far fewer than a slice may hold. -/
import Derived.Test.YtbgipenonngccaaDoorH
namespace Go.Proofs.YtbgipenonngccaaDoor
open Go.RowKit

/-- The bytes of a number, turned. -/
def zb (n : Int) : List Int := bs (zz n).toNat
/-- The bytes of numbers, turned, one behind the other. -/
def zbs : List Int → List Int
  | [] => []
  | n :: r => zb n ++ zbs r
theorem zbs_append : ∀ (a b : List Int), zbs (a ++ b) = zbs a ++ zbs b
  | [], b => rfl
  | n :: r, b => by simp [zbs, zbs_append r b]
theorem zbs_take_succ (l : List Int) (k : Nat) (hk : k < l.length) : zbs (l.take (k + 1)) = zbs (l.take k) ++ zb (l.getD k 0) := by
  rw [List.take_succ_eq_append_getElem hk, zbs_append]
  simp [zbs, List.getD, hk]
/-- Each fits an int64. -/
def All64 (l : List Int) : Prop := ∀ k, -9223372036854775808 ≤ l.getD k 0 ∧ l.getD k 0 ≤ 9223372036854775807
theorem zb_len {n : Int} (h0 : -9223372036854775808 ≤ n) (h1 : n ≤ 9223372036854775807) : 1 ≤ (zb n).length ∧ (zb n).length ≤ 10 := by
  have := zz_bd h0 h1
  exact ⟨bs_pos _, bs_le10 (by omega)⟩
theorem zbs_len (l : List Int) (h : All64 l) : ∀ k, k ≤ l.length → (zbs (l.take k)).length ≤ 10 * k
  | 0, _ => by simp [zbs]
  | k + 1, hk => by
    have ih := zbs_len l h k (by omega)
    rw [zbs_take_succ l k (by omega), List.length_append]
    have := (zb_len (h k).1 (h k).2).2
    omega
theorem zz_nat {n : Int} (h0 : -9223372036854775808 ≤ n) (h1 : n ≤ 9223372036854775807) : ∃ u : Nat, zz n = (u : Int) ∧ u < 18446744073709551616 ∧ zb n = bs u := by
  have := zz_bd h0 h1
  exact ⟨(zz n).toNat, by omega, by omega, rfl⟩

set_option maxHeartbeats 1600000 in
theorem putall_any (a : Option Addr) (len cap : Nat) (zs : List Int) (al : Option Addr) (n capl : Nat) (ls : List Int) (w : World) (hz : zs.length = len) (hrd : Rd .u8 w a zs) (hs : len ≤ 140737486000000)
    (hn : ls.length = n) (hn2 : n ≤ 5000) (hl : Rd .i64 w al ls) (h64 : All64 ls) :
    Calls Tryd.prog 25 #[.slice a len cap, .slice al n capl] w fun e w' => ∃ g c, e = .returned (.slice (some ⟨g, 0, none⟩) (len + (zbs ls).length) c) ∧ w'.ownsRow w.heap.size 5 1 (.slice (some ⟨g, 0, none⟩) (len + (zbs ls).length) c) (len + (zbs ls).length) ((zs ++ zbs ls).map (Value.int .u8)) ∧ Below w.heap.size w w' := by
  have HR : Hid (Rd .u8 w a zs ∧ zs.length = len) := ⟨hrd, hz⟩
  have HC : Hid (∀ k, k < n → ∃ b off, al = some ⟨b, off, none⟩ ∧ b < w.heap.size ∧ w.cell? ⟨b, off + k, none⟩ = some (.int .i64 (ls.getD k 0))) := by
    intro k hk
    rcases hl with rfl | ⟨b, off, h1, h2, h3⟩
    · simp at hn; omega
    · exact ⟨b, off, h1, h2, h3 k (by omega)⟩
  have HL : Hid (All64 ls ∧ ls.length = n) := ⟨h64, hn⟩
  clear hrd hz hl h64 hn
  go_enter Tryd.func25, Tryd.ntmps25
  go_wp2
  go_loop [5, 13] (fun s i => ∃ k : Nat, i = .int .i64 (k : Int) ∧ k ≤ n ∧ s = .int .i64 ((zbs (ls.take k)).length : Int)) (fun _ i => n - (intOf i).toNat)
  case atStart => exact ⟨0, rfl, Nat.zero_le _, rfl⟩
  case round =>
    obtain ⟨k, rfl, hk, rfl⟩ := hrel
    have hsz := zbs_len ls HL.out.1 k (by have := HL.out.2; omega)
    by_cases hlt : k < n
    · obtain ⟨b, off, rfl, hb, hc⟩ := HC.out k hlt
      obtain ⟨x0, x1⟩ := HL.out.1 k
      obtain ⟨u, hu1, hu2, hu3⟩ := zz_nat x0 x1
      have HU : Hid (zb (ls.getD k 0) = bs u) := hu3
      have Hzig := (show Hid _ from zig_any (ls.getD k 0) x0 x1)
      rw [hu1] at Hzig
      clear hu1 hu3
      have hlu := bs_le10 hu2
      have hlt' : (k : Int) < (n : Int) := by omega
      have HN : Hid (zbs (ls.take (k + 1)) = zbs (ls.take k) ++ zb (ls.getD k 0)) := zbs_take_succ ls k (by have := HL.out.2; omega)
      generalize ls.getD k 0 = x at *
      go_wp2_with (first
        | (go_at_call 38; refine (Hzig.out _).mono ?_; rintro e w' ⟨rfl, rfl⟩)
        | (go_at_call 37; refine (size_any u hu2 _).mono ?_; rintro e w' ⟨rfl, rfl⟩))
      go_round
      case rel =>
        refine ⟨k + 1, by go_num, by omega, ?_⟩
        rw [HN.out, HU.out, List.length_append]; go_num
      case measure => simp [intOf]; omega
    · have hlt' : ¬ (k : Int) < (n : Int) := by omega
      obtain rfl : k = n := by omega
      go_wp2_with (go_at_call 36; refine (grown_any a len cap (zbs (ls.take k)).length zs _ HR.out.2 HR.out.1 (by omega)).mono ?_; rintro e w1 ⟨rfl, ho1, hb1⟩)
      go_loopw [8, 28] (fun s i wr => ∃ j : Nat, ∃ g c, i = .int .i64 (j : Int) ∧ j ≤ k ∧ s = .slice (some ⟨g, 0, none⟩) (len + (zbs (ls.take j)).length) c ∧ wr.ownsRow w.heap.size 5 1 s (len + (zbs (ls.take j)).length) ((zs ++ zbs (ls.take j)).map (Value.int .u8)) ∧ Below w.heap.size w wr) (fun _ i _ => k - (intOf i).toNat)
      case atStart => exact ⟨0, w.heap.size, _, rfl, Nat.zero_le _, rfl, by simpa [zbs] using ho1, hb1⟩
      case round =>
        obtain ⟨j, g, c, rfl, hj, rfl, ho, hb⟩ := hrel
        have hszj := zbs_len ls HL.out.1 j (by have := HL.out.2; omega)
        by_cases hlj : j < k
        · obtain ⟨b, off, rfl, hbb, hc⟩ := HC.out j hlj
          have hcj := (hb.cell (p := ⟨b, off + j, none⟩) hbb).trans hc
          clear hc
          obtain ⟨x0, x1⟩ := HL.out.1 j
          obtain ⟨u, hu1, hu2, hu3⟩ := zz_nat x0 x1
          have HU : Hid (zb (ls.getD j 0) = bs u) := hu3
          have Hzig := (show Hid _ from zig_any (ls.getD j 0) x0 x1)
          rw [hu1] at Hzig
          clear hu1 hu3
          have hlu := bs_le10 hu2
          have hlj' : (j : Int) < (k : Int) := by omega
          have HN : Hid (zbs (ls.take (j + 1)) = zbs (ls.take j) ++ zb (ls.getD j 0)) := zbs_take_succ ls j (by have := HL.out.2; omega)
          generalize ls.getD j 0 = x at *
          go_wp2_with (first
            | (go_at_call 38; refine (Hzig.out _).mono ?_; rintro e w' ⟨rfl, rfl⟩)
            | (go_at_call 35; refine (add_any w.heap.size _ _ _ u _ hu2 ho hb.size (by omega)).mono ?_; rintro e w' ⟨v', rfl, ho2, hb2⟩))
          have hup := bs_pos u
          obtain ⟨g', c', rfl, _⟩ := own_some ho2 (by omega)
          go_roundw
          case rel =>
            refine ⟨j + 1, g', c', by go_num, by omega, ?_, ?_, hb.trans hb2⟩
            · rw [HN.out, HU.out, List.length_append, Nat.add_assoc]
            · rw [HN.out, HU.out, List.length_append, ← List.append_assoc, List.map_append, ← Nat.add_assoc]
              exact ho2
          case measure => simp [intOf]; omega
        · have hlj' : ¬ (j : Int) < (k : Int) := by omega
          obtain rfl : j = k := by omega
          go_wp2
          go_ret
          have e : zbs (ls.take j) = zbs ls := by rw [List.take_of_length_le (by have := HL.out.2; omega)]
          rw [e] at ho
          exact ⟨g, c, by rw [← e]; rfl, by rw [← List.map_append]; exact ho, hb⟩
end Go.Proofs.YtbgipenonngccaaDoor
