/- The contracts of Sum, of the document's own Sum, and of joined. Conditions: the table of half bytes holds what it is laid with; the bytes are bytes. -/
import Derived.Test.YtocjmbhfpofoeaaDoorSp
import Derived.Test.YtocjmbhfpofoeaaDoorVa
import Derived.Test.YtocjmbhfpofoeaaDoorCr
import Derived.Laws.BitsAllLaws
namespace Go.Proofs.YtocjmbhfpofoeaaDoor
open Go.RowKit

/-- The table of half bytes. -/
def Ha (w : World) : Prop := 0 < w.heap.size ∧ ∀ i, i < 16 → w.cell? ⟨0, i, none⟩ = some (.int .u32 ((sts 4 i : Nat) : Int))
theorem Ha.below {w w' : World} (h : Ha w) (hb : Below w.heap.size w w') : Ha w' :=
  ⟨Nat.lt_of_lt_of_le h.1 hb.size, fun i hi => (hb.cell (p := ⟨0, i, none⟩) h.1).trans (h.2 i hi)⟩

theorem cr_snoc (l : List Int) (z : Int) (r : Nat) : cr r (l ++ [z]) = ab (cr r l) z.toNat := by rw [cr_append]; rfl
theorem take_snoc {zs : List Int} {k : Nat} (h : k < zs.length) : zs.take (k + 1) = zs.take k ++ [zs.getD k 0] := by
  rw [List.take_add_one]; simp [List.getD, h]
theorem bytes_getD {zs : List Int} (h : Bytes zs) {k : Nat} (hk : k < zs.length) : 0 ≤ zs.getD k 0 ∧ zs.getD k 0 ≤ 255 := by
  refine h _ ?_
  simp [List.getD, hk]
theorem ab_two (r b : Nat) : ab r b = sts 4 (sts 4 (r ^^^ b)) := by unfold ab; rw [show 8 = 4 + 4 from rfl, sts_add]

theorem ones_xor32 (x : Nat) (h : x < 4294967296) : 4294967295 ^^^ x = 4294967295 - x := by
  have h1 : (4294967295 : Nat) = 2 ^ 32 - 1 := by decide
  apply Nat.eq_of_testBit_eq
  intro i
  rw [Nat.testBit_xor, h1, Nat.testBit_two_pow_sub_one, show 2 ^ 32 - 1 - x = 2 ^ 32 - (x + 1) by omega, Nat.testBit_two_pow_sub_succ (by omega)]
  by_cases hi : i < 32
  · simp [hi]
  · have : x.testBit i = false := Nat.testBit_lt_two_pow (Nat.lt_of_lt_of_le h (Nat.pow_le_pow_right (n := 2) (i := 32) (by decide) (by omega)))
    simp [hi, this]
theorem not_crc {zs : List Int} (h : cr 4294967295 zs < 4294967296) : bits BinOp.xor IntKind.u32 IntKind.u32.max ((cr 4294967295 zs : Nat) : Int) = ((crc zs : Nat) : Int) := by
  have e := u32_xor_nat 4294967295 (cr 4294967295 zs) (by decide) h
  rw [ones_xor32 _ h] at e
  exact e

set_option maxRecDepth 20000 in
set_option maxHeartbeats 800000 in
theorem sum_any (a : Option Addr) (len cap : Nat) (zs : List Int) (w : World) (hz : zs.length = len) (hm : len ≤ 140737488355328) (hr : Rd .u8 w a zs) (hby : Bytes zs) (hH : Ha w) :
    Calls Tryd.prog 73 #[.slice a len cap] w fun e w' => e = .returned (.int .u32 ((crc zs : Nat) : Int)) ∧ w' = w := by
  obtain ⟨Z, hZ⟩ : ∃ Z : Nat → Nat, ∀ i, i < len → zs.getD i 0 = (Z i : Int) ∧ Z i < 256 := ⟨fun i => (zs.getD i 0).toNat, fun i hi => by have := bytes_getD hby (k := i) (by omega); dsimp only; omega⟩
  have HC : Hid (∀ k, k < len → ∃ b o, a = some ⟨b, o, none⟩ ∧ w.cell? ⟨b, o + k, none⟩ = some (.int .u8 (Z k : Int))) := by
    intro k hk
    rcases hr with rfl | ⟨b, o, e, _, c⟩
    · simp at hz; omega
    exact ⟨b, o, e, by rw [c k (by omega), (hZ k hk).1]⟩
  have HZ : Hid (zs.length = len ∧ Bytes zs ∧ (∀ i, i < len → zs.getD i 0 = (Z i : Int) ∧ Z i < 256) ∧ Ha w) := ⟨hz, hby, hZ, hH⟩
  clear hz hby hZ hH hr
  go_enter Tryd.func73, Tryd.ntmps73
  go_wp2
  go_loop [3, 8] (fun u i => ∃ k r : Nat, i = .int .i64 (k : Int) ∧ k ≤ len ∧ u = .int .u32 (r : Int) ∧ r = cr 4294967295 (zs.take k)) (fun _ i => len - (intOf i).toNat)
  case atStart => exact ⟨0, 4294967295, rfl, Nat.zero_le _, rfl, rfl⟩
  case round =>
    obtain ⟨k, r, rfl, hk, rfl, hrk⟩ := hrel
    have HR : Hid (r = cr 4294967295 (zs.take k)) := hrk
    have hr32 : r < 4294967296 := by rw [hrk]; exact cr_lt _ (bytes_take HZ.out.2.1 k) (by decide)
    clear hrk
    by_cases hlt : k < len
    · obtain ⟨b, o, rfl, hck⟩ := HC.out k hlt
      obtain ⟨hzk, hz1⟩ := HZ.out.2.2.1 k hlt
      have hjl' : (k : Int) < (len : Int) := by omega
      obtain ⟨z, hz⟩ : ∃ z, z = Z k := ⟨_, rfl⟩
      rw [← hz] at hck hzk hz1
      obtain ⟨r1, hr1⟩ : ∃ r1, r1 = r ^^^ z := ⟨_, rfl⟩
      have e1 : bits .xor .u32 (r : Int) (z : Int) = (r1 : Int) := by rw [hr1]; exact u32_xor_nat r z hr32 (by omega)
      have l1 : r1 < 4294967296 := by rw [hr1]; exact xor_lt32 hr32 (by omega)
      obtain ⟨r2, hr2⟩ : ∃ r2, r2 = sts 4 r1 := ⟨_, rfl⟩
      have l2 : r2 < 4294967296 := by rw [hr2]; exact sts_lt 4 l1
      obtain ⟨r3, hr3⟩ : ∃ r3, r3 = sts 4 r2 := ⟨_, rfl⟩
      have l3 : r3 < 4294967296 := by rw [hr3]; exact sts_lt 4 l2
      obtain ⟨t1, ht1⟩ : ∃ t, t = sts 4 (r1 % 16) := ⟨_, rfl⟩
      obtain ⟨t2, ht2⟩ : ∃ t, t = sts 4 (r2 % 16) := ⟨_, rfl⟩
      have c1 : w.cell? ⟨0, r1 % 16, none⟩ = some (.int .u32 (t1 : Int)) := by rw [ht1]; exact HZ.out.2.2.2.2 _ (by omega)
      have c2 : w.cell? ⟨0, r2 % 16, none⟩ = some (.int .u32 (t2 : Int)) := by rw [ht2]; exact HZ.out.2.2.2.2 _ (by omega)
      have e2 : bits .xor .u32 ((r1 : Int) / 16) (t1 : Int) = (r2 : Int) := by
        rw [show (r1 : Int) / 16 = ((r1 / 16 : Nat) : Int) from rfl, u32_xor_nat _ _ (by omega) (by rw [ht1]; exact sts_lt 4 (by omega)), hr2, nib r1, ht1]
      have e3 : bits .xor .u32 ((r2 : Int) / 16) (t2 : Int) = (r3 : Int) := by
        rw [show (r2 : Int) / 16 = ((r2 / 16 : Nat) : Int) from rfl, u32_xor_nat _ _ (by omega) (by rw [ht2]; exact sts_lt 4 (by omega)), hr3, nib r2, ht2]
      have HE : Hid (r3 = cr 4294967295 (zs.take (k + 1))) := by
        show r3 = _
        rw [take_snoc (by have := HZ.out.1; omega), cr_snoc, ← HR.out, ab_two, hzk, hr3, hr2, hr1]; simp
      have m1 : ((r1 : Int) % 16).toNat = r1 % 16 := by omega
      have m2 : ((r2 : Int) % 16).toNat = r2 % 16 := by omega
      clear hr1 hr2 hr3 ht1 ht2 hz hzk
      go_wp2
      go_round
      case rel => exact ⟨k + 1, r3, by go_num, by omega, rfl, HE.out⟩
      case measure => simp [intOf]; omega
    · have hjl' : ¬ (k : Int) < (len : Int) := by omega
      go_wp2
      go_ret
      refine ⟨ret_int ?_, rfl⟩
      rw [HR.out, List.take_of_length_le (by have := HZ.out.1; omega)]
      exact not_crc (cr_lt _ HZ.out.2.1 (by decide))

set_option maxRecDepth 20000 in
set_option maxHeartbeats 800000 in
theorem refsum_any (a : Option Addr) (len cap : Nat) (zs : List Int) (w : World) (hz : zs.length = len) (hm : len ≤ 140737488355328) (hr : Rd .u8 w a zs) (hby : Bytes zs) :
    Calls Tryd.prog 62 #[.slice a len cap] w fun e w' => e = .returned (.int .u32 ((crc zs : Nat) : Int)) ∧ w' = w := by
  obtain ⟨Z, hZ⟩ : ∃ Z : Nat → Nat, ∀ i, i < len → zs.getD i 0 = (Z i : Int) ∧ Z i < 256 := ⟨fun i => (zs.getD i 0).toNat, fun i hi => by have := bytes_getD hby (k := i) (by omega); dsimp only; omega⟩
  have HC : Hid (∀ k, k < len → ∃ b o, a = some ⟨b, o, none⟩ ∧ w.cell? ⟨b, o + k, none⟩ = some (.int .u8 (Z k : Int))) := by
    intro k hk
    rcases hr with rfl | ⟨b, o, e, _, c⟩
    · simp at hz; omega
    exact ⟨b, o, e, by rw [c k (by omega), (hZ k hk).1]⟩
  have HZ : Hid (zs.length = len ∧ Bytes zs ∧ (∀ i, i < len → zs.getD i 0 = (Z i : Int) ∧ Z i < 256)) := ⟨hz, hby, hZ⟩
  clear hz hby hZ hr
  go_enter Tryd.func62, Tryd.ntmps62
  go_wp2
  go_loop [3, 4] (fun u i => ∃ k r : Nat, i = .int .i64 (k : Int) ∧ k ≤ len ∧ u = .int .u32 (r : Int) ∧ r = cr 4294967295 (zs.take k)) (fun _ i => len - (intOf i).toNat)
  case atStart => exact ⟨0, 4294967295, rfl, Nat.zero_le _, rfl, rfl⟩
  case round =>
    obtain ⟨k, r, rfl, hk, rfl, hrk⟩ := hrel
    have HR : Hid (r = cr 4294967295 (zs.take k)) := hrk
    have hr32 : r < 4294967296 := by rw [hrk]; exact cr_lt _ (bytes_take HZ.out.2.1 k) (by decide)
    clear hrk
    by_cases hlt : k < len
    · obtain ⟨b, o, rfl, hck⟩ := HC.out k hlt
      obtain ⟨hzk, hz1⟩ := HZ.out.2.2 k hlt
      have hjl' : (k : Int) < (len : Int) := by omega
      obtain ⟨z, hz⟩ : ∃ z, z = Z k := ⟨_, rfl⟩
      rw [← hz] at hck hzk hz1
      obtain ⟨r1, hr1⟩ : ∃ r1, r1 = r ^^^ z := ⟨_, rfl⟩
      have e1 : bits .xor .u32 (r : Int) (z : Int) = (r1 : Int) := by rw [hr1]; exact u32_xor_nat r z hr32 (by omega)
      have l1 : r1 < 4294967296 := by rw [hr1]; exact xor_lt32 hr32 (by omega)
      have HE : Hid (sts 8 r1 = cr 4294967295 (zs.take (k + 1))) := by
        show _ = _
        rw [take_snoc (by have := HZ.out.1; omega), cr_snoc, ← HR.out, hzk, hr1]; rfl
      clear hr1 hz hzk
      go_wp2
      go_loop [3, 5] (fun u i => ∃ j r : Nat, i = .int .i64 (j : Int) ∧ j ≤ 8 ∧ u = .int .u32 (r : Int) ∧ r < 4294967296 ∧ r = sts j r1) (fun _ i => 8 - (intOf i).toNat)
      case atStart => exact ⟨0, r1, rfl, Nat.zero_le _, rfl, l1, rfl⟩
      case round =>
        obtain ⟨j, q, rfl, hj, rfl, hq, hqe⟩ := hrel
        have HQ : Hid (q = sts j r1) := hqe
        clear hqe
        by_cases hj8 : j < 8
        · have hj8' : (j : Int) < 8 := by omega
          by_cases hq2 : q % 2 = 1
          · have hq3 : ((q : Int) % 2 == 1) = true := by simp; omega
            obtain ⟨q1, hq1⟩ : ∃ q1, q1 = (q / 2) ^^^ pl := ⟨_, rfl⟩
            have e2 : bits .xor .u32 ((q : Int) / 2) 3988292384 = (q1 : Int) := by
              rw [hq1]; exact u32_xor_nat (q / 2) pl (by omega) (by decide)
            have HQ1 : Hid (q1 = st q ∧ q1 < 4294967296) := by
              have : q1 = st q := by rw [hq1]; unfold st; rw [if_pos hq2]
              exact ⟨this, by rw [this]; exact st_lt hq⟩
            clear hq1
            go_wp2
            go_round
            case rel => exact ⟨j + 1, q1, by go_num, by omega, rfl, HQ1.out.2, by rw [HQ1.out.1, HQ.out]; exact (sts_add j 1 r1).symm⟩
            case measure => simp [intOf]; omega
          · have hq3 : ((q : Int) % 2 == 1) = false := by simp; omega
            have HQ1 : Hid (q / 2 = st q) := by
              show _ = _
              unfold st; rw [if_neg hq2]
            go_wp2
            go_round
            case rel => exact ⟨j + 1, q / 2, by go_num, by omega, by go_num, by omega, by rw [HQ1.out, HQ.out]; exact (sts_add j 1 r1).symm⟩
            case measure => simp [intOf]; omega
        · have hj8' : ¬ (j : Int) < 8 := by omega
          obtain rfl : j = 8 := by omega
          go_wp2
          go_round
          case rel => exact ⟨k + 1, q, by go_num, by omega, rfl, by rw [HQ.out, HE.out]⟩
          case measure => simp [intOf]; omega
    · have hjl' : ¬ (k : Int) < (len : Int) := by omega
      go_wp2
      go_ret
      refine ⟨ret_int ?_, rfl⟩
      rw [HR.out, List.take_of_length_le (by have := HZ.out.1; omega)]
      exact not_crc (cr_lt _ HZ.out.2.1 (by decide))

/-- The number that four bytes say. -/
def jn : List Int → Nat → Nat
  | [], s => s
  | b :: l, s => jn l (s * 256 % 4294967296 + b.toNat)
theorem jn_append : ∀ (a b : List Int) (s : Nat), jn (a ++ b) s = jn b (jn a s)
  | [], _, _ => rfl
  | _ :: a, b, _ => jn_append a b _
theorem jn_lt : ∀ (l : List Int) (s : Nat), Bytes l → s < 4294967296 → jn l s < 4294967296
  | [], _, _, h => h
  | b :: l, s, hl, _ => jn_lt l _ (fun x hx => hl x (List.mem_cons_of_mem _ hx)) (by
    have := hl b (List.mem_cons_self ..)
    omega)
theorem jn_tl {s : Nat} (h : s < 4294967296) : jn (tl s) 0 = s := by
  simp only [tl, jn, Int.toNat_natCast]
  omega
theorem tl_jn {a b c d : Int} (h : Bytes [a, b, c, d]) : tl (jn [a, b, c, d] 0) = [a, b, c, d] := by
  have ha := h a (by simp)
  have hb := h b (by simp)
  have hc := h c (by simp)
  have hd := h d (by simp)
  simp only [tl, jn, List.cons.injEq, and_true]
  omega
theorem or_step {s z : Nat} (hz : z < 256) : bits .or .u32 (((s * 256 % 4294967296 : Nat)) : Int) (z : Int) = ((s * 256 % 4294967296 + z : Nat) : Int) := by
  rw [u32_or_nat _ _ (Nat.mod_lt _ (by decide)) (by omega)]
  congr 1
  have e : s * 256 % 4294967296 = 2 ^ 8 * (s % 16777216) := by omega
  rw [e]
  exact (Nat.two_pow_add_eq_or_of_lt (i := 8) hz _).symm

set_option maxRecDepth 20000 in
set_option maxHeartbeats 800000 in
theorem joined_any (a : Option Addr) (len cap : Nat) (zs : List Int) (w : World) (hz : zs.length = len) (hm : len ≤ 100) (hr : Rd .u8 w a zs) (hby : Bytes zs) :
    Calls Tryd.prog 76 #[.slice a len cap] w fun e w' => e = .returned (.int .u32 ((jn zs 0 : Nat) : Int)) ∧ w' = w := by
  obtain ⟨Z, hZ⟩ : ∃ Z : Nat → Nat, ∀ i, i < len → zs.getD i 0 = (Z i : Int) ∧ Z i < 256 := ⟨fun i => (zs.getD i 0).toNat, fun i hi => by have := bytes_getD hby (k := i) (by omega); dsimp only; omega⟩
  have HC : Hid (∀ k, k < len → ∃ b o, a = some ⟨b, o, none⟩ ∧ w.cell? ⟨b, o + k, none⟩ = some (.int .u8 (Z k : Int))) := by
    intro k hk
    rcases hr with rfl | ⟨b, o, e, _, c⟩
    · simp at hz; omega
    exact ⟨b, o, e, by rw [c k (by omega), (hZ k hk).1]⟩
  have HZ : Hid (zs.length = len ∧ Bytes zs ∧ (∀ i, i < len → zs.getD i 0 = (Z i : Int) ∧ Z i < 256)) := ⟨hz, hby, hZ⟩
  clear hz hby hZ hr
  go_enter Tryd.func76, Tryd.ntmps76
  go_wp2
  go_loop [3, 8] (fun u i => ∃ k r : Nat, i = .int .i64 (k : Int) ∧ k ≤ len ∧ u = .int .u32 (r : Int) ∧ r = jn (zs.take k) 0) (fun _ i => len - (intOf i).toNat)
  case atStart => exact ⟨0, 0, rfl, Nat.zero_le _, rfl, rfl⟩
  case round =>
    obtain ⟨k, r, rfl, hk, rfl, hrk⟩ := hrel
    have HR : Hid (r = jn (zs.take k) 0) := hrk
    have hr32 : r < 4294967296 := by rw [hrk]; exact jn_lt _ _ (bytes_take HZ.out.2.1 k) (by decide)
    clear hrk
    by_cases hlt : k < len
    · obtain ⟨b, o, rfl, hck⟩ := HC.out k hlt
      obtain ⟨hzk, hz1⟩ := HZ.out.2.2 k hlt
      have hjl' : (k : Int) < (len : Int) := by omega
      obtain ⟨z, hz⟩ : ∃ z, z = Z k := ⟨_, rfl⟩
      rw [← hz] at hck hzk hz1
      obtain ⟨m, hm'⟩ : ∃ m, m = r * 256 % 4294967296 := ⟨_, rfl⟩
      have e1 : bits .or .u32 (m : Int) (z : Int) = ((m + z : Nat) : Int) := by rw [hm']; exact or_step hz1
      have e0 : IntKind.u32.wrap ((r : Int) * 256) = (m : Int) := by rw [IntKind.wrap_u32]; omega
      have HE : Hid (m + z = jn (zs.take (k + 1)) 0) := by
        show _ = _
        rw [take_snoc (by have := HZ.out.1; omega), jn_append, ← HR.out, hzk, hm']; simp [jn]
      clear hm' hz hzk
      go_wp2
      go_round
      case rel => exact ⟨k + 1, m + z, by go_num, by omega, rfl, HE.out⟩
      case measure => simp [intOf]; omega
    · have hjl' : ¬ (k : Int) < (len : Int) := by omega
      go_wp2
      go_ret
      refine ⟨ret_int ?_, rfl⟩
      rw [HR.out, List.take_of_length_le (by have := HZ.out.1; omega)]
end Go.Proofs.YtocjmbhfpofoeaaDoor
