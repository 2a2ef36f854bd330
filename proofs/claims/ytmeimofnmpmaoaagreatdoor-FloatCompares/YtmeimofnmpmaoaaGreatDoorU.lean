/- The contract of uscale and its small helpers. Conditions: the arguments fit, the scaler lies in memory. -/
import Derived.Test.YtmeimofnmpmaoaaGreatDoorRows
import Derived.Test.YtmeimofnmpmaoaaGreatDoorL
import Derived.WalkKit
import Derived.ProofKit
import Derived.WalkSpells
import Derived.Laws.Bits64b
namespace Go.Proofs.YtmeimofnmpmaoaaGreatDoor
open Go.RowKit Go.Shelf

theorem mul64_any (x y : Nat) (hx : x < 18446744073709551616) (hy : y < 18446744073709551616) (w : World) :
    Calls Tryz.prog 123 #[.int .u64 x, .int .u64 y] w fun e w' => e = .returned (.tuple #[.int .u64 ((x * y / 18446744073709551616 : Nat) : Int), .int .u64 ((x * y % 18446744073709551616 : Nat) : Int)]) ∧ w' = w :=
  Any.bits_Mul64 Tryz.laysMul64 x y hx hy w

theorem bool64_any (b : Bool) (w : World) :
    Calls Tryz.prog 116 #[.bool b] w fun e w' => e = .returned (.int .u64 (if b then 1 else 0)) ∧ w' = w := by
  cases b <;> (
    go_enter Tryz.func116, Tryz.ntmps116
    go_wp2
    go_ret
    exact ⟨rfl, rfl⟩)

theorem bool64_v (b : Bool) (k : Nat) (hk : Hid (k = if b then 1 else 0)) (w : World) :
    Calls Tryz.prog 116 #[.bool b] w fun e w' => e = .returned (.int .u64 (k : Int)) ∧ w' = w := by
  rw [hk.out]; cases b <;> exact bool64_any _ w

theorem mul64_v (x y H M : Nat) (hH : Hid (H = x * y / 18446744073709551616)) (hM : Hid (M = x * y % 18446744073709551616)) (hx : x < 18446744073709551616) (hy : y < 18446744073709551616) (w : World) :
    Calls Tryz.prog 123 #[.int .u64 (x : Int), .int .u64 (y : Int)] w fun e w' => e = .returned (.tuple #[.int .u64 (H : Int), .int .u64 (M : Int)]) ∧ w' = w := by
  rw [hH.out, hM.out]; exact mul64_any x y hx hy w

theorem and63 (s : Nat) (hs : s < 64) : bits .and .i64 (s : Int) 63 = (s : Int) := by
  have : ∀ n : Fin 64, bits .and .i64 (n.val : Int) 63 = (n.val : Int) := by decide
  exact this ⟨s, hs⟩
theorem shr_nat (H s : Nat) : (H : Int) / 2 ^ s = ((H / 2 ^ s : Nat) : Int) := by
  rw [Int.natCast_ediv]; simp
theorem wrap64 (n : Nat) (h : n < 18446744073709551616) : IntKind.u64.wrap (n : Int) = (n : Int) := by rw [IntKind.wrap_u64]; omega
theorem or1 (n : Nat) (h : n < 18446744073709551616) : bits .or .u64 (n : Int) 1 = ((n ||| 1 : Nat) : Int) := bits_or_u64_nat n 1 h (by decide)

theorem uscale_a (x hi s : Nat) (H M HS HB R : Nat) (hH : Hid (H = x * hi / 18446744073709551616)) (hM : Hid (M = x * hi % 18446744073709551616)) (hHS : Hid (HS = H / 2 ^ s)) (hHB : Hid (HB = HS * 2 ^ s)) (hR : Hid (R = HS ||| 1)) (w : World) (hx : x < 18446744073709551616) (hhi : hi < 18446744073709551616) (hs : s < 64)
    (ne : HB ≠ H) (b : Nat) (o : Nat) (c0 : w.cell? ⟨b, o, none⟩ = some (.int .u64 (hi : Int))) (c2 : w.cell? ⟨b, o + 2, none⟩ = some (.int .i64 (s : Int))) :
    Calls Tryz.prog 92 #[.int .u64 (x : Int), .pointer (some ⟨b, o, none⟩)] w fun e w' => e = .returned (.int .u64 (R : Int)) ∧ w' = w := by
  have hand := and63 s hs
  have hlt : H < 18446744073709551616 := by rw [hH.out]; exact Nat.div_lt_of_lt_mul (Nat.mul_lt_mul'' hx hhi)
  have hsr : (H : Int) / 2 ^ s = (HS : Int) := by rw [hHS.out]; exact shr_nat H s
  have hle : HB ≤ H := by rw [hHB.out, hHS.out]; exact Nat.div_mul_le_self _ _
  have hsl : IntKind.u64.wrap ((HS : Int) * 2 ^ s) = (HB : Int) := by
    have : (HS : Int) * 2 ^ s = (HB : Int) := by rw [hHB.out]; simp
    rw [this]; exact wrap64 _ (by omega)
  have hsl' : HS ≤ H := by rw [hHS.out]; exact Nat.div_le_self _ _
  have hor : bits .or .u64 (HS : Int) 1 = (R : Int) := by rw [hR.out]; exact or1 _ (by omega)
  have s0 : (0 : Int) ≤ (s : Int) := by omega
  have s1 : (s : Int) ≤ 64 := by omega
  have ne' : ¬ ((HB : Int) = (H : Int)) := by omega
  clear hlt hle hsl' ne
  go_enter Tryz.func92, Tryz.ntmps92
  go_wp2_with fail
  refine (mul64_v x hi H M hH hM hx hhi _).mono ?_
  rintro e w' ⟨rfl, rfl⟩
  go_wp2_with fail
  go_ret
  exact ⟨rfl, rfl⟩

theorem uscale_b (x hi lo s : Nat) (H M M2 L2 HS HB G GS V kb st R : Nat) (hH : Hid (H = x * hi / 18446744073709551616)) (hM : Hid (M = x * hi % 18446744073709551616))
    (hM2 : Hid (M2 = x * lo / 18446744073709551616)) (hL2 : Hid (L2 = x * lo % 18446744073709551616)) (hHS : Hid (HS = H / 2 ^ s)) (hHB : Hid (HB = HS * 2 ^ s)) (eq : HB = H)
    (hbr : Hid (kb = if decide (M < M2) then 1 else 0)) (hG : Hid (H = G + kb)) (hGS : Hid (GS = G / 2 ^ s)) (hV : Hid ((M : Int) - M2 = V - 18446744073709551616 * kb))
    (hst : Hid (st = if decide (1 < V) then 1 else 0)) (hR : Hid (R = GS ||| st))
    (w : World) (hx : x < 18446744073709551616) (hhi : hi < 18446744073709551616) (hlo : lo < 18446744073709551616) (hs : s < 64)
    (b : Nat) (o : Nat) (c0 : w.cell? ⟨b, o, none⟩ = some (.int .u64 (hi : Int))) (c1 : w.cell? ⟨b, o + 1, none⟩ = some (.int .u64 (lo : Int))) (c2 : w.cell? ⟨b, o + 2, none⟩ = some (.int .i64 (s : Int))) :
    Calls Tryz.prog 92 #[.int .u64 (x : Int), .pointer (some ⟨b, o, none⟩)] w fun e w' => e = .returned (.int .u64 (R : Int)) ∧ ∃ k, w' = w.drewN k := by
  have hand := and63 s hs
  have hlt : H < 18446744073709551616 := by rw [hH.out]; exact Nat.div_lt_of_lt_mul (Nat.mul_lt_mul'' hx hhi)
  have hMlt : M < 18446744073709551616 := by rw [hM.out]; exact Nat.mod_lt _ (by decide)
  have hM2lt : M2 < 18446744073709551616 := by rw [hM2.out]; exact Nat.div_lt_of_lt_mul (Nat.mul_lt_mul'' hx hlo)
  have hsr : (H : Int) / 2 ^ s = (HS : Int) := by rw [hHS.out]; exact shr_nat H s
  have hgr : (G : Int) / 2 ^ s = (GS : Int) := by rw [hGS.out]; exact shr_nat G s
  have hsl : IntKind.u64.wrap ((HS : Int) * 2 ^ s) = (H : Int) := by
    have : (HS : Int) * 2 ^ s = (HB : Int) := by rw [hHB.out]; simp
    rw [this, eq]; exact wrap64 _ (by omega)
  have hGH : G ≤ H := by have := hG.out; omega
  have hGS' : GS ≤ G := by rw [hGS.out]; exact Nat.div_le_self _ _
  have hst1 : st < 2 := by rw [hst.out]; split <;> omega
  have hor : bits .or .u64 (GS : Int) (st : Int) = (R : Int) := by rw [hR.out]; exact bits_or_u64_nat _ _ (by omega) (by omega)
  have s0 : (0 : Int) ≤ (s : Int) := by omega
  have s1 : (s : Int) ≤ 64 := by omega
  have hkb : kb < 2 := by rw [hbr.out]; split <;> omega
  have hsub : IntKind.u64.wrap ((H : Int) - (kb : Int)) = (G : Int) := by
    rw [show (H : Int) - (kb : Int) = (G : Int) from by have := hG.out; omega]
    exact wrap64 _ (by omega)
  have hvb : V < 18446744073709551616 := by
    have := hV.out; have h2 := hbr.out
    by_cases hc : M < M2 <;> simp [hc] at h2 <;> subst h2 <;> omega
  have hvs : IntKind.u64.wrap ((M : Int) - (M2 : Int)) = (V : Int) := by
    rw [IntKind.wrap_u64, hV.out]; omega
  clear hlt hMlt hM2lt hGH hGS' hst1 hvb hkb
  go_enter Tryz.func92, Tryz.ntmps92
  go_wp2_with fail
  refine (mul64_v x hi H M hH hM hx hhi _).mono ?_
  rintro e w' ⟨rfl, rfl⟩
  go_wp2_with fail
  refine (mul64_v x lo M2 L2 hM2 hL2 hx hlo _).mono ?_
  rintro e w' ⟨rfl, rfl⟩
  go_wp2_with fail
  refine (bool64_v _ kb hbr _).mono ?_
  rintro e w' ⟨rfl, rfl⟩
  go_wp2_with fail
  by_cases hv1 : 1 < V
  · have hv2 : (1 : Int) < (V : Int) := by omega
    have hs2 : Hid (st = if true then 1 else 0) := (show st = _ from by rw [hst.out]; simp [hv1])
    clear hv1
    go_region_with (go_at_call 116; refine (bool64_v true st hs2 _).mono ?_; rintro e w' ⟨rfl, rfl⟩)
    go_wp2
    go_ret
    exact ⟨rfl, _, rfl⟩
  · have hv2 : ¬ (1 : Int) < (V : Int) := by omega
    have hs2 : Hid (st = if false then 1 else 0) := (show st = _ from by rw [hst.out]; simp [hv1])
    clear hv1
    go_region_with (go_at_call 116; refine (bool64_v false st hs2 _).mono ?_; rintro e w' ⟨rfl, rfl⟩)
    go_wp2
    go_ret
    exact ⟨rfl, _, rfl⟩

/-- What uscale answers. -/
def usc (x hi lo s : Nat) : Nat :=
  if x * hi / 18446744073709551616 / 2 ^ s * 2 ^ s ≠ x * hi / 18446744073709551616 then x * hi / 18446744073709551616 / 2 ^ s ||| 1
  else if x * hi % 18446744073709551616 < x * lo / 18446744073709551616 then
    (x * hi / 18446744073709551616 - 1) / 2 ^ s ||| (if decide (1 < x * hi % 18446744073709551616 + 18446744073709551616 - x * lo / 18446744073709551616) then 1 else 0)
  else x * hi / 18446744073709551616 / 2 ^ s ||| (if decide (1 < x * hi % 18446744073709551616 - x * lo / 18446744073709551616) then 1 else 0)

theorem uscale_any (x hi lo s : Nat) (R : Nat) (hR : Hid (R = usc x hi lo s)) (w : World) (hx : x < 18446744073709551616) (hhi : hi < 18446744073709551616) (hlo : lo < 18446744073709551616) (hs : s < 64)
    (h1 : 1 ≤ x * hi / 18446744073709551616)
    (b : Nat) (o : Nat) (c0 : w.cell? ⟨b, o, none⟩ = some (.int .u64 (hi : Int))) (c1 : w.cell? ⟨b, o + 1, none⟩ = some (.int .u64 (lo : Int))) (c2 : w.cell? ⟨b, o + 2, none⟩ = some (.int .i64 (s : Int))) :
    Calls Tryz.prog 92 #[.int .u64 (x : Int), .pointer (some ⟨b, o, none⟩)] w fun e w' => e = .returned (.int .u64 (R : Int)) ∧ ∃ k, w' = w.drewN k := by
  have hR' := hR.out
  unfold usc at hR'
  have hM2lt : x * lo / 18446744073709551616 < 18446744073709551616 := Nat.div_lt_of_lt_mul (Nat.mul_lt_mul'' hx hlo)
  have hMlt : x * hi % 18446744073709551616 < 18446744073709551616 := Nat.mod_lt _ (by decide)
  split at hR'
  · rename_i ne
    refine (uscale_a x hi s _ _ _ _ R rfl rfl rfl rfl hR' w hx hhi hs ne b o c0 c2).mono ?_
    rintro e w' ⟨rfl, rfl⟩
    exact ⟨rfl, 0, rfl⟩
  · rename_i eq
    split at hR'
    · rename_i hlt
      refine uscale_b x hi lo s _ _ _ _ _ _ _ _ _ 1 _ R rfl rfl rfl rfl rfl rfl (by simpa using eq) (show 1 = _ by simp [hlt]) (show _ = _ + 1 from (Nat.sub_add_cancel h1).symm) rfl (show _ = _ - _ from ?_) rfl hR' w hx hhi hlo hs b o c0 c1 c2
      generalize x * hi % 18446744073709551616 = p at *
      generalize x * lo / 18446744073709551616 = q at *
      omega
    · rename_i hlt
      refine uscale_b x hi lo s _ _ _ _ _ _ _ _ _ 0 _ R rfl rfl rfl rfl rfl rfl (by simpa using eq) (show 0 = _ by simp [hlt]) (show _ = _ + 0 from rfl) rfl (show _ = _ - _ from ?_) rfl hR' w hx hhi hlo hs b o c0 c1 c2
      generalize x * hi % 18446744073709551616 = p at *
      generalize x * lo / 18446744073709551616 = q at *
      omega
end Go.Proofs.YtmeimofnmpmaoaaGreatDoor
