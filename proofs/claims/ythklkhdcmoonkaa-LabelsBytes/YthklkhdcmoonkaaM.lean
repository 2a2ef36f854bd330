/- The contracts of first and Cut, and of the document's own Cut. Conditions: sizes. -/
import Derived.Test.YthklkhdcmoonkaaI
namespace Go.Proofs.Ythklkhdcmoonkaa
open Go.RowKit

/-- What is left behind the text. -/
def rst (zs : List Int) : List Int := if (cut zs).1 = 0 then zs.drop (cut zs).2.2 else []
/-- A slice that reads so in each world that has the blocks below B of a world. -/
def Sees (B : Nat) (w0 : World) (a : Option Addr) (len cap : Nat) (zs : List Int) : Prop := ∀ W, Below B w0 W → IsI .u8 W a len cap zs
/-- What first tells. -/
def Fst (B : Nat) (w0 w : World) (zs : List Int) (e : Ending) (w' : World) : Prop :=
  ∃ a' m c', e = .returned (.tuple #[.string (strOfNums (cut zs).2.1), .slice a' m c', .int .i64 (cut zs).1]) ∧ Sees B w0 a' m c' (rst zs) ∧ Below w.heap.size w w'
theorem fst_err {B : Nat} {w0 w w' : World} {zs : List Int} {x : Int} (h : cut zs = (x, [], 0)) (hx : x ≠ 0) (hb : Below w.heap.size w w') : Fst B w0 w zs (.returned (.tuple #[.string ⟨#[]⟩, .slice none 0 0, .int .i64 x])) w' := by
  refine ⟨none, 0, 0, by rw [h]; rfl, ?_, hb⟩
  unfold rst; rw [h]; simp only; rw [if_neg hx]; exact fun W _ => isI_nil _ _
theorem conv_drew (w : World) (a : Option Addr) (cap n : Nat) (xs : List Int) (hn : xs.length = n) (h : Rd .u8 w a xs) (q : Nat) :
    Sem.run Try.prog (convert 32 9 (.slice a n cap)) (w.drewN q) = .ok (.string (strOfNums xs)) (w.drewN q) := conv_rd _ a cap n xs hn (h.below (below_dr w q))
theorem getD_drop {zs : List Int} {k j : Nat} : (zs.drop k).getD j 0 = zs.getD (k + j) 0 := by simp [List.getD]

set_option maxRecDepth 20000 in
set_option maxHeartbeats 4000000 in
theorem first_any (B : Nat) (w0 : World) (a : Option Addr) (len cap : Nat) (zs : List Int) (w : World) (hS : Sees B w0 a len cap zs) (h0 : Below B w0 w) (hB : B ≤ w.heap.size) (hby : Bytes zs) (hlen : len ≤ 100000) : Calls Try.prog 37 #[.slice a len cap] w (Fst B w0 w zs) := by
  have hI := hS w h0
  have HS : Hid (Sees B w0 a len cap zs ∧ Below B w0 w ∧ B ≤ w.heap.size) := ⟨hS, h0, hB⟩
  clear hS h0 hB
  obtain ⟨i0, hi, hz0, hz1, hz2⟩ := info_parts Try.info5
  have hcap := hI.hc
  have hmax := hI.hm
  unfold maxLen at hmax
  have HI : Hid (IsI .u8 w a len cap zs ∧ Bytes zs) := ⟨hI, hby⟩
  clear hI hby
  go_enter Try.func37, Try.ntmps37
  go_wp2
  go_loopw [5, 6, 7] (fun b i _ wr => ∃ k m : Nat, ∃ ts : List Int, i = .int .i64 (k : Int) ∧ k ≤ len ∧ m ≤ k ∧ Hid (cutA ts k (zs.drop k) = cut zs ∧ ts.length = m) ∧ Hid (wr.ownsRow w.heap.size 5 1 b m (ts.map (Value.int .u8))) ∧ Below w.heap.size w wr) (fun _ i _ _ => len - (intOf i).toNat)
  case atStart => exact ⟨0, 0, [], rfl, Nat.zero_le _, Nat.le_refl _, ⟨rfl, rfl⟩, World.ownsRow_nil _ _ _ _, Below.refl _ _⟩
  case round =>
    obtain ⟨k, m, ts, rfl, hk, hmk, HC, HR, hbel⟩ := hrel
    have hbase := hbel.size
    by_cases hlt : k < len
    · have hlt' : (k : Int) < (len : Int) := by omega
      have hkl : k < zs.length := by rw [HI.out.1.hl]; exact hlt
      obtain ⟨g, off, rfl, hg, c0⟩ := ((HS.out.1 wr (HS.out.2.1.trans (hbel.mono HS.out.2.2))).rd).cell hkl
      have hcb := bytes_at HI.out.2 k
      have HD : Hid (zs.drop k = zs.getD k 0 :: zs.drop (k + 1)) := drop_consI zs k hkl
      clear hkl
      obtain ⟨c, hc⟩ : ∃ c, Hid (c = zs.getD k 0) := ⟨_, rfl⟩
      rw [← hc.out] at c0 hcb HD
      by_cases h1 : c = 1
      · subst h1
        have HE : Hid (cut zs = (0, ts, k + 1)) := by show _ = _; rw [← HC.out.1, HD.out, cutA_one]
        clear hcb
        obtain ⟨a5, c5, rfl, hI5⟩ := own_isI HR.out
        have hcv := conv_drew wr a5 c5 m ts HC.out.2 hI5.rd
        have s1 : (0 : Int) ≤ (k : Int) + 1 := by omega
        have s2 : (k : Int) + 1 ≤ (len : Int) := by omega
        have s3 : (k : Int) + 1 ≤ (cap : Int) := by omega
        clear hI5
        go_wp2_with fail
        go_quiet (fail)
        go_wp2_with fail
        all_goals
          go_ret3
          have hbd : Below w.heap.size w (wr.drewN nq) := hbel.trans ((below_dr wr nq).mono hbase)
          refine ⟨_, _, _, by rw [HE.out]; rfl, ?_, hbd⟩
          unfold rst
          rw [HE.out]
          simp only [if_true]
          intro W hW
          have hr := (HS.out.1 W hW).rd.drop HI.out.1.hl hcap (m := k + 1) (by omega)
          refine ⟨by rw [List.length_drop, HI.out.1.hl], by omega, by unfold maxLen; omega, ?_, fun h => by cases h⟩
          first
            | (rw [if_pos (by omega)] at hr; exact hr)
            | (rw [if_neg (by omega)] at hr; exact hr)
      · have n1 : (c == 1) = false := by simpa using h1
        by_cases h0 : c = 0
        · subst h0
          have HE : Hid (cut zs = (11, [], 0)) := by show _ = _; rw [← HC.out.1, HD.out, cutA_zero]
          clear hcb
          go_wp2_with fail
          go_ret3
          exact fst_err HE.out (by decide) hbel
        · have n0 : (c == 0) = false := by simpa using h0
          by_cases h2 : c = 2
          · subst h2
            clear hcb h1 h0 n1 n0
            by_cases hke : k + 1 = len
            · have HE : Hid (cut zs = (10, [], 0)) := by
                show _ = _
                rw [← HC.out.1, HD.out, List.drop_eq_nil_of_le (by rw [HI.out.1.hl]; omega), cutA_two_end]
              have hke' : ((k : Int) + 1 == (len : Int)) = true := by simp; omega
              clear hke
              go_wp2_with fail
              go_ret3
              exact fst_err HE.out (by decide) hbel
            · have hke' : ((k : Int) + 1 == (len : Int)) = false := by simp; omega
              have hkl2 : k + 1 < zs.length := by rw [HI.out.1.hl]; omega
              obtain ⟨g', off', eg, hg', c1⟩ := ((HS.out.1 wr (HS.out.2.1.trans (hbel.mono HS.out.2.2))).rd).cell hkl2
              cases eg
              have hxb := bytes_at HI.out.2 (k + 1)
              have HD2 : Hid (zs.drop (k + 1) = zs.getD (k + 1) 0 :: zs.drop (k + 1 + 1)) := drop_consI zs (k + 1) hkl2
              obtain ⟨x, hx⟩ : ∃ x, Hid (x = zs.getD (k + 1) 0) := ⟨_, rfl⟩
              rw [← hx.out] at c1 hxb HD2
              clear hkl2
              have hk1 : (k : Int) + 1 < (len : Int) := by omega
              have hk2 : (0 : Int) ≤ (k : Int) + 1 := by omega
              have hk3 : ((k : Int) + 1).toNat = k + 1 := by omega
              by_cases hx3 : x < 3
              · have HE : Hid (cut zs = (11, [], 0)) := by show _ = _; rw [← HC.out.1, HD.out, HD2.out, cutA_two_bad _ _ _ _ (.inl hx3)]
                go_wp2_with fail
                go_ret3
                exact fst_err HE.out (by decide) hbel
              · by_cases hx5 : 5 < x
                · have HE : Hid (cut zs = (11, [], 0)) := by show _ = _; rw [← HC.out.1, HD.out, HD2.out, cutA_two_bad _ _ _ _ (.inr hx5)]
                  go_wp2_with fail
                  go_ret3
                  exact fst_err HE.out (by decide) hbel
                · have HE : Hid (cutA (ts ++ [x - 3]) (k + 1 + 1) (zs.drop (k + 1 + 1)) = cut zs) := by
                    show _ = _
                    rw [← HC.out.1, HD.out, HD2.out, cutA_two _ _ _ _ (by omega)]
                  go_wp2_with (at_builtin; refine wpList_append_own _ rfl (.tmp 54) (.tmp 56) 32 rfl w.heap.size 5 i0 (.int .u8 0) 1 1 Try.underlying32 hi hz0 hz1 hz2 rfl (by decide) _ m _ rfl (HR.out.alloc _) ⟨wr.heap.size, 0, none⟩ 1 1 [.int .u8 (x - 3)] rfl rfl (one_at wr _ _) (one_one _) (by unfold maxLen; omega) (by omega) (by simp; omega) ?_; intro v2 w2 ho2 hg2 _)
                  go_roundw
                  case rel =>
                    refine ⟨k + 1 + 1, m + 1, ts ++ [x - 3], by go_num, by omega, by omega, ⟨HE.out, by simp [HC.out.2]⟩, ?_, (hbel.alloc hbase _).grown hg2 (by simp; omega) (fun j hj => (HR.out.lt j hj).1)⟩
                    show World.ownsRow _ _ _ _ _ _ _
                    rw [List.map_append]; exact ho2
                  case measure => simp [intOf]; omega
          · have n2 : (c == 2) = false := by simpa using h2
            have HE : Hid (cutA (ts ++ [c]) (k + 1) (zs.drop (k + 1)) = cut zs) := by
              show _ = _
              rw [← HC.out.1, HD.out, cutA_else _ _ _ _ h1 h0 h2]
            go_wp2_with (at_builtin; refine wpList_append_own _ rfl (.tmp 54) (.tmp 56) 32 rfl w.heap.size 5 i0 (.int .u8 0) 1 1 Try.underlying32 hi hz0 hz1 hz2 rfl (by decide) _ m _ rfl (HR.out.alloc _) ⟨wr.heap.size, 0, none⟩ 1 1 [.int .u8 c] rfl rfl (one_at wr _ _) (one_one _) (by unfold maxLen; omega) (by omega) (by simp; omega) ?_; intro v2 w2 ho2 hg2 _)
            go_roundw
            case rel =>
              refine ⟨k + 1, m + 1, ts ++ [c], by go_num, by omega, by omega, ⟨HE.out, by simp [HC.out.2]⟩, ?_, (hbel.alloc hbase _).grown hg2 (by simp; omega) (fun j hj => (HR.out.lt j hj).1)⟩
              show World.ownsRow _ _ _ _ _ _ _
              rw [List.map_append]; exact ho2
            case measure => simp [intOf]; omega
    · have hlt' : ¬ (k : Int) < (len : Int) := by omega
      have HE : Hid (cut zs = (10, [], 0)) := by show _ = _; rw [← HC.out.1, List.drop_eq_nil_of_le (by rw [HI.out.1.hl]; omega), cutA_nil]
      go_wp2_with fail
      go_ret3
      exact fst_err HE.out (by decide) hbel

/-- What Cut tells. -/
def Cutd (w : World) (zs : List Int) (e : Ending) (w' : World) : Prop :=
  ∃ a' m c', e = .returned (.tuple #[.string (strOfNums (cut zs).2.1), .slice a' m c', .int .i64 (cut zs).1]) ∧ IsI .u8 w' a' m c' (rst zs) ∧ Below w.heap.size w w'
theorem rst_len (zs : List Int) : (rst zs).length ≤ zs.length := by unfold rst; split <;> simp
theorem cut_any (a : Option Addr) (len cap : Nat) (zs : List Int) (w : World) (hI : IsI .u8 w a len cap zs) (hby : Bytes zs) (hlen : len ≤ 100000) : Calls Try.prog 22 #[.slice a len cap] w (Cutd w zs) := by
  have H1 : Hid _ := first_any w.heap.size w a len cap zs w (fun W h => hI.below h) (Below.refl _ _) (Nat.le_refl _) hby hlen
  have hrl := rst_len zs
  rw [hI.hl] at hrl
  have HRL : Hid ((rst zs).length ≤ len) := hrl
  clear hI hrl
  go_enter Try.func22, Try.ntmps22
  go_wp2_with fail
  refine Calls.mono H1.out ?_
  rintro e w1 ⟨a1, m1, c1, rfl, hS1, hb1⟩
  have hI1 := hS1 w1 hb1
  clear hS1
  obtain ⟨er, her⟩ : ∃ x, Hid (x = (cut zs).1) := ⟨_, rfl⟩
  obtain ⟨tx, htx⟩ : ∃ x, Hid (x = strOfNums (cut zs).2.1) := ⟨_, rfl⟩
  rw [← her.out, ← htx.out]
  have HI1 : Hid (IsI .u8 w1 a1 m1 c1 (rst zs)) := hI1
  have hm1 : m1 ≤ 100000 := by have := HRL.out; rw [HI1.out.hl] at this; omega
  clear hI1
  go_wp2_with fail
  refine (cloneb_any a1 m1 c1 (rst zs) w1 HI1.out (by omega)).mono ?_
  rintro e w2 ⟨v2, rfl, ho2, hb2⟩
  obtain ⟨a2, c2, rfl, hI2⟩ := own_isI ho2
  have HI2 : Hid (IsI .u8 w2 a2 m1 c2 (rst zs)) := hI2
  clear ho2 hI2
  go_wp2_with fail
  go_ret3
  exact ⟨a2, m1, c2, by rw [her.out, htx.out]; rfl, HI2.out, hb1.trans (hb2.mono hb1.size)⟩
end Go.Proofs.Ythklkhdcmoonkaa
