/- The contract of Pack. Conditions: those of the theorem. -/
import Derived.Test.YtocjmbhfpofoeaaDoorW
import Derived.Test.YtocjmbhfpofoeaaDoorV
namespace Go.Proofs.YtocjmbhfpofoeaaDoor
open Go.RowKit

theorem pack_err (a : Option Addr) (len cap : Nat) (ls : List (List Int)) (w : World) (hI : IsR w a len cap ls) (hwf : WfR ls) (h : chk ls ≠ 0) :
    Calls Tryd.prog 44 #[.slice a len cap] w fun e w' => e = .returned (.tuple #[.slice none 0 0, .int .i64 (chk ls)]) ∧ w' = w := by
  have HC : Hid _ := check_any a len cap ls w hI hwf
  obtain ⟨x, hx⟩ : ∃ x, Hid (x = chk ls) := ⟨_, rfl⟩
  rw [← hx.out] at HC h ⊢
  have h0 : (x == 0) = false := by simpa using h
  clear hI hwf hx h
  go_enter Tryd.func44, Tryd.ntmps44
  go_wp2_with fail
  refine Calls.mono HC.out ?_
  rintro e w' ⟨rfl, hw'⟩; rw [hw']; clear hw' w'
  go_wp2_with fail
  go_ret2
  exact ⟨rfl, rfl⟩

set_option maxHeartbeats 3200000 in
theorem pack_ok (a : Option Addr) (len cap : Nat) (ls : List (List Int)) (w : World) (hI : IsR w a len cap ls) (hwf : WfR ls) (h : chk ls = 0) :
    Calls Tryd.prog 44 #[.slice a len cap] w fun e w' => ∃ v', e = .returned (.tuple #[v', .int .i64 0]) ∧ w'.ownsRow w.heap.size 5 1 v' (pk ls).length ((pk ls).map (Value.int .u8)) ∧ Below w.heap.size w w' := by
  obtain ⟨i0, hi, hz0, hz1, hz2⟩ := info_parts Tryd.info5
  have HC := check_any a len cap ls w hI hwf
  rw [h] at HC
  have HC' : Hid _ := HC
  obtain ⟨q1, q2, q3⟩ := chk_zero h
  have hpl := pk_le h
  have hm := hI.hm
  have hc := hI.hc
  unfold maxLen at hm
  have hl8 : len ≤ 8 := by rw [← hI.hl]; exact q1
  obtain ⟨T, hT⟩ : ∃ T, Hid (T = pk ls) := ⟨_, rfl⟩
  rw [← hT.out] at hpl
  have HPL : Hid (T.length ≤ 3370) := hpl
  rw [← hT.out]
  have HI : Hid (IsR w a len cap ls ∧ WfR ls ∧ good [] ls = true ∧ T = bs len ++ pkf [] ls) := ⟨hI, hwf, q3, by rw [hT.out, pk, hI.hl]⟩
  clear HC hI hwf h q1 q2 q3 hpl hT
  have hlw : IntKind.u64.wrap (len : Int) = (len : Int) := by rw [IntKind.wrap_u64]; omega
  go_enter Tryd.func44, Tryd.ntmps44
  go_wp2_with fail
  refine Calls.mono HC'.out ?_
  rintro e w' ⟨rfl, hw'⟩; rw [hw']; clear hw' w'
  go_wp2_with fail
  refine Calls.mono (put_any none 0 0 [] len w (by omega) rfl (.inl rfl) (by omega)) ?_
  rintro e w1 ⟨v1, rfl, ho, hb⟩
  have H1 : Hid (w1.ownsRow w.heap.size 5 1 v1 (bs len).length ((bs len).map (Value.int .u8)) ∧ Below w.heap.size w w1) := ⟨by simpa using ho, hb⟩
  clear ho hb
  go_wp2_with fail
  go_loopw [5, 6, 8, 9, 21] (fun v ah _ _ i wr => ∃ k m : Nat, k ≤ len ∧ i = .int .i64 (k : Int) ∧ ∃ aa na ca, ah = .slice aa na ca ∧ ∃ C A : List Int, Hid (m = C.length) ∧ Hid (wr.ownsRow w.heap.size 5 1 v m (C.map (Value.int .u8))) ∧ Hid (IsI .u8 wr aa na ca A ∧ good A (ls.drop k) = true ∧ C ++ pkf A (ls.drop k) = T) ∧ Below w.heap.size w wr) (fun _ _ _ _ i _ => len - (intOf i).toNat)
  case atStart =>
    exact ⟨0, _, Nat.zero_le _, rfl, none, 0, 0, rfl, bs len, [], rfl, H1.out.1, ⟨isI_nil _ _, by simpa using HI.out.2.2.1, by simpa using HI.out.2.2.2.symm⟩, H1.out.2⟩
  case round =>
    obtain ⟨k, m, hk, rfl, aa, na, ca, rfl, C, A, HM, HR, HA, hbel⟩ := hrel
    have hbase := hbel.size
    by_cases hlt : k < len
    · have hlt' : (k : Int) < (len : Int) := by omega
      have hkl : k < ls.length := by rw [HI.out.1.hl]; exact hlt
      obtain ⟨g, off, ai, ni, ci', rfl, hg, c0w, hx0⟩ := HI.out.1.rd.at hkl
      have c0 := (hbel.cell (p := ⟨g, off + k, none⟩) hg).trans c0w
      clear c0w
      obtain ⟨hAi, hgd, hpk⟩ := HA.out
      obtain ⟨X, hX⟩ : ∃ X, Hid (X = ls.getD k []) := ⟨_, rfl⟩
      rw [drop_consR ls k hkl, ← hX.out] at hgd hpk
      rw [← hX.out] at hx0
      have hx := hx0.below hbel
      obtain ⟨g1, g2, g3⟩ := good_cons hgd
      have hcm := cm_lt g2
      obtain ⟨n, hn⟩ : ∃ n, Hid (n = cm A X) := ⟨_, rfl⟩
      rw [← hn.out] at hcm
      have hnl := hx.hl
      have hnc := hx.hc
      have hncm := hx.hm
      have hng : ∃ gi offi, ai = some ⟨gi, offi, none⟩ := by
        obtain ⟨gi, offi, e, _⟩ := hx.lt (by omega); exact ⟨gi, offi, e⟩
      obtain ⟨gi, offi, rfl⟩ := hng
      have hn1 : n < ni := by omega
      have hni : ni ≤ 400 := by omega
      have hcl : C.length + ((bs n).length + ((bs (ni - n)).length + ((X.drop n).length + (pkf X (ls.drop (k + 1))).length))) = T.length := by
        rw [← hpk]; simp only [pkf, List.length_append, hn.out, hnl]
      have hPL := HPL.out
      have hmC := HM.out
      have hdl : (X.drop n).length = ni - n := by rw [List.length_drop, hnl]
      obtain ⟨l1, hl1⟩ : ∃ l1, Hid (l1 = (bs n).length) := ⟨_, rfl⟩
      obtain ⟨l2, hl2⟩ : ∃ l2, Hid (l2 = (bs (ni - n)).length) := ⟨_, rfl⟩
      rw [← hl1.out, ← hl2.out, ← hmC, hdl] at hcl
      have hsum : m + l1 + l2 + (ni - n) ≤ 3370 := by omega
      have hw1 : IntKind.u64.wrap (n : Int) = (n : Int) := by rw [IntKind.wrap_u64]; omega
      have hw2 : (ni : Int) - (n : Int) = ((ni - n : Nat) : Int) := by omega
      have hw3 : IntKind.u64.wrap ((ni - n : Nat) : Int) = ((ni - n : Nat) : Int) := by rw [IntKind.wrap_u64]; omega
      have hw4 : IntKind.i64.wrap ((ni - n : Nat) : Int) = ((ni - n : Nat) : Int) := by rw [IntKind.wrap_i64]; omega
      have hnn : (n : Int) < (ni : Int) := by omega
      have hcne : ¬ ci' = n := by omega
      have HX : Hid (IsI .u8 wr (some ⟨gi, offi, none⟩) ni ci' X ∧ good X (ls.drop (k + 1)) = true ∧ (C ++ bs n ++ bs (ni - n) ++ X.drop n) ++ pkf X (ls.drop (k + 1)) = T) := ⟨hx, g3, by rw [← hpk]; simp only [pkf, List.append_assoc, hn.out, hnl]⟩
      have HK : Hid _ := common_any aa na ca A (some ⟨gi, offi, none⟩) ni ci' X wr hAi hx
      rw [← hn.out] at HK
      unfold maxLen at hncm
      have HH : Hid (m + l1 + l2 + (ni - n) ≤ 3370 ∧ ni ≤ 400 ∧ n < ni) := ⟨hsum, hni, hn1⟩
      have HX0 : Hid (∀ W, Below w.heap.size w W → IsI .u8 W (some ⟨gi, offi, none⟩) ni ci' X) := fun W hW => hx0.below hW
      clear hAi hgd hpk hX hx hx0 g1 g2 g3 hcm hn hnl hcl hPL hmC hdl hkl
      go_wp2_with fail
      refine Calls.mono HK.out ?_
      rintro e w2 ⟨rfl, q, rfl⟩
      have b2 := below_dr wr q
      obtain ⟨bo, bc, hbv, hbI⟩ := own_isI (own_below HR.out b2)
      subst hbv
      have H2 : Hid (IsI .u8 (wr.drewN q) bo m bc C ∧ Below w.heap.size w (wr.drewN q) ∧ Below wr.heap.size wr (wr.drewN q)) := ⟨hbI, below_drN hbel q, b2⟩
      clear b2 hbI
      go_wp2_with fail
      refine Calls.mono (put_any bo m bc C n _ (by have := HH.out; omega) H2.out.1.hl H2.out.1.rd (by have := HH.out; omega)) ?_
      rintro e w3 ⟨v3, rfl, ho3, hb3⟩
      obtain ⟨b3, c3, hbv, hbI⟩ := own_isI ho3
      subst hbv
      rw [← hl1.out] at ho3 hbI
      have H3 : Hid (IsI .u8 w3 b3 (m + l1) c3 (C ++ bs n) ∧ Below w.heap.size w w3 ∧ Below wr.heap.size wr w3) := ⟨hbI, H2.out.2.1.trans (hb3.mono H2.out.2.1.size), H2.out.2.2.trans (hb3.mono H2.out.2.2.size)⟩
      clear hbI ho3 hb3
      rw [← hl1.out]
      go_wp2_with fail
      refine Calls.mono (put_any b3 (m + l1) c3 (C ++ bs n) (ni - n) _ (by have := HH.out; omega) H3.out.1.hl H3.out.1.rd (by have := HH.out; omega)) ?_
      rintro e w4 ⟨v4, rfl, ho4, hb4⟩
      rw [← hl2.out] at ho4
      have H4 : Hid (w4.ownsRow w.heap.size 5 1 v4 (m + l1 + l2) ((C ++ bs n ++ bs (ni - n)).map (Value.int .u8)) ∧ Below w.heap.size w w4 ∧ Below wr.heap.size wr w4) := ⟨own_mono ho4 H3.out.2.1.size, H3.out.2.1.trans (hb4.mono H3.out.2.1.size), H3.out.2.2.trans (hb4.mono H3.out.2.2.size)⟩
      have HI4 : Hid (IsI .u8 w4 (some ⟨gi, offi, none⟩) ni ci' X) := HX.out.1.below H4.out.2.2
      have HP : Hid (Rd .u8 w4 (some ⟨gi, offi + n, none⟩) (X.drop n) ∧ (X.drop n).length = ni - n) := by
        have := HI4.out.rd.drop HI4.out.hl HI4.out.hc (m := n) (by have := HH.out; omega)
        rw [if_neg hcne] at this
        exact ⟨this, by rw [List.length_drop, HI4.out.hl]⟩
      have hsz4 := H4.out.2.1.size
      clear ho4 hb4
      go_wp2_with (at_builtin; refine wpList_append_any _ rfl (.tmp 39) (.tmp 42) 23 rfl w.heap.size 5 i0 (.int .u8 0) 1 1 Tryd.underlying23 hi hz0 hz1 hz2 rfl (by decide) _ (m + l1 + l2) _ rfl H4.out.1 (some ⟨gi, offi + n, none⟩) (ni - n) (ci' - n) ((X.drop n).map (Value.int .u8)) rfl (by rw [List.length_map, HP.out.2, Nat.mul_one]) (fun h => by cases h) (rd_any HP.out.1) (ints_oneCell .u8 _) (by unfold maxLen; have := HH.out; omega) (by have := HH.out; omega) hsz4 ?_; intro v5 w5 ho5 hg5)
      have b5 : Below w.heap.size w w5 := H4.out.2.1.grown hg5 hsz4 (fun j hj => (H4.out.1.lt j hj).1)
      have HA5 : Hid (IsI .u8 w5 (some ⟨gi, offi, none⟩) ni ci' X) := HX0.out _ b5
      go_roundw
      case rel =>
        refine ⟨k + 1, m + l1 + l2 + (ni - n), by omega, by go_num, _, _, _, rfl, C ++ bs n ++ bs (ni - n) ++ X.drop n, X, ?_, ?_, ⟨HA5.out, HX.out.2⟩, b5⟩
        · show _ = _
          simp only [List.length_append, hl1.out, hl2.out, HM.out, HP.out.2]
        · show World.ownsRow _ _ _ _ _ _ _
          rw [List.map_append]
          exact ho5
      case measure => simp [intOf]; omega
    · have hlt' : ¬ (k : Int) < (len : Int) := by omega
      have hd : ls.drop k = [] := List.drop_of_length_le (by rw [HI.out.1.hl]; omega)
      have hCT : C = T := by have := HA.out.2.2; rw [hd] at this; simpa [pkf] using this
      have HO : Hid (wr.ownsRow w.heap.size 5 1 u5 T.length (T.map (Value.int .u8))) := by rw [← hCT, ← HM.out]; exact HR.out
      clear hCT hd
      go_wp2_with fail
      go_ret2
      exact ⟨u5, rfl, HO.out, hbel⟩
end Go.Proofs.YtocjmbhfpofoeaaDoor
