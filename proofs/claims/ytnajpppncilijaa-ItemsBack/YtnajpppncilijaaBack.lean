/- For any items and any bytes: what is packed is unpacked, what is unpacked is packed again, and what is cut short or has more behind is refused: ItemsBack returns true, and its arguments read as before. No conditions. -/
import Derived.Test.YtnajpppncilijaaS
namespace Go.Proofs.Ytnajpppncilijaa
open Go.ChangeShapes Go.WideShapes Go.ChangeAt Go.RowKit Go.Lib
open Go.ChangeMaps (open_string shut_string)

theorem few_len {w : World} {a : Option Addr} {len cap : Nat} {ls : List (List Int)} (hI : IsR w a len cap ls) (h : few ls = true) : len ≤ 60 := by rw [← hI.hl]; exact (few_spec h).1
theorem take_last (l : List Int) : l.take (l.length - 1) = l.dropLast := (List.dropLast_eq_take).symm

set_option maxRecDepth 20000 in
set_option maxHeartbeats 8000000 in
theorem itemsBack_walk (a : Option Addr) (len cap : Nat) (ls : List (List Int)) {w0 : World} (hR : IsR w0 a len cap ls) (hwf : WfR ls) (ab : Option Addr) (nb cb : Nat) (z : List Int) (hZ : IsI .u8 w0 ab nb cb z) (hbz : Bytes z) {w : World} (hw : w = w0) :
    Calls Try.prog 4 #[.slice a len cap, .slice ab nb cb] w fun r w' => r = .returned (.bool true) ∧ Below w.heap.size w w' := by
  subst hw
  obtain ⟨i0, hi0, hz0, hz1, hz2⟩ := info_parts Try.info5
  have HI : Hid ((IsR w a len cap ls ∧ WfR ls) ∧ IsI .u8 w ab nb cb z ∧ Bytes z) := ⟨⟨hR, hwf⟩, hZ, hbz⟩
  have hc := hR.hc
  have hm := hR.hm
  have hcx := hZ.hc
  have hmx := hZ.hm
  unfold maxLen at hm hmx
  clear hR hwf hZ hbz
  go_enter Try.func4, Try.ntmps4
  go_wp2_with fail
  refine (awake_any _).mono ?_
  rintro e w1 ⟨rfl, b1⟩
  have H1 : Hid (IsR w1 a len cap ls ∧ IsI .u8 w1 ab nb cb z ∧ Below w.heap.size w w1) := ⟨HI.out.1.1.below b1, HI.out.2.1.below b1, b1⟩
  clear b1
  go_wp2_with fail
  refine (few_any a len cap ls w1 H1.out.1).mono ?_
  rintro e w' ⟨rfl, hw'⟩; rw [hw']; clear hw' w'
  obtain ⟨f1, hf1⟩ : ∃ f, Hid (f = few ls) := ⟨_, rfl⟩
  rw [← hf1.out]
  cases f1 with
  | false =>
    go_wp2_with fail
    go_ret
    exact ⟨rfl, H1.out.2.2⟩
  | true =>
    have h60 := few_len H1.out.1 hf1.out.symm
    clear hf1
    by_cases h6 : 5000 < nb
    · have h6' : (5000 : Int) < (nb : Int) := by omega
      go_wp2_with fail
      go_ret
      exact ⟨rfl, H1.out.2.2⟩
    have h6' : ¬ (5000 : Int) < (nb : Int) := by omega
    go_wp2_with fail
    refine Calls.mono (unpack_any ab nb cb z w1 H1.out.2.1 HI.out.2.2 (by omega)) ?_
    rintro e w2 ⟨⟨a2, n2, c2, rfl, hR2, hW2⟩, b2⟩
    have H2 : Hid (IsR w2 a2 n2 c2 (upk z).1 ∧ WfR (upk z).1 ∧ IsR w2 a len cap ls ∧ IsI .u8 w2 ab nb cb z ∧ Below w.heap.size w w2) := ⟨hR2, hW2, H1.out.1.below b2, H1.out.2.1.below b2, H1.out.2.2.trans (b2.mono H1.out.2.2.size)⟩
    clear hR2 hW2 b2
    obtain ⟨x, hx⟩ : ∃ x, Hid (x = (upk z).2) := ⟨_, rfl⟩
    rw [← hx.out]
    by_cases h0 : x = 0
    · subst h0
      obtain ⟨k1, k2⟩ := upk_ok hx.out.symm
      have HK : Hid (pk (upk z).1 = z) := k2
      go_wp2_with fail
      refine Calls.mono (pack_ok a2 n2 c2 _ w2 H2.out.1 H2.out.2.1 k1) ?_
      rintro e w3 ⟨v3, rfl, ho3, b3⟩
      obtain ⟨a3, c3, rfl, hI3⟩ := own_isI ho3
      rw [HK.out] at hI3 ⊢
      have v1 := conv_rd w3 a3 c3 _ z hI3.hl hI3.rd
      have v2 := conv_rd w3 ab cb nb z H2.out.2.2.2.1.hl (H2.out.2.2.2.1.rd.below b3)
      have hzl : z.length = nb := H2.out.2.2.2.1.hl
      rw [hzl] at v1 ⊢
      generalize strOfNums z = ST at v1 v2
      have H3 : Hid (IsR w3 a len cap ls ∧ Below w.heap.size w w3) := ⟨H2.out.2.2.1.below b3, H2.out.2.2.2.2.trans (b3.mono H2.out.2.2.2.2.size)⟩
      clear ho3 hI3 b3 k1 k2
      go_wp2_with fail
      by_cases hc0 : chk ls = 0
      · have HP : Hid _ := pack_ok a len cap ls _ H3.out.1 HI.out.1.2 hc0
        obtain ⟨s, hs⟩ : ∃ s, Hid ((pk ls).length = s + 1) := ⟨(pk ls).length - 1, by have := pk_pos ls; show _ = _; omega⟩
        have hs3 : s + 1 ≤ 3370 := by rw [← hs.out]; exact pk_le hc0
        have HU : Hid (upk (pk ls) = (ls, 0) ∧ (upk (pk ls).dropLast).2 = 10 ∧ (upk (pk ls ++ [0])).2 = 11 ∧ Bytes (pk ls)) := ⟨upk_pk hc0, upk_cut hc0, upk_long hc0 0, pk_bytes hc0 HI.out.1.2⟩
        clear hc0
        rw [hs.out] at HP
        refine Calls.mono HP.out ?_
        rintro e w4 ⟨v4, rfl, ho4, b4⟩
        obtain ⟨a4, c4, rfl, hI4⟩ := own_isI ho4
        obtain ⟨g4, o4, rfl, _, _⟩ := hI4.lt (by omega)
        have H4 : Hid (IsI .u8 w4 (some ⟨g4, o4, none⟩) (s + 1) c4 (pk ls) ∧ IsR w4 a len cap ls ∧ Below w.heap.size w w4) := ⟨hI4, H3.out.1.below b4, H3.out.2.trans (b4.mono H3.out.2.size)⟩
        have hc4 := hI4.hc
        have hm4 := hI4.hm
        unfold maxLen at hm4
        clear ho4 hI4 b4
        go_wp2_with fail
        refine Calls.mono (unpack_any _ (s + 1) c4 _ w4 H4.out.1 HU.out.2.2.2 (by omega)) ?_
        rintro e w5 ⟨⟨a5, n5, c5, rfl, hR5, _⟩, b5⟩
        rw [HU.out.1] at hR5 ⊢
        have H5 : Hid (IsR w5 a5 n5 c5 ls ∧ IsI .u8 w5 (some ⟨g4, o4, none⟩) (s + 1) c4 (pk ls) ∧ IsR w5 a len cap ls ∧ Below w.heap.size w w5) := ⟨hR5, H4.out.1.below b5, H4.out.2.1.below b5, H4.out.2.2.trans (b5.mono H4.out.2.2.size)⟩
        clear hR5 b5
        have hw1 : IntKind.i64.wrap (s : Int) = (s : Int) := by rw [IntKind.wrap_i64]; omega
        have hs0 : (0 : Int) ≤ (s : Int) := by omega
        have hs1 : (s : Int) ≤ (c4 : Int) := by omega
        have HD : Hid (IsI .u8 w5 (some ⟨g4, o4, none⟩) s c4 (pk ls).dropLast) := by
          have h := H5.out.2.1
          have e := take_last (pk ls)
          rw [hs.out, Nat.add_sub_cancel] at e
          rw [← e]
          exact ⟨by rw [List.length_take, hs.out]; omega, by omega, h.hm, h.rd.take _, fun h => by cases h⟩
        go_wp2_with fail
        refine Calls.mono (unpack_any _ s c4 _ w5 HD.out (by rw [← take_last]; exact bytes_take HU.out.2.2.2 _) (by omega)) ?_
        rintro e w6 ⟨⟨a6, n6, c6, rfl, _, _⟩, b6⟩
        rw [HU.out.2.1]
        have H6 : Hid (IsR w6 a5 n5 c5 ls ∧ IsI .u8 w6 (some ⟨g4, o4, none⟩) (s + 1) c4 (pk ls) ∧ IsR w6 a len cap ls ∧ Below w.heap.size w w6) := ⟨H5.out.1.below b6, H5.out.2.1.below b6, H5.out.2.2.1.below b6, H5.out.2.2.2.trans (b6.mono H5.out.2.2.2.size)⟩
        clear b6
        have ba : Below w6.heap.size w6 (w6.alloc (.cells #[] 5)) := (Below.refl _ _).alloc (Nat.le_refl _) _
        have HA : Hid (Below w6.heap.size w6 (w6.alloc (.cells #[] 5))) := ba
        clear ba
        go_wp2_with (first
          | (at_builtin; refine wpList_append_any _ rfl (.tmp 83) (.tmp 84) 23 rfl w6.heap.size 5 i0 (.int .u8 0) 1 1 Try.underlying23 hi0 hz0 hz1 hz2 rfl (by decide) _ 0 _ rfl (own_empty5 w6 _ (Nat.le_refl _)) (some ⟨g4, o4, none⟩) (s + 1) c4 ((pk ls).map (Value.int .u8)) rfl (by rw [List.length_map, hs.out, Nat.mul_one]) (fun h => by cases h) (rd_any (H6.out.2.1.rd.below HA.out)) (ints_oneCell .u8 _) (by unfold maxLen; omega) (by omega) (by simp) ?_; intro v7 w7 ho7 hg7)
          | (at_builtin; refine wpList_append_own _ rfl (.tmp 85) (.tmp 86) 23 rfl w6.heap.size 5 i0 (.int .u8 0) 1 1 Try.underlying23 hi0 hz0 hz1 hz2 rfl (by decide) _ (0 + (s + 1)) _ rfl (ho7.alloc _) ⟨w7.heap.size, 0, none⟩ 1 1 [.int .u8 0] rfl rfl (one_at _ _ _) (one_one 0) (by unfold maxLen; omega) (by omega) (by have := hg7.size; simp at this ⊢; omega) ?_; intro v8 w8 ho8 hg8 _))
        have e9 : (([] : List Int).map (Value.int .u8) ++ (pk ls).map (Value.int .u8)) ++ [Value.int .u8 0] = (pk ls ++ [0]).map (Value.int .u8) := by simp
        rw [e9] at ho8
        obtain ⟨a8, c8, rfl, hI8⟩ := own_isI ho8
        have b7 : Below w6.heap.size w6 w7 := HA.out.grown hg7 (by simp) (fun j hj => ((own_empty5 w6 _ (Nat.le_refl _)).lt j hj).1)
        have b8 : Below w6.heap.size w6 w8 := (b7.alloc b7.size _).grown hg8 (by have := b7.size; simp; omega) (fun j hj => (ho7.lt j hj).1)
        have hby9 : Bytes (pk ls ++ [0]) := bytes_append HU.out.2.2.2 (by intro x hx; simp at hx; omega)
        have H8 : Hid (IsR w8 a5 n5 c5 ls ∧ IsR w8 a len cap ls ∧ Below w.heap.size w w8) := ⟨H6.out.1.below b8, H6.out.2.2.1.below b8, H6.out.2.2.2.trans (b8.mono H6.out.2.2.2.size)⟩
        have HQ : Hid _ := unpack_any a8 _ c8 _ w8 hI8 hby9 (by omega)
        clear e9 ho8 hI8 b7 b8 hby9 hg7 hg8 ho7
        refine Calls.mono HQ.out ?_
        rintro e w9 ⟨⟨a9, n9, c9, rfl, _, _⟩, b9⟩
        rw [HU.out.2.2.1]
        have H9 : Hid (IsR w9 a5 n5 c5 ls ∧ IsR w9 a len cap ls ∧ Below w.heap.size w w9) := ⟨H8.out.1.below b9, H8.out.2.1.below b9, H8.out.2.2.trans (b9.mono H8.out.2.2.size)⟩
        clear b9
        go_wp2_with fail
        refine Calls.mono (same_any a5 n5 c5 ls a len cap ls w9 H9.out.1 HI.out.1.2 H9.out.2.1 HI.out.1.2) ?_
        rintro e w10 ⟨rfl, b10⟩
        have HB : Hid (Below w.heap.size w w10) := H9.out.2.2.trans (b10.mono H9.out.2.2.size)
        have ht : decide (ls = ls) = true := by simp
        rw [ht]
        clear b10 ht
        go_wp2_with fail
        go_ret
        exact ⟨rfl, HB.out⟩
      · have HP : Hid _ := pack_err a len cap ls _ H3.out.1 HI.out.1.2 hc0
        have HC : Hid _ := check_any a len cap ls _ H3.out.1 HI.out.1.2
        obtain ⟨y, hy⟩ : ∃ y, Hid (y = chk ls) := ⟨_, rfl⟩
        rw [← hy.out] at HP HC hc0
        have hy1 : (y == 0) = false := by simpa using hc0
        have hy2 : (y != 0) = true := by simpa using hc0
        clear hc0
        refine Calls.mono HP.out ?_
        rintro e w4 ⟨rfl, hw4⟩; rw [hw4]; clear hw4 w4
        go_wp2_with fail
        refine Calls.mono HC.out ?_
        rintro e w4 ⟨rfl, hw4⟩; rw [hw4]; clear hw4 w4
        go_wp2_with fail
        go_ret
        first | exact ⟨rfl, H3.out.2⟩ | exact ⟨ret_bool (by simp), H3.out.2⟩
    · have h0' : (x == 0) = false := by simpa using h0
      have H3 : Hid (IsR w2 a len cap ls ∧ Below w.heap.size w w2) := ⟨H2.out.2.2.1, H2.out.2.2.2.2⟩
      go_wp2_with fail
      by_cases hc0 : chk ls = 0
      · have HP : Hid _ := pack_ok a len cap ls _ H3.out.1 HI.out.1.2 hc0
        obtain ⟨s, hs⟩ : ∃ s, Hid ((pk ls).length = s + 1) := ⟨(pk ls).length - 1, by have := pk_pos ls; show _ = _; omega⟩
        have hs3 : s + 1 ≤ 3370 := by rw [← hs.out]; exact pk_le hc0
        have HU : Hid (upk (pk ls) = (ls, 0) ∧ (upk (pk ls).dropLast).2 = 10 ∧ (upk (pk ls ++ [0])).2 = 11 ∧ Bytes (pk ls)) := ⟨upk_pk hc0, upk_cut hc0, upk_long hc0 0, pk_bytes hc0 HI.out.1.2⟩
        clear hc0
        rw [hs.out] at HP
        refine Calls.mono HP.out ?_
        rintro e w4 ⟨v4, rfl, ho4, b4⟩
        obtain ⟨a4, c4, rfl, hI4⟩ := own_isI ho4
        obtain ⟨g4, o4, rfl, _, _⟩ := hI4.lt (by omega)
        have H4 : Hid (IsI .u8 w4 (some ⟨g4, o4, none⟩) (s + 1) c4 (pk ls) ∧ IsR w4 a len cap ls ∧ Below w.heap.size w w4) := ⟨hI4, H3.out.1.below b4, H3.out.2.trans (b4.mono H3.out.2.size)⟩
        have hc4 := hI4.hc
        have hm4 := hI4.hm
        unfold maxLen at hm4
        clear ho4 hI4 b4
        go_wp2_with fail
        refine Calls.mono (unpack_any _ (s + 1) c4 _ w4 H4.out.1 HU.out.2.2.2 (by omega)) ?_
        rintro e w5 ⟨⟨a5, n5, c5, rfl, hR5, _⟩, b5⟩
        rw [HU.out.1] at hR5 ⊢
        have H5 : Hid (IsR w5 a5 n5 c5 ls ∧ IsI .u8 w5 (some ⟨g4, o4, none⟩) (s + 1) c4 (pk ls) ∧ IsR w5 a len cap ls ∧ Below w.heap.size w w5) := ⟨hR5, H4.out.1.below b5, H4.out.2.1.below b5, H4.out.2.2.trans (b5.mono H4.out.2.2.size)⟩
        clear hR5 b5
        have hw1 : IntKind.i64.wrap (s : Int) = (s : Int) := by rw [IntKind.wrap_i64]; omega
        have hs0 : (0 : Int) ≤ (s : Int) := by omega
        have hs1 : (s : Int) ≤ (c4 : Int) := by omega
        have HD : Hid (IsI .u8 w5 (some ⟨g4, o4, none⟩) s c4 (pk ls).dropLast) := by
          have h := H5.out.2.1
          have e := take_last (pk ls)
          rw [hs.out, Nat.add_sub_cancel] at e
          rw [← e]
          exact ⟨by rw [List.length_take, hs.out]; omega, by omega, h.hm, h.rd.take _, fun h => by cases h⟩
        go_wp2_with fail
        refine Calls.mono (unpack_any _ s c4 _ w5 HD.out (by rw [← take_last]; exact bytes_take HU.out.2.2.2 _) (by omega)) ?_
        rintro e w6 ⟨⟨a6, n6, c6, rfl, _, _⟩, b6⟩
        rw [HU.out.2.1]
        have H6 : Hid (IsR w6 a5 n5 c5 ls ∧ IsI .u8 w6 (some ⟨g4, o4, none⟩) (s + 1) c4 (pk ls) ∧ IsR w6 a len cap ls ∧ Below w.heap.size w w6) := ⟨H5.out.1.below b6, H5.out.2.1.below b6, H5.out.2.2.1.below b6, H5.out.2.2.2.trans (b6.mono H5.out.2.2.2.size)⟩
        clear b6
        have ba : Below w6.heap.size w6 (w6.alloc (.cells #[] 5)) := (Below.refl _ _).alloc (Nat.le_refl _) _
        have HA : Hid (Below w6.heap.size w6 (w6.alloc (.cells #[] 5))) := ba
        clear ba
        go_wp2_with (first
          | (at_builtin; refine wpList_append_any _ rfl (.tmp 83) (.tmp 84) 23 rfl w6.heap.size 5 i0 (.int .u8 0) 1 1 Try.underlying23 hi0 hz0 hz1 hz2 rfl (by decide) _ 0 _ rfl (own_empty5 w6 _ (Nat.le_refl _)) (some ⟨g4, o4, none⟩) (s + 1) c4 ((pk ls).map (Value.int .u8)) rfl (by rw [List.length_map, hs.out, Nat.mul_one]) (fun h => by cases h) (rd_any (H6.out.2.1.rd.below HA.out)) (ints_oneCell .u8 _) (by unfold maxLen; omega) (by omega) (by simp) ?_; intro v7 w7 ho7 hg7)
          | (at_builtin; refine wpList_append_own _ rfl (.tmp 85) (.tmp 86) 23 rfl w6.heap.size 5 i0 (.int .u8 0) 1 1 Try.underlying23 hi0 hz0 hz1 hz2 rfl (by decide) _ (0 + (s + 1)) _ rfl (ho7.alloc _) ⟨w7.heap.size, 0, none⟩ 1 1 [.int .u8 0] rfl rfl (one_at _ _ _) (one_one 0) (by unfold maxLen; omega) (by omega) (by have := hg7.size; simp at this ⊢; omega) ?_; intro v8 w8 ho8 hg8 _))
        have e9 : (([] : List Int).map (Value.int .u8) ++ (pk ls).map (Value.int .u8)) ++ [Value.int .u8 0] = (pk ls ++ [0]).map (Value.int .u8) := by simp
        rw [e9] at ho8
        obtain ⟨a8, c8, rfl, hI8⟩ := own_isI ho8
        have b7 : Below w6.heap.size w6 w7 := HA.out.grown hg7 (by simp) (fun j hj => ((own_empty5 w6 _ (Nat.le_refl _)).lt j hj).1)
        have b8 : Below w6.heap.size w6 w8 := (b7.alloc b7.size _).grown hg8 (by have := b7.size; simp; omega) (fun j hj => (ho7.lt j hj).1)
        have hby9 : Bytes (pk ls ++ [0]) := bytes_append HU.out.2.2.2 (by intro x hx; simp at hx; omega)
        have H8 : Hid (IsR w8 a5 n5 c5 ls ∧ IsR w8 a len cap ls ∧ Below w.heap.size w w8) := ⟨H6.out.1.below b8, H6.out.2.2.1.below b8, H6.out.2.2.2.trans (b8.mono H6.out.2.2.2.size)⟩
        have HQ : Hid _ := unpack_any a8 _ c8 _ w8 hI8 hby9 (by omega)
        clear e9 ho8 hI8 b7 b8 hby9 hg7 hg8 ho7
        refine Calls.mono HQ.out ?_
        rintro e w9 ⟨⟨a9, n9, c9, rfl, _, _⟩, b9⟩
        rw [HU.out.2.2.1]
        have H9 : Hid (IsR w9 a5 n5 c5 ls ∧ IsR w9 a len cap ls ∧ Below w.heap.size w w9) := ⟨H8.out.1.below b9, H8.out.2.1.below b9, H8.out.2.2.trans (b9.mono H8.out.2.2.size)⟩
        clear b9
        go_wp2_with fail
        refine Calls.mono (same_any a5 n5 c5 ls a len cap ls w9 H9.out.1 HI.out.1.2 H9.out.2.1 HI.out.1.2) ?_
        rintro e w10 ⟨rfl, b10⟩
        have HB : Hid (Below w.heap.size w w10) := H9.out.2.2.trans (b10.mono H9.out.2.2.size)
        have ht : decide (ls = ls) = true := by simp
        rw [ht]
        clear b10 ht
        go_wp2_with fail
        go_ret
        exact ⟨rfl, HB.out⟩
      · have HP : Hid _ := pack_err a len cap ls _ H3.out.1 HI.out.1.2 hc0
        have HC : Hid _ := check_any a len cap ls _ H3.out.1 HI.out.1.2
        obtain ⟨y, hy⟩ : ∃ y, Hid (y = chk ls) := ⟨_, rfl⟩
        rw [← hy.out] at HP HC hc0
        have hy1 : (y == 0) = false := by simpa using hc0
        have hy2 : (y != 0) = true := by simpa using hc0
        clear hc0
        refine Calls.mono HP.out ?_
        rintro e w4 ⟨rfl, hw4⟩; rw [hw4]; clear hw4 w4
        go_wp2_with fail
        refine Calls.mono HC.out ?_
        rintro e w4 ⟨rfl, hw4⟩; rw [hw4]; clear hw4 w4
        go_wp2_with fail
        go_ret
        first | exact ⟨rfl, H3.out.2⟩ | exact ⟨ret_bool (by simp), H3.out.2⟩

set_option maxRecDepth 100000 in
theorem itemsBack_lifted (os : Os) (started : os.Started) (H : Type) (enc : TypeId × Value → H) :
    ReturnsInHanded {} Try.checked os 4 .any (Rows.itemsBackSpec.pre6 enc Try.prog Try.f4 Rows.itemsBackRow.domain false) (Rows.itemsBackSpec.post enc Try.prog Try.f4 false true false false) := by
  refine returnsInHanded_of_change (C := Try.checked) own started (by kernel_rfl) Try.func4
    (ChangeSpec.witness6 (enc := enc) (C := Try.checked) false ⟨#[], #[.slice none 0 0, .slice none 0 0], []⟩ 8 (by kernel_rfl) (by kernel_rfl) (by kernel_rfl) (by kernel_rfl)) ?_
  intro W base args ds gs before hval0 hW hcnd _
  have hval : ∀ (j : Nat) t v, Try.f4.params[j]? = some t → args[j]? = some v → Value.okWide Try.prog W .any base t v := hval0
  have hW' := hW
  obtain ⟨p, q, hA0, hV, rfl, hfz, hnd⟩ := hW
  have hA : DataW.TrodAll enc Try.prog W 0 (fun _ => true) true Try.f4.params.toList args.toList ds p := hA0
  rw [Try.params4] at hA hval
  obtain ⟨v0, vs0, d0, ds0, p0, q0, hargs, rfl, rfl, h0, r0⟩ := trodAll_cons hA
  obtain ⟨v1, vs1, d1, ds1, p1, q1, rfl, rfl, rfl, h1, r1⟩ := trodAll_cons r0
  obtain ⟨rfl, rfl, rfl⟩ := trodAll_nil r1
  obtain rfl : args = #[v0, v1] := by cases args; simp_all
  obtain ⟨rfl, rfl⟩ := trodVars_none hV
  obtain ⟨a0, len0, cap0, rfl⟩ := okWide_slice Try.underlying22 (hval 0 22 v0 rfl rfl)
  have k0 := h0
  have lt0 : ∀ x ∈ p0, x.block < W.heap.size := by obtain ⟨m, hm⟩ := k0; exact DataW.trod_lt m _ _ _ hm
  obtain ⟨vl0, w0, wf0⟩ : ∃ ls, IsR W a0 len0 cap0 ls ∧ WfR ls := by obtain ⟨fuel, hf⟩ := h0; exact isR_of hf
  obtain ⟨a1, len1, cap1, rfl⟩ := okWide_slice Try.underlying23 (hval 1 23 v1 rfl rfl)
  have k1 := h1
  have lt1 : ∀ x ∈ p1, x.block < W.heap.size := by obtain ⟨m, hm⟩ := k1; exact DataW.trod_lt m _ _ _ hm
  obtain ⟨vl1, w1, wf1⟩ : ∃ ms, IsI .u8 W a1 len1 cap1 ms ∧ Bytes ms := by obtain ⟨fuel, hf⟩ := h1; exact isI_of hf
  clear hA0 hval0
  refine (itemsBack_walk a0 len0 cap0 vl0 w0 wf0 a1 len1 cap1 vl1 w1 wf1 rfl).mono fun e W' ⟨he, hb⟩ => ?_
  subst he
  exact ⟨_, rfl, _, _, _, [], _, [], hW', trodAll_mk1 (shut_bool Try.underlying4 _), (trodAll_cons_mk (Below.trod laidOut (by kernel_rfl) (of_decide_eq_true (by kernel_rfl)) k0 hb lt0) (trodAll_cons_mk (Below.trod laidOut (by kernel_rfl) (of_decide_eq_true (by kernel_rfl)) k1 hb lt1) trodAll_mk0)), rfl, hb.frame _, fun h => by cases h⟩

theorem itemsBack_holds : Rows.ItemsBackSaid :=
  OpenClaim.holds_of_wide 4 Try.f4 rfl rfl rfl rfl rfl rfl rfl ⟨rfl, rfl, rfl, rfl, rfl⟩ rfl rfl rfl rfl rfl (by kernel_rfl) Try.func4 (by kernel_rfl)
    (of_decide_eq_true (by kernel_rfl)) (by unfold Func.isWrapper; first | (rw [if_pos (by decide +kernel)]; kernel_rfl) | (rw [if_neg (by decide +kernel)]; exact ⟨rfl, rfl⟩))
    (fun os started H enc _ => itemsBack_lifted os started H enc)
#print axioms itemsBack_holds
end Go.Proofs.Ytnajpppncilijaa
