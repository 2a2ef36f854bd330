/- For every number and step and any count, alike numbers are Const, even steps are Step, and take as many bytes as two of them do: CodecFlat returns true, and its arguments read as before. Conditions: the listed package variable starts as the program's text lays it (the card ties it). -/
import Derived.Test.YtbgipenonngccaaDoorFr
import Derived.Deep.AppendLies
namespace Go.Proofs.YtbgipenonngccaaDoor
open Go.ChangeShapes Go.WideShapes Go.ChangeAt Go.RowKit Go.Lib

theorem and63 (n : Int) : ∃ q : Nat, q ≤ 63 ∧ bits .and .i64 n 63 = (q : Int) := by
  refine ⟨(BitVec.ofInt 64 n &&& BitVec.ofInt 64 63).toNat, ?_, ?_⟩
  · rw [BitVec.toNat_and]
    have : (BitVec.ofInt 64 63).toNat = 63 := by decide
    rw [this]; exact Nat.and_le_right
  · show IntKind.i64.wrap ((BitVec.ofInt 64 n &&& BitVec.ofInt 64 63).toNat : Int) = _
    have h : (BitVec.ofInt 64 n &&& BitVec.ofInt 64 63).toNat ≤ 63 := by
      rw [BitVec.toNat_and]
      have : (BitVec.ofInt 64 63).toNat = 63 := by decide
      rw [this]; exact Nat.and_le_right
    rw [IntKind.wrap_i64]; omega

def evx (a d : Int) : Nat → Int
  | 0 => a
  | j + 1 => evx (wrap64 (a + d)) d j
theorem evx_succ (d : Int) : ∀ (j : Nat) (a : Int), evx a d (j + 1) = wrap64 (evx a d j + d)
  | 0, _ => rfl
  | j + 1, a => evx_succ d j (wrap64 (a + d))
theorem ev_snoc (d : Int) : ∀ (j : Nat) (a : Int), ev a d (j + 1) = ev a d j ++ [evx a d j]
  | 0, _ => rfl
  | j + 1, a => by
    show a :: ev (wrap64 (a + d)) d (j + 1) = (a :: ev (wrap64 (a + d)) d j) ++ [evx (wrap64 (a + d)) d j]
    rw [ev_snoc d j]; rfl
theorem own_isI {w : World} {base n : Nat} {v : Value} {zs : List Int} (h : w.ownsRow base 2 1 v n (zs.map (Value.int .i64))) : ∃ a c, v = .slice a n c ∧ IsI .i64 w a n c zs := by
  obtain ⟨a, c, rfl, hr⟩ := own_form h
  have hl : zs.length = n := by have := h.1; simpa using this
  refine ⟨a, c, rfl, hl, own_cap h, ?_, hr, ?_⟩
  · rcases h with ⟨_, ⟨h, _⟩ | ⟨_, _, _, hv, _, _, _, h1, _⟩⟩
    · cases h; exact Nat.zero_le _
    · cases hv; exact h1
  · intro e
    rcases h with ⟨_, ⟨h, _⟩ | ⟨_, _, _, hv, _⟩⟩
    · cases h; rfl
    · cases hv; cases e
theorem Rd.take {k : IntKind} {w : World} {a : Option Addr} {zs : List Int} (h : Rd k w a zs) (n : Nat) : Rd k w a (zs.take n) := by
  rcases h with rfl | ⟨b, off, h1, h2, h3⟩
  · exact .inl (by simp)
  · refine .inr ⟨b, off, h1, h2, fun i hi => ?_⟩
    simp only [List.length_take] at hi
    rw [h3 i (by omega)]
    congr 2
    simp [List.getD, show i < n by omega]
theorem one_news (w : World) (x : Int) : ∀ j u, [Value.int .i64 x][j]? = some u → (w.alloc (.cells #[.int .i64 x] 2)).cell? ((⟨w.heap.size, 0, none⟩ : Addr).add j) = some u := one_at w (.int .i64 x) 2

/-- The code of two alike numbers by Const, of two numbers by Step. -/
theorem code_two_alike {f : Int} : code 0 [f, f] = some (0 :: (bs 2 ++ zb f)) := by
  have h : nms 0 [f, f] = some [f] := by rw [nms_0, if_pos ⟨by simp, alk_replicate f 2⟩]; rfl
  have := code_some (l := [f, f]) (by simp) h
  rw [this, zbs_cons]; simp [zbs]
theorem code_two_step {f g d : Int} (hf : I64 f) (hd : dif f g = d) : code 1 [f, g] = some (1 :: (bs 2 ++ (zb f ++ zb d))) := by
  have e : dfs 0 [f, g] = [f, d] := by rw [dfs_cons, dfs_cons, dfs_nil, dif_zero hf, hd]
  have h : nms 1 [f, g] = some [f, d] := by rw [nms_1, e, if_pos ⟨by simp, alk_replicate d 1⟩]; rfl
  have := code_some (l := [f, g]) (by simp) h
  rw [this, zbs_cons, zbs_cons]; simp [zbs]

set_option maxHeartbeats 3200000 in
theorem codecFlat_walk {w : World} (f : Int) (hf : -9223372036854775808 ≤ f ∧ f ≤ 9223372036854775807) (d : Int) (hd : -9223372036854775808 ≤ d ∧ d ≤ 9223372036854775807) (n : Int) (_ : -9223372036854775808 ≤ n ∧ n ≤ 9223372036854775807) (hF : Fw w) :
    Calls Tryd.prog 6 #[.int .i64 f, .int .i64 d, .int .i64 n] w fun e w' => e = .returned (.bool true) ∧ Below w.heap.size w w' := by
  obtain ⟨i0, hi, hz0, hz1, hz2⟩ := info_parts Tryd.info2
  obtain ⟨q, hq, hqe⟩ := and63 n
  have HF : Hid (Fw w ∧ I64 f ∧ I64 d) := ⟨hF, hf, hd⟩
  have HW : Hid (Calls Tryd.prog 8 #[] w fun e w' => e = .returned (.bool true) ∧ Below w.heap.size w w') := awake_any w hF
  clear hF hf hd
  go_enter Tryd.func6, Tryd.ntmps6
  go_wp2_with fail
  refine Calls.mono HW.out ?_
  rintro e w1 ⟨rfl, hb1⟩
  obtain ⟨k, hk⟩ : ∃ k : Nat, k = 3 + q := ⟨_, rfl⟩
  have hk3 : 3 ≤ k := by omega
  have hk6 : k ≤ 66 := by omega
  have hke : (3 : Int) + (q : Int) = (k : Int) := by omega
  clear hk
  go_wp2_with fail
  go_loopw [9, 10, 11, 12] (fun v1 v2 x i wr => ∃ j : Nat, i = .int .i64 (j : Int) ∧ x = .int .i64 (evx f d j) ∧ j ≤ k ∧ Hid (wr.ownsRow w1.heap.size 2 1 v1 j ((List.replicate j f).map (Value.int .i64))) ∧ Hid (wr.ownsRow w1.heap.size 2 1 v2 j ((ev f d j).map (Value.int .i64))) ∧
    Hid (∀ b, v1.ownBlock = some b → v2.ownBlock ≠ some b) ∧ Below w1.heap.size w1 wr) (fun _ _ _ i _ => k - (RowKit.intOf i).toNat)
  case atStart => exact ⟨0, rfl, rfl, Nat.zero_le _, ⟨rfl, .inl ⟨rfl, rfl⟩⟩, ⟨rfl, .inl ⟨rfl, rfl⟩⟩, (fun b h => (by cases h)), Below.refl _ _⟩
  case round =>
    obtain ⟨j, rfl, rfl, hj, ho1, ho2, hsep, hb⟩ := hrel
    by_cases hlt : j < k
    · have hlt' : (j : Int) < (k : Int) := by omega
      have hbs := hb.size
      have o1 : Hid ((wr.alloc (.cells #[.int .i64 f] 2)).ownsRow w1.heap.size 2 1 u9 j ((List.replicate j f).map (Value.int .i64))) := ho1.out.alloc _
      have o1' : Hid ((wr.alloc (.cells #[.int .i64 f] 2)).ownsRow w1.heap.size 2 1 u10 j ((ev f d j).map (Value.int .i64))) := ho2.out.alloc _
      have lt1 : Hid (∀ b, u9.ownBlock = some b → b < wr.heap.size) := fun b hb => (ho1.out.lt b hb).2
      have lt2 : Hid (∀ b, u10.ownBlock = some b → b < wr.heap.size) := fun b hb => (ho2.out.lt b hb).2
      obtain ⟨x, hx⟩ : ∃ x, Hid (x = evx f d j) := ⟨_, rfl⟩
      rw [← hx.out]
      go_wp2_with (first
        | (at_builtin; refine wpList_append_lies _ rfl (.tmp 32) (.tmp 34) 22 rfl w1.heap.size 2 i0 (.int .i64 0) 1 8 Tryd.underlying22 hi hz0 hz1 hz2 rfl (by decide) u9 j _ rfl o1.out ⟨wr.heap.size, 0, none⟩ 1 1 [.int .i64 f] rfl rfl (one_news wr f) (one_one f) (by decide) (by unfold maxLen; omega) (by omega) (by simp; omega) _ rfl ?_; intro g1 c1 w2 p1 p2 p3 p4)
        | (at_builtin
           have hk2 : u10.ownBlock = none ∨ u10.ownBlock ≠ u9.ownBlock := by
             cases hq : u10.ownBlock with
             | none => exact .inl rfl
             | some b => exact .inr fun e => hsep.out b e.symm hq
           have o2 := (o1'.out.kept p2 hk2).alloc (.cells #[.int .i64 x] 2)
           have hs2 := p2.size
           simp only [World.size_alloc] at hs2
           refine wpList_append_lies _ rfl (.tmp 36) (.tmp 38) 22 rfl w1.heap.size 2 i0 (.int .i64 0) 1 8 Tryd.underlying22 hi hz0 hz1 hz2 rfl (by decide) u10 j _ rfl o2 ⟨w2.heap.size, 0, none⟩ 1 1 [.int .i64 x] rfl rfl (one_news w2 x) (one_one x) (by decide) (by unfold maxLen; omega) (by omega) (by simp; omega) _ rfl ?_
           intro g2 c2 w3 r1 r2 r3 r4))
      go_roundw
      case rel =>
        have hs2 := p2.size
        have hs3 := r2.size
        simp only [World.size_alloc] at hs2 hs3 p3 r3
        have hg1 : u10.ownBlock ≠ some g1 := by
          rcases p3 with h | h
          · exact hsep.out g1 h
          · intro e
            have := lt2.out g1 e
            omega
        have hb2 : Below w1.heap.size w1 w2 := (hb.alloc hbs _).grown p2 (by simp; omega) (fun b e => (ho1.out.lt b e).1)
        have hb3 : Below w1.heap.size w1 w3 := (hb2.alloc (by omega) _).grown r2 (by simp; omega) (fun b e => (ho2.out.lt b e).1)
        have q1 := (p1.alloc (.cells #[.int .i64 x] 2)).kept r2 (.inr (fun e => hg1 e.symm))
        have e1 : List.map (Value.int .i64) (List.replicate j f) ++ [Value.int .i64 f] = (List.replicate (j + 1) f).map (Value.int .i64) := by rw [List.replicate_succ']; simp
        have e2 : List.map (Value.int .i64) (ev f d j) ++ [Value.int .i64 x] = (ev f d (j + 1)).map (Value.int .i64) := by rw [ev_snoc, ← hx.out]; simp
        rw [e1] at q1
        rw [e2] at r1
        refine ⟨j + 1, by go_num, by rw [evx_succ, ← hx.out], by omega, q1, r1, ?_, hb3⟩
        intro b hb1 hb2
        have eb1 : g1 = b := by simpa [Value.ownBlock] using hb1
        have eb2 : g2 = b := by simpa [Value.ownBlock] using hb2
        rcases r3 with h | h
        · exact hg1 (by rw [h, eb1, eb2])
        · omega
      case measure => simp [RowKit.intOf]; omega
    · have hlt' : ¬ (j : Int) < (k : Int) := by omega
      obtain rfl : j = k := by omega
      obtain ⟨a1, c1, rfl, I1⟩ := own_isI ho1.out
      obtain ⟨a2, c2, rfl, I2⟩ := own_isI ho2.out
      obtain ⟨hFw, hf, hd⟩ := HF.out
      have hbw : Below w.heap.size w wr := hb1.trans (hb.mono hb1.size)
      have A1 : All64 (List.replicate j f) := all64_iff.2 fun y hy => by rw [(List.mem_replicate.1 hy).2]; exact hf
      have A2 : All64 (ev f d j) := ev_all j hf
      have T1 : (List.replicate j f).take 2 = [f, f] := by
        obtain ⟨m, rfl⟩ : ∃ m, j = m + 2 := ⟨j - 2, by omega⟩
        simp [List.replicate_succ]
      have T2 : (ev f d j).take 2 = [f, wrap64 (f + d)] := by
        obtain ⟨m, rfl⟩ : ∃ m, j = m + 2 := ⟨j - 2, by omega⟩
        simp [ev]
      have hdf : dif f (wrap64 (f + d)) = d := by unfold I64 at hd; unfold dif wrap64; omega
      have HE1 : Hid (∀ w', Below wr.heap.size wr w' → Calls Tryd.prog 13 #[.slice a1 j c1] w' (EncIs (List.replicate j f) w')) := fun w' hb' => encode_any a1 j c1 _ w' I1.hl I1.hc I1.hm (I1.rd.below hb') A1 (hFw.below (hbw.trans (hb'.mono hbw.size)))
      have HE2 : Hid (∀ w', Below wr.heap.size wr w' → Calls Tryd.prog 13 #[.slice a2 j c2] w' (EncIs (ev f d j) w')) := fun w' hb' => encode_any a2 j c2 _ w' I2.hl I2.hc I2.hm (I2.rd.below hb') A2 (hFw.below (hbw.trans (hb'.mono hbw.size)))
      have HC1 : Hid (∀ w', Below wr.heap.size wr w' → Calls Tryd.prog 12 #[.slice a1 j c1] w' fun e w'' => e = .returned (.int .i64 0) ∧ Below w'.heap.size w' w'') := fun w' hb' => by
        have := choose_any a1 j c1 _ w' I1.hl I1.hc I1.hm (I1.rd.below hb') A1 (hFw.below (hbw.trans (hb'.mono hbw.size)))
        rw [(flat_alike hf hk3 (by omega)).1] at this
        exact this
      have HA1 : Hid (∀ w', Below wr.heap.size wr w' → Calls Tryd.prog 9 #[.int .i64 0, .slice a1 2 c1] w' (AsIs 0 [f, f] w')) := fun w' hb' => by
        have := I1.rd.take 2
        rw [T1] at this
        exact as_any 0 a1 2 c1 [f, f] w' rfl (by have := I1.hc; omega) I1.hm (this.below hb') (by rw [← T1]; exact all64_take A1 2) (hFw.below (hbw.trans (hb'.mono hbw.size)))
      have HA2 : Hid (∀ w', Below wr.heap.size wr w' → Calls Tryd.prog 9 #[.int .i64 1, .slice a2 2 c2] w' (AsIs 1 [f, wrap64 (f + d)] w')) := fun w' hb' => by
        have := I2.rd.take 2
        rw [T2] at this
        exact as_any 1 a2 2 c2 _ w' rfl (by have := I2.hc; omega) I2.hm (this.below hb') (by rw [← T2]; exact all64_take A2 2) (hFw.below (hbw.trans (hb'.mono hbw.size)))
      obtain ⟨want, hwant⟩ : ∃ x : Int, Hid (x = if d = 0 then 0 else 1) := ⟨_, rfl⟩
      have hbest2 : best (ev f d j) = want := by
        rw [hwant.out]
        by_cases h0 : d = 0
        · rw [if_pos h0, h0, ev_zero j hf, (flat_alike hf hk3 (by omega)).1]
        · rw [if_neg h0, (flat_even hf hd h0 hk3 (by omega)).1]
      have HC2 : Hid (∀ w', Below wr.heap.size wr w' → Calls Tryd.prog 12 #[.slice a2 j c2] w' fun e w'' => e = .returned (.int .i64 want) ∧ Below w'.heap.size w' w'') := fun w' hb' => by
        have := choose_any a2 j c2 _ w' I2.hl I2.hc I2.hm (I2.rd.below hb') A2 (hFw.below (hbw.trans (hb'.mono hbw.size)))
        rw [hbest2] at this
        exact this
      have hbl := bs_len1 (show j ≤ 127 by omega)
      have hb2l := bs_len1 (show 2 ≤ 127 by omega)
      have Hc1 : Hid (codeI (best (List.replicate j f)) (List.replicate j f) = some (0 :: (bs j ++ zb f))) := by
        rw [(flat_alike hf hk3 (by omega)).1]; exact (flat_alike hf hk3 (by omega)).2
      have Hc2 : Hid (∃ c, codeI (best (ev f d j)) (ev f d j) = some c ∧ c.length ≤ 2 + (zb f).length + (zb d).length) := by
        by_cases h0 : d = 0
        · rw [h0, ev_zero j hf, (flat_alike hf hk3 (by omega)).1]
          exact ⟨_, (flat_alike hf hk3 (by omega)).2, by simp [hbl]; omega⟩
        · rw [(flat_even hf hd h0 hk3 (by omega)).1]
          exact ⟨_, (flat_even hf hd h0 hk3 (by omega)).2, by simp [hbl]; omega⟩
      have Hc3 : Hid (codeI 0 [f, f] = some (0 :: (bs 2 ++ zb f))) := code_two_alike
      have Hc4 : Hid (codeI 1 [f, wrap64 (f + d)] = some (1 :: (bs 2 ++ (zb f ++ zb d)))) := code_two_step hf hdf
      have hc1' : 2 ≤ c1 := by have := I1.hc; omega
      have hc2' : 2 ≤ c2 := by have := I2.hc; omega
      have hm1 : c1 ≤ 9223372036854775807 := by have := I1.hm; unfold maxLen at this; omega
      have hm2 : c2 ≤ 9223372036854775807 := by have := I2.hm; unfold maxLen at this; omega
      clear I1 I2 A1 A2 T1 T2 hFw hd hdf ho1 ho2 hsep hbest2
      go_wp2_with fail
      refine (HE1.out wr (Below.refl _ _)).mono ?_
      rintro e w2 ⟨⟨x1, g1, cp1, hx1, rfl, _⟩ | ⟨hx1, _⟩, hb2⟩
      rotate_left
      · rw [Hc1.out] at hx1; cases hx1
      rw [Hc1.out] at hx1; cases hx1
      obtain ⟨l1, hl1⟩ : ∃ x : Nat, Hid (x = ((0 : Int) :: (bs j ++ zb f)).length) := ⟨_, rfl⟩
      rw [← hl1.out]
      go_wp2_with fail
      refine (HE2.out w2 hb2).mono ?_
      obtain ⟨x2, hx2, hx2l⟩ := Hc2.out
      rintro e w3 ⟨⟨x2', g2, cp2, hx2', rfl, _⟩ | ⟨hx2', _⟩, hb3⟩
      rotate_left
      · rw [hx2] at hx2'; cases hx2'
      rw [hx2] at hx2'; cases hx2'
      have hb13 : Below wr.heap.size wr w3 := hb2.trans (hb3.mono hb2.size)
      obtain ⟨l2, hl2⟩ : ∃ x : Nat, Hid (x = x2.length) := ⟨_, rfl⟩
      rw [← hl2.out]
      rw [← hl2.out] at hx2l
      clear hx2 hb3
      go_wp2_with fail
      refine (HA1.out w3 hb13).mono ?_
      rintro e w4 ⟨⟨x3, g3, cp3, hx3, rfl, _⟩ | ⟨hx3, _⟩, hb4⟩
      rotate_left
      · rw [Hc3.out] at hx3; cases hx3
      rw [Hc3.out] at hx3; cases hx3
      have hb14 : Below wr.heap.size wr w4 := hb13.trans (hb4.mono hb13.size)
      obtain ⟨l3, hl3⟩ : ∃ x : Nat, Hid (x = ((0 : Int) :: (bs 2 ++ zb f)).length) := ⟨_, rfl⟩
      rw [← hl3.out]
      have h31 : l1 = l3 := by rw [hl1.out, hl3.out]; simp [hbl, hb2l]
      go_wp2_with fail
      refine (HA2.out w4 hb14).mono ?_
      rintro e w5 ⟨⟨x4, g4, cp4, hx4, rfl, _⟩ | ⟨hx4, _⟩, hb5⟩
      rotate_left
      · rw [Hc4.out] at hx4; cases hx4
      rw [Hc4.out] at hx4; cases hx4
      have hb15 : Below wr.heap.size wr w5 := hb14.trans (hb5.mono hb14.size)
      obtain ⟨l4, hl4⟩ : ∃ x : Nat, Hid (x = ((1 : Int) :: (bs 2 ++ (zb f ++ zb d))).length) := ⟨_, rfl⟩
      rw [← hl4.out]
      have h42 : (l2 : Int) ≤ (l4 : Int) := by
        have e4 : l4 = 2 + (zb f).length + (zb d).length := by rw [hl4.out]; simp [hb2l]; omega
        omega
      clear hx2l hb2l hbl
      by_cases h0 : d = 0
      · have hw0 : want = 0 := by rw [hwant.out, if_pos h0]
        subst hw0
        go_wp2_with fail
        refine (HC1.out w5 hb15).mono ?_
        rintro e w6 ⟨rfl, hb6⟩
        have hb16 : Below wr.heap.size wr w6 := hb15.trans (hb6.mono hb15.size)
        go_wp2_with fail
        refine (HC2.out w6 hb16).mono ?_
        rintro e w7 ⟨rfl, hb7⟩
        go_wp2_with fail
        go_ret
        exact ⟨rfl, hbw.trans ((hb16.trans (hb7.mono hb16.size)).mono hbw.size)⟩
      · have hw0 : want = 1 := by rw [hwant.out, if_neg h0]
        subst hw0
        go_wp2_with fail
        refine (HC1.out w5 hb15).mono ?_
        rintro e w6 ⟨rfl, hb6⟩
        have hb16 : Below wr.heap.size wr w6 := hb15.trans (hb6.mono hb15.size)
        go_wp2_with fail
        refine (HC2.out w6 hb16).mono ?_
        rintro e w7 ⟨rfl, hb7⟩
        go_wp2_with fail
        go_ret
        exact ⟨rfl, hbw.trans ((hb16.trans (hb7.mono hb16.size)).mono hbw.size)⟩

set_option maxRecDepth 100000 in
theorem codecFlat_lifted (os : Os) (started : os.Started) (H : Type) (enc : TypeId × Value → H) :
    ReturnsInHanded {} Tryd.checked os 6 .any (fun w args => (Rows.codecFlatSpec.pre enc Tryd.prog Tryd.f6 [] false w args ∧ laidMetH Tryd.prog Rows.codecFlatRow.laid w) ∧ sizedMet enc Tryd.prog Tryd.f6 (OpenSpec.ofChange Rows.codecFlatSpec) false w args)
      (Rows.codecFlatSpec.post enc Tryd.prog Tryd.f6 false true false false) := by
  refine returns_and_shaped (C := Tryd.checked) (X := fun w _ => laidMetH Tryd.prog Rows.codecFlatRow.laid w) (fun _ _ _ hh h => h.of_heap hh) own started (by kernel_rfl) Tryd.func6
    (ChangeSpec.witness_shaped (enc := enc) (C := Tryd.checked) (os := os) (X := fun w _ => laidMetH Tryd.prog Rows.codecFlatRow.laid w) false (World.laidAll Tryd.prog os Rows.codecFlatRow.laid) #[.int .i64 0, .int .i64 0, .int .i64 0] 8 (World.laidAll_os _ _ _)
      (World.shaped_of_ZipB (by kernel_rfl) (by kernel_rfl)) (by kernel_rfl) (by kernel_rfl) (by kernel_rfl)
      (by rw [MakeChecks.laidMetH_plain _ _ _ (by kernel_rfl)]; exact laidMet_laidAll _ (by kernel_rfl) (by kernel_rfl))) ?_
  intro W base args ds gs before hval0 hW hL hsh
  have hval : ∀ (j : Nat) t v, Tryd.f6.params[j]? = some t → args[j]? = some v → Value.okWide Tryd.prog W .any base t v := hval0
  have hW' := hW
  obtain ⟨p, q, hA0, hV, rfl, _, _⟩ := hW
  have hA : DataW.TrodAll enc Tryd.prog W 0 (fun _ => true) true Tryd.f6.params.toList args.toList ds p := hA0
  rw [Tryd.params6] at hA hval
  obtain ⟨v0, vs0, d0, ds0, p0, q0, hargs, rfl, rfl, h0, r0⟩ := trodAll_cons hA
  obtain ⟨v1, vs1, d1, ds1, p1, q1, rfl, rfl, rfl, h1, r1⟩ := trodAll_cons r0
  obtain ⟨v2, vs2, d2, ds2, p2, q2, rfl, rfl, rfl, h2, r2⟩ := trodAll_cons r1
  obtain ⟨rfl, rfl, rfl⟩ := trodAll_nil r2
  obtain rfl : args = #[v0, v1, v2] := by cases args; simp_all
  obtain ⟨rfl, rfl⟩ := trodVars_none hV
  obtain ⟨a0, rfl, rfl, rfl, w0⟩ := open_int Tryd.underlying2 (hval 0 2 v0 rfl rfl) h0
  have hx0 : -9223372036854775808 ≤ a0 ∧ a0 ≤ 9223372036854775807 := by simpa [Lit.wf, IntKind.min, IntKind.max, IntKind.signed, IntKind.bits] using w0
  obtain ⟨a1, rfl, rfl, rfl, w1⟩ := open_int Tryd.underlying2 (hval 1 2 v1 rfl rfl) h1
  have hx1 : -9223372036854775808 ≤ a1 ∧ a1 ≤ 9223372036854775807 := by simpa [Lit.wf, IntKind.min, IntKind.max, IntKind.signed, IntKind.bits] using w1
  obtain ⟨a2, rfl, rfl, rfl, w2⟩ := open_int Tryd.underlying3 (hval 2 3 v2 rfl rfl) h2
  have hx2 : -9223372036854775808 ≤ a2 ∧ a2 ≤ 9223372036854775807 := by simpa [Lit.wf, IntKind.min, IntKind.max, IntKind.signed, IntKind.bits] using w2
  clear hA0 hval0
  simp only [List.append_nil] at hW'
  rw [MakeChecks.laidMetH_plain _ _ _ (by kernel_rfl)] at hL
  refine (codecFlat_walk (w := W) a0 hx0 a1 hx1 a2 hx2 (fw_of (laidMet.reads hL (by simp [Rows.codecFlatRow])))).mono fun e W' ⟨he, hb⟩ => ?_
  subst he
  exact ⟨_, rfl, _, _, _, [], [], [], hW', trodAll_mk1 (shut_bool Tryd.underlying4 _), (trodAll_cons_mk (shut_int Tryd.underlying2 w0) (trodAll_cons_mk (shut_int Tryd.underlying2 w1) (trodAll_cons_mk (shut_int Tryd.underlying3 w2) trodAll_mk0))), rfl, hb.frame _, fun h => by cases h⟩

theorem codecFlat_row : Rows.CodecFlatSaid :=
  OpenClaim.holds_of_wide 6 Tryd.f6 rfl rfl rfl rfl rfl rfl rfl ⟨rfl, rfl, rfl, rfl, rfl⟩ rfl rfl rfl rfl rfl (by kernel_rfl) Tryd.func6 (by kernel_rfl)
    (of_decide_eq_true (by kernel_rfl)) (by unfold Func.isWrapper; first | (rw [if_pos (by decide +kernel)]; kernel_rfl) | (rw [if_neg (by decide +kernel)]; exact ⟨rfl, rfl⟩))
    (fun os started H enc _ => codecFlat_lifted os started H enc)

theorem codecFlat_holds : Rows.CodecFlatCardSaid :=
  Claim7.holds_tied_plain_at .later [] [.data] true (true, "268070590a5cdbedef29cc263c966a7d9eccac97f001ce0c2ffcf9837f493a1d") false codecFlat_row (fun _ h => by cases h) (by kernel_rfl) (fun _ h => by cases h) codecFlat_row_tie rfl ⟨rfl, rfl⟩ (by kernel_rfl) rfl
    (fun f fn hf hfn => by
      obtain rfl : f = 6 := Option.some.inj ((show Tryd.prog.funcNamed Rows.codecFlatRow.func = some 6 by kernel_rfl).symm.trans hf) |>.symm
      obtain rfl : fn = Tryd.f6 := (Option.some.inj (Tryd.func6.symm.trans hfn)).symm
      exact ⟨by kernel_rfl, fun j t ht => by
        rw [Tryd.params6] at ht
        have hm : t ∈ [2, 2, 3] := by simpa using Array.mem_of_getElem? ht
        have hall : ([2, 2, 3].all fun u => !Tryd.prog.wantsStandIn u) = true := by kernel_rfl
        exact (show Tryd.prog.wantsStandIn t = false by simpa using List.all_eq_true.1 hall t hm)⟩)
    (by kernel_rfl)
#print axioms codecFlat_holds
end Go.Proofs.YtbgipenonngccaaDoor
