/- The contracts of the document's own one and Pack. Conditions: at most 100 values, whose numbers fit. -/
import Derived.Test.YtpjimckbpabakaaDoorN
namespace Go.Proofs.YtpjimckbpabakaaDoor
open Go.RowKit

/-- What one tells: the mantissas of values with one exponent, or that they have none. -/
def OneIs (w : World) (vs : List Vl) (r : Ending) (w' : World) : Prop :=
  Below w.heap.size w w' ∧ ((good vs ∧ ∃ a c, r = .returned (.tuple #[.slice a vs.length c, .bool true]) ∧ RdI w' a (vs.map fun v => mant v (st vs).1)) ∨ (¬ good vs ∧ r = .returned (.tuple #[.slice none 0 0, .bool false])))

theorem one_at (w : World) (x : Value) (t : TypeId) : ∀ j u, [x][j]? = some u → (w.alloc (.cells #[x] t)).cell? ((⟨w.heap.size, 0, none⟩ : Addr).add j) = some u := by
  intro j u hj
  match j, hj with
  | 0, hj => simp at hj; subst hj; simp [Addr.add]
theorem one_one {k : IntKind} (n : Int) : ∀ u ∈ [Value.int k n], u.oneCell' = true := by
  intro u hu; simp at hu; subst hu; rfl

set_option maxHeartbeats 1600000 in
theorem one_any (a : Option Addr) (len cap : Nat) (vs : List Vl) (w : World) (hl : vs.length = len) (hlen : len ≤ 100) (hrd : RdV w a vs) (hwf : WfV vs) :
    Calls Tryd.prog 19 #[.slice a len cap] w (OneIs w vs) := by
  obtain ⟨i0, hi, hz0, hz1, hz2⟩ := info2_parts
  have HR : Hid (RdV w a vs ∧ vs.length = len) := ⟨hrd, hl⟩
  have hle : Hid _ := least_any a len cap vs w hl hlen hrd hwf
  clear hrd hl hwf
  go_enter Tryd.func19, Tryd.ntmps19
  go_wp2_with fail
  refine Calls.mono hle.out ?_
  rintro r w' ⟨e, rfl, he, ⟨he0, he1⟩, hw'⟩; rw [hw']; clear hw' w'
  have HE : Hid ((∀ v ∈ vs, may v = true) → e = (st vs).1) := he
  clear he hle
  go_wp2_with fail
  go_loopw [5, 6] (fun s i wr => ∃ k : Nat, i = .int .i64 (k : Int) ∧ k ≤ len ∧ Hid (∀ v ∈ vs.take k, fits v e) ∧ Hid (wr.ownsRow w.heap.size 2 1 s k (((vs.take k).map fun v => mant v e).map (Value.int .i64))) ∧ Below w.heap.size w wr) (fun _ i _ => len - (intOf i).toNat)
  case atStart => exact ⟨0, rfl, Nat.zero_le _, fun v hv => by simp at hv, World.ownsRow_nil _ _ _ _, Below.refl _ _⟩
  case round =>
    obtain ⟨k, rfl, hk, hf, ho, hb⟩ := hrel
    by_cases hlt : k < len
    · have hlt' : (k : Int) < (len : Int) := by omega
      obtain ⟨b, off, rfl, hbb, c0, c1, c2⟩ := HR.out.1.at (k := k) (by rw [HR.out.2]; exact hlt)
      have d0 := (hb.cell (p := ⟨b, off + k * 3, none⟩) hbb).trans c0
      have d1 := (hb.cell (p := ⟨b, off + k * 3 + 1, none⟩) hbb).trans c1
      have d2 := (hb.cell (p := ⟨b, off + k * 3 + 2, none⟩) hbb).trans c2
      clear c0 c1 c2
      have HT : Hid (vs.take (k + 1) = vs.take k ++ [vs.getD k v0]) := take_snoc vs k (by rw [HR.out.2]; exact hlt)
      have HM : Hid (vs.getD k v0 ∈ vs) := List.mem_of_mem_take (mem_take_getD (l := vs) (n := len) hlt (by rw [HR.out.2]; exact Nat.le_refl _))
      obtain ⟨v, hv⟩ : ∃ x, Hid (x = vs.getD k v0) := ⟨_, rfl⟩
      rw [← hv.out] at d0 d1 d2 HT HM
      have hsz := hb.size
      have hmt : Hid _ := refmant_any v e he0 he1 wr
      go_wp2_with fail
      refine Calls.mono hmt.out ?_
      rintro r w2 ⟨m, bb, rfl, hbf, hmm, b2⟩
      have HF : Hid ((bb = true ↔ fits v e) ∧ (bb = true → m = mant v e)) := ⟨hbf, hmm⟩
      clear hbf hmm hmt
      have hs2 := b2.size
      have B2 : Below w.heap.size w w2 := hb.trans (b2.mono hsz)
      have HO2 := own_below ho.out b2
      cases bb with
      | false =>
        go_wp2_with fail
        go_ret2
        refine ⟨B2, .inr ⟨fun hg => ?_, rfl⟩⟩
        have h1 := (good_iff vs).1 hg v HM.out
        rw [← HE.out hg.1] at h1
        have h2 := HF.out.1.2 h1
        cases h2
      | true =>
        go_wp2_with (at_builtin; refine wpList_append_own _ rfl (.tmp 28) (.tmp 30) 24 rfl w.heap.size 2 i0 (.int .i64 0) 1 8 Tryd.underlying24 hi hz0 hz1 hz2 rfl (by decide) _ k _ rfl (HO2.alloc _) ⟨w2.heap.size, 0, none⟩ 1 1 [.int .i64 m] rfl rfl (one_at w2 _ _) (one_one _) (by unfold maxLen; omega) (by omega) (by simp; omega) ?_; intro v' w3 hown' hgrow _)
        go_roundw
        case rel =>
          refine ⟨k + 1, by go_num, hlt, fun x hx => ?_, ?_, ?_⟩
          · rw [HT.out] at hx
            rcases List.mem_append.1 hx with h | h
            · exact hf.out x h
            · simp at h; subst h; exact HF.out.1.1 trivial
          · show World.ownsRow _ _ _ _ _ _ _
            rw [HT.out, List.map_append, List.map_append]
            have := HF.out.2 trivial
            rw [this] at hown'
            exact hown'
          · exact (B2.alloc (by omega) _).grown hgrow (by simp; omega) (fun j hj => (HO2.lt j hj).1)
        case measure => simp [intOf]; omega
    · have hlt' : ¬ (k : Int) < (len : Int) := by omega
      obtain rfl : k = len := by omega
      obtain ⟨a5, c5, rfl, v5⟩ := own_rdI ho.out
      have htk : vs.take k = vs := List.take_of_length_le (by rw [HR.out.2]; exact Nat.le_refl _)
      go_wp2_with fail
      go_ret2
      have hff := hf.out
      rw [htk] at hff v5
      have hee := HE.out fun v hv => (hff v hv).1
      rw [hee] at hff v5
      refine ⟨hb, .inl ⟨(good_iff vs).2 hff, a5, c5, by rw [HR.out.2]; rfl, v5⟩⟩

/-- What the document's Pack tells. -/
def RefPacked (w : World) (vs : List Vl) (r : Ending) (w' : World) : Prop :=
  ∃ (n : Nat) (a : Option Addr) (c : Nat), Longest vs n ∧ r = .returned (.tuple #[.slice a n c, .int .i64 (st (vs.take n)).1, .int .i64 (n : Int)]) ∧ RdI w' a (mants vs n (st (vs.take n)).1) ∧ Below w.heap.size w w'

set_option maxHeartbeats 1600000 in
theorem refpack_any (a : Option Addr) (len cap : Nat) (vs : List Vl) (w : World) (hv : IsV w a len cap vs) (hlen : len ≤ 100) (hwf : WfV vs) :
    Calls Tryd.prog 11 #[.slice a len cap] w (RefPacked w vs) := by
  have hcap := hv.hc
  have hmax := hv.hm
  unfold maxLen at hmax
  have HV : Hid (IsV w a len cap vs ∧ WfV vs) := ⟨hv, hwf⟩
  clear hv hwf
  go_enter Tryd.func11, Tryd.ntmps11
  go_wp2_with fail
  go_loopw [5] (fun i wr => ∃ k : Nat, i = .int .i64 (k : Int) ∧ k ≤ len ∧ Hid (∀ j, k < j → j ≤ len → ¬ good (vs.take j)) ∧ Below w.heap.size w wr) (fun i _ => (intOf i).toNat)
  case atStart => exact ⟨len, rfl, Nat.le_refl _, fun j h1 h2 => by omega, Below.refl _ _⟩
  case round =>
    obtain ⟨k, rfl, hk, hno, hb⟩ := hrel
    by_cases h0 : 0 < k
    · have h0' : (0 : Int) < (k : Int) := by omega
      have hkc : (k : Int) ≤ (cap : Int) := by omega
      have hk0 : (0 : Int) ≤ (k : Int) := by omega
      have htl : (vs.take k).length = k := by simp; have := HV.out.1.hl; omega
      have hone : Hid _ := one_any a k cap (vs.take k) wr htl (by omega) ((HV.out.1.rd.below hb).take k) (fun v hv => HV.out.2 v (List.mem_of_mem_take hv))
      have HTL : Hid ((vs.take k).length = k) := htl
      clear htl
      have hsz := hb.size
      go_wp2_with fail
      refine Calls.mono hone.out ?_
      rintro r w2 ⟨b2, h2⟩
      have B2 : Below w.heap.size w w2 := hb.trans (b2.mono hsz)
      rcases h2 with ⟨hg, a2, c2, rfl, rd2⟩ | ⟨hg, rfl⟩
      · have HG : Hid (good (vs.take k)) := hg
        rw [HTL.out]
        have hle : Hid _ := least_any a k cap (vs.take k) w2 HTL.out (by omega) ((HV.out.1.rd.below B2).take k) (fun v hv => HV.out.2 v (List.mem_of_mem_take hv))
        clear hone hg
        go_wp2_with fail
        refine Calls.mono hle.out ?_
        rintro r w' ⟨e, rfl, he, _, hw'⟩; rw [hw']; clear hw' w'
        have HE : Hid (e = (st (vs.take k)).1) := he HG.out.1
        clear he hle
        go_wp2_with fail
        go_ret3
        refine ⟨k, a2, c2, ⟨by rw [HV.out.1.hl]; exact hk, HG.out, fun j h1 h2 => hno.out j h1 (by rw [← HV.out.1.hl]; exact h2)⟩, by rw [HE.out]; rfl, rd2, B2⟩
      · have HG : Hid (¬ good (vs.take k)) := hg
        clear hone hg
        go_wp2_with fail
        go_roundw
        case rel =>
          refine ⟨k - 1, ?_, by omega, fun j h1 h2 => ?_, B2⟩
          · congr 1; omega
          · by_cases hjk : j = k
            · subst hjk; exact HG.out
            · exact hno.out j (by omega) h2
        case measure => simp [intOf]; omega
    · have h0' : ¬ (0 : Int) < (k : Int) := by omega
      obtain rfl : k = 0 := by omega
      go_wp2_with fail
      go_ret3
      exact ⟨0, none, 0, ⟨Nat.zero_le _, good_nil, fun j h1 h2 => hno.out j h1 (by rw [← HV.out.1.hl]; exact h2)⟩, rfl, .inl rfl, hb⟩
end Go.Proofs.YtpjimckbpabakaaDoor
