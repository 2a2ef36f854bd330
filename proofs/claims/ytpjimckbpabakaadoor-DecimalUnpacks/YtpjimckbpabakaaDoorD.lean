/- The contract of longest: how many values the longest beginning has that has one exponent, and that exponent. Conditions: at most 100 values; the table of powers holds what it is laid with. -/
import Derived.Test.YtpjimckbpabakaaDoorC
import Derived.WalkMore
namespace Go.Proofs.YtpjimckbpabakaaDoor
open Go.RowKit

abbrev v0 : Vl := ⟨0, 0, 0⟩
/-- A slice of that address reads as these values. -/
def RdV (w : World) (a : Option Addr) (vs : List Vl) : Prop :=
  vs = [] ∨ ∃ b off, a = some ⟨b, off, none⟩ ∧ b < w.heap.size ∧ ∀ i, i < vs.length → w.cell? ⟨b, off + i * 3, none⟩ = some (.int .i64 (vs.getD i v0).M) ∧ w.cell? ⟨b, off + i * 3 + 1, none⟩ = some (.int .i64 (vs.getD i v0).E) ∧ w.cell? ⟨b, off + i * 3 + 2, none⟩ = some (.int .i64 (vs.getD i v0).S)
theorem RdV.below {w w' : World} {a : Option Addr} {vs : List Vl} (h : RdV w a vs) (hb : Below w.heap.size w w') : RdV w' a vs := by
  rcases h with h | ⟨b, off, h1, h2, h3⟩
  · exact .inl h
  · refine .inr ⟨b, off, h1, Nat.lt_of_lt_of_le h2 hb.size, fun i hi => ?_⟩
    rw [hb.cell (p := ⟨b, off + i * 3, none⟩) h2, hb.cell (p := ⟨b, off + i * 3 + 1, none⟩) h2, hb.cell (p := ⟨b, off + i * 3 + 2, none⟩) h2]
    exact h3 i hi
theorem RdV.at {w : World} {a : Option Addr} {vs : List Vl} (h : RdV w a vs) {k : Nat} (hk : k < vs.length) : ∃ b off, a = some ⟨b, off, none⟩ ∧ b < w.heap.size ∧ w.cell? ⟨b, off + k * 3, none⟩ = some (.int .i64 (vs.getD k v0).M) ∧ w.cell? ⟨b, off + k * 3 + 1, none⟩ = some (.int .i64 (vs.getD k v0).E) ∧ w.cell? ⟨b, off + k * 3 + 2, none⟩ = some (.int .i64 (vs.getD k v0).S) := by
  rcases h with h | ⟨b, off, h1, h2, h3⟩
  · subst h; simp at hk
  · exact ⟨b, off, h1, h2, h3 k hk⟩

theorem good_more {l : List Vl} {v : Vl} (h : good l) (hv : may v = true) (hs : (stp (st l) v).2 - (stp (st l) v).1 ≤ 18) : good (l ++ [v]) := by
  refine ⟨fun x hx => ?_, by rw [st_snoc]; exact hs⟩
  rcases List.mem_append.1 hx with h' | h'
  · exact h.1 x h'
  · simp at h'; subst h'; exact hv

set_option maxHeartbeats 1600000 in
theorem longest_any (a : Option Addr) (len cap : Nat) (vs : List Vl) (w : World) (hl : vs.length = len) (hlen : len ≤ 100) (hrd : RdV w a vs) (hP : Pw w) :
    Calls Tryd.prog 17 #[.slice a len cap] w fun r w' => ∃ n, Longest vs n ∧ r = .returned (.tuple #[.int .i64 (n : Int), .int .i64 (st (vs.take n)).1]) ∧ Below w.heap.size w w' := by
  have HR : Hid (RdV w a vs ∧ vs.length = len ∧ Pw w) := ⟨hrd, hl, hP⟩
  clear hrd hl hP
  go_enter Tryd.func17, Tryd.ntmps17
  go_wp2
  refine wp_scope_straight ?_
  go_wp2
  refine wp_label ?_
  go_wp2
  go_loopw [4, 5, 14] (fun lo hi i wr => ∃ k : Nat, i = .int .i64 (k : Int) ∧ k ≤ len ∧ Hid (good (vs.take k)) ∧ lo = .int .i64 (st (vs.take k)).1 ∧ hi = .int .i64 (st (vs.take k)).2 ∧ Below w.heap.size w wr) (fun _ _ i _ => len - (intOf i).toNat)
  case atStart => exact ⟨0, rfl, Nat.zero_le _, good_nil, rfl, rfl, Below.refl _ _⟩
  case round =>
    obtain ⟨k, rfl, hk, hg, rfl, rfl, hb⟩ := hrel
    by_cases hlt : k < len
    · have hlt' : (k : Int) < (len : Int) := by omega
      obtain ⟨b, off, rfl, hbb, c0, c1, c2⟩ := HR.out.1.at (k := k) (by rw [HR.out.2.1]; exact hlt)
      have d0 := (hb.cell (p := ⟨b, off + k * 3, none⟩) hbb).trans c0
      have d1 := (hb.cell (p := ⟨b, off + k * 3 + 1, none⟩) hbb).trans c1
      have d2 := (hb.cell (p := ⟨b, off + k * 3 + 2, none⟩) hbb).trans c2
      clear c0 c1 c2
      have HT : Hid (vs.take (k + 1) = vs.take k ++ [vs.getD k v0]) := take_snoc vs k (by rw [HR.out.2.1]; exact hlt)
      obtain ⟨M, hM⟩ : ∃ x, Hid (x = (vs.getD k v0).M) := ⟨_, rfl⟩
      obtain ⟨E, hE⟩ : ∃ x, Hid (x = (vs.getD k v0).E) := ⟨_, rfl⟩
      obtain ⟨S, hS⟩ : ∃ x, Hid (x = (vs.getD k v0).S) := ⟨_, rfl⟩
      rw [← hM.out] at d0; rw [← hE.out] at d1; rw [← hS.out] at d2
      obtain ⟨bv, hbv⟩ : ∃ b, Hid (b = mayBe M E S) := ⟨_, rfl⟩
      have Hmay : Hid (bv = may (vs.getD k v0)) := by show _ = _; rw [hbv.out]; unfold may; rw [hM.out, hE.out, hS.out]
      have hsz := hb.size
      go_wp2_with fail
      refine (right_any M E S bv hbv _).mono ?_
      rintro r w' ⟨rfl, hw'⟩; rw [hw']; clear hw' w'
      cases bv with
      | false =>
        go_wp2_with fail
        rw [Exit.noGoto_ret]
        go_ret2
        refine ⟨k, longest_of (by rw [HR.out.2.1]; exact hk) hg.out (.inr fun h => ?_), rfl, ?_⟩
        · rw [HT.out] at h
          have := h.1 (vs.getD k v0) (by simp)
          rw [← Hmay.out] at this
          cases this
        · go_grown
      | true =>
        by_cases hM0 : M = 0
        · go_wp2_with fail
          have e : st (vs.take (k + 1)) = st (vs.take k) := by
            rw [HT.out, st_snoc]; unfold stp; rw [if_pos (by rw [← hM.out]; exact hM0)]
          go_roundw
          case rel =>
            refine ⟨k + 1, by go_num, hlt, ?_, by rw [e], by rw [e], ?_⟩
            · show good _
              rw [HT.out]
              refine good_more hg.out Hmay.out.symm ?_
              rw [← st_snoc, ← HT.out, e]; exact hg.out.2
            · go_grown
          case measure => simp [intOf]; omega
        · obtain ⟨_, hnb, _, he0, he1⟩ := may_num (v := vs.getD k v0) Hmay.out.symm (by rw [← hM.out]; exact hM0)
          rw [← hM.out] at hnb
          rw [← hE.out] at he0 he1
          obtain ⟨dd1, dd2⟩ := dgi_spec (M := M) (by omega)
          have hd15 := dg_15 (M := M) hnb
          have hdp := dg_pos hM0
          obtain ⟨d, hd⟩ : ∃ d : Nat, Hid (d = dgi M) := ⟨_, rfl⟩
          obtain ⟨z, hz⟩ : ∃ z : Nat, Hid (z = M.natAbs) := ⟨_, rfl⟩
          rw [← hd.out] at dd1 dd2 hd15 hdp
          rw [← hz.out] at dd1 dd2
          have HD : Hid (z < 10 ^ d ∧ ∀ j, j < d → 10 ^ j ≤ z) := ⟨dd1, dd2⟩
          clear dd1 dd2
          have hmax : ∀ ts t w', Sem.run Tryd.prog (Builtin.max_ ts t #[.int .i64 M, .int .i64 (-M)]) w' = .ok (.int .i64 (z : Int)) w' := by
            intro ts t w'
            have := hz.out
            rw [run_max_int2]
            split
            · rw [show (z : Int) = -M by omega]
            · rw [show (z : Int) = M by omega]
          have hM1 : -1000000000000000 < M := by omega
          have hM2 : M < 1000000000000000 := by omega
          have lb := low_bd hg.out.1
          have tb := top_bd hg.out.1
          have HSt : Hid (st (vs.take (k + 1)) = stp (st (vs.take k)) (vs.getD k v0)) := by show _ = _; rw [HT.out, st_snoc]
          obtain ⟨lo, hlo⟩ : ∃ x, Hid (x = (st (vs.take k)).1) := ⟨_, rfl⟩
          obtain ⟨hi, hhi⟩ : ∃ x, Hid (x = (st (vs.take k)).2) := ⟨_, rfl⟩
          rw [← hlo.out] at lb
          rw [← hhi.out] at tb
          rw [← hlo.out, ← hhi.out]
          go_wp2_with fail
          go_loop [4, 5, 33] (fun l h i => ∃ j : Nat, i = .int .i64 (j : Int) ∧ j ≤ d ∧ l = .int .i64 lo ∧ h = .int .i64 hi) (fun _ _ i => 19 - (intOf i).toNat)
          case atStart => exact ⟨0, rfl, Nat.zero_le _, rfl, rfl⟩
          case round =>
            obtain ⟨j, rfl, hj, rfl, rfl⟩ := hrel
            have hpj := (hb.cell (p := ⟨0, j, none⟩) HR.out.2.2.1).trans (HR.out.2.2.2 j (by omega))
            have h0w : 0 < wr.heap.size := Nat.lt_of_lt_of_le HR.out.2.2.1 hb.size
            obtain ⟨p, hp⟩ : ∃ p : Nat, Hid (p = 10 ^ j) := ⟨_, rfl⟩
            have hpi : (10 : Int) ^ j = (p : Int) := by rw [hp.out]; exact (Int.natCast_pow 10 j).symm
            rw [hpi] at hpj
            clear hpi
            have hj0 : (0 : Int) ≤ (j : Int) := by omega
            have hj1 : (j : Int) < 19 := by omega
            by_cases hjd : j < d
            · have hge : (p : Int) ≤ (z : Int) := by have := HD.out.2 j hjd; rw [hp.out]; exact_mod_cast this
              go_wp2_with fail
              go_round
              case rel => exact ⟨j + 1, by go_num, by omega, rfl, rfl⟩
              case measure => simp [intOf]; omega
            · obtain rfl : j = d := by omega
              have hge : ¬ (p : Int) ≤ (z : Int) := by have := HD.out.1; rw [← hp.out] at this; omega
              have hge2 : (z : Int) < (p : Int) := by omega
              have HMn : Hid (¬ (vs.getD k v0).M = 0) := by show ¬ _; rw [← hM.out]; exact hM0
              by_cases hlh : lo < hi
              · obtain ⟨fi, hfi⟩ : ∃ x, Hid (x = min E lo) := ⟨_, rfl⟩
                obtain ⟨be, hbe⟩ : ∃ x, Hid (x = max (E + (j : Int)) hi) := ⟨_, rfl⟩
                have hmn : ∀ ts t w', Sem.run Tryd.prog (Builtin.min_ ts t #[.int .i64 E, .int .i64 lo]) w' = .ok (.int .i64 fi) w' := by
                  intro ts t w'
                  have := hfi.out
                  rw [run_min_int2]
                  split
                  · rw [show fi = lo by omega]
                  · rw [show fi = E by omega]
                have hmx : ∀ ts t w', Sem.run Tryd.prog (Builtin.max_ ts t #[.int .i64 (E + (j : Int)), .int .i64 hi]) w' = .ok (.int .i64 be) w' := by
                  intro ts t w'
                  have := hbe.out
                  rw [run_max_int2]
                  split
                  · rw [show be = hi by omega]
                  · rw [show be = E + (j : Int) by omega]
                have hf0 : -400 ≤ fi := by have := hfi.out; omega
                have hf1 : fi ≤ 400 := by have := hfi.out; omega
                have hb0 : -400 ≤ be := by have := hbe.out; omega
                have hb1 : be ≤ 400 := by have := hbe.out; omega
                have hst : Hid (stp (st (vs.take k)) (vs.getD k v0) = (fi, be)) := by
                  show _ = _
                  have h1 := hfi.out; have h2 := hbe.out; have h3 := hd.out
                  rw [hE.out, hlo.out] at h1; rw [hE.out, hhi.out, h3, hM.out] at h2
                  unfold stp
                  rw [if_neg HMn.out, if_pos (by rw [← hlo.out, ← hhi.out]; exact hlh), h1, h2]
                by_cases hbig : be - fi > 18
                · go_wp2_with fail
                  go_quiet (fail)
                  go_wp2_with fail
                  rw [Exit.noGoto_ret]
                  go_ret2
                  refine ⟨k, longest_of (by rw [HR.out.2.1]; exact hk) hg.out (.inr fun h => ?_), by rw [hlo.out]; rfl, ?_⟩
                  · have := h.2
                    rw [HSt.out, hst.out] at this
                    simp only at this
                    omega
                  · exact ((hb.alloc hsz _).alloc (by simp; omega) _).trans ((below_drewN _ _).mono (by simp; omega))
                · go_wp2_with fail
                  go_quiet (fail)
                  go_wp2_with fail
                  go_roundw
                  case rel =>
                    refine ⟨k + 1, by go_num, hlt, ?_, ?_, ?_, ?_⟩
                    · show good _
                      rw [HT.out]
                      refine good_more hg.out Hmay.out.symm ?_
                      rw [hst.out]; simp only; omega
                    · rw [HSt.out, hst.out]
                    · rw [HSt.out, hst.out]
                    · exact ((hb.alloc hsz _).alloc (by simp; omega) _).trans ((below_drewN _ _).mono (by simp; omega))
                  case measure => simp [intOf]; omega
              · have hst : Hid (stp (st (vs.take k)) (vs.getD k v0) = (E, E + (j : Int))) := by
                  show _ = _
                  unfold stp
                  rw [if_neg HMn.out, if_neg (by rw [← hlo.out, ← hhi.out]; exact hlh), hE.out, hd.out, hM.out]
                go_wp2_with fail
                go_quiet (fail)
                go_wp2_with fail
                go_roundw
                case rel =>
                  refine ⟨k + 1, by go_num, hlt, ?_, ?_, ?_, ?_⟩
                  · show good _
                    rw [HT.out]
                    refine good_more hg.out Hmay.out.symm ?_
                    rw [hst.out]; simp only; omega
                  · rw [HSt.out, hst.out]
                  · rw [HSt.out, hst.out]
                  · exact ((hb.alloc hsz _).alloc (by simp; omega) _).trans ((below_drewN _ _).mono (by simp; omega))
                case measure => simp [intOf]; omega
    · have hlt' : ¬ (k : Int) < (len : Int) := by omega
      obtain rfl : k = len := by omega
      go_wp2
      go_ret2
      refine ⟨k, longest_of (by rw [HR.out.2.1]; exact hk) hg.out (.inl HR.out.2.1.symm), rfl, hb⟩
end Go.Proofs.YtpjimckbpabakaaDoor
