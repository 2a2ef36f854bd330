/- The contract of Next, for whatever bytes. Conditions: the table of half bytes; sizes. -/
import Derived.Test.YtocjmbhfpofoeaaDoorGb
import Derived.Test.YtocjmbhfpofoeaaDoorNo
namespace Go.Proofs.YtocjmbhfpofoeaaDoor
open Go.RowKit

set_option maxRecDepth 20000 in
set_option maxHeartbeats 8000000 in
/-- The walk behind the length: too great a one. -/
theorem first_form (g off len cap M n : Nat) (kind : Int) (w : World) (hk0 : 0 ≤ kind) (hk1 : kind ≤ 255) (hlen : 1 ≤ len) (hlc : len ≤ cap) (hg : g < w.heap.size) (hn : 65535 < n) (hn64 : n < 18446744073709551616)
    (hM : Hid (M + 1 = min len 11)) (hk : w.cell? ⟨g, off, none⟩ = some (.int .u8 kind))
    (hc1 : ¬ cap = 1) (HT : Hid (∀ w', Below w.heap.size w w' → Calls Tryd.prog 75 #[.slice (some ⟨g, off + 1, none⟩) M (cap - 1)] w' fun e w'' => ∃ v, e = .returned (.tuple #[.int .u64 (n : Int), v, .int .i64 0]) ∧ Below w'.heap.size w' w'')) :
    Calls Tryd.prog 63 #[.slice (some ⟨g, off, none⟩) len cap] w fun e w' => e = .returned (.tuple #[zagg, .int .i64 11]) ∧ Below w.heap.size w w' := by
  have hmf : ∀ (fn : Fn) (first cap : Array Value) (w : World), (Instr.makeFunc fn first cap).run Tryd.prog w = .ok (.func fn first cap) w := fun _ _ _ _ => rfl
  have hM1 : M + 1 ≤ len := by have := hM.out; omega
  have hmin : ∀ ts t w', Sem.run Tryd.prog (Builtin.min_ ts t #[.int .i64 (len : Int), .int .i64 11]) w' = .ok (.int .i64 ((M : Int) + 1)) w' := by
    intro ts t w'
    have := hM.out
    rw [run_min_int2]
    congr 2
    split <;> omega
  have hl0 : ((len : Int) == 0) = false := by simp; omega
  have hl1 : (0 : Int) < (len : Int) := by omega
  have hn1 : (65535 : Int) < (n : Int) := by omega
  go_enter_defers Tryd.func63, Tryd.ntmps63
  go_wp2_with (go_at_call 75; refine (HT.out _ (((Below.refl _ _).alloc (Nat.le_refl _) _).alloc (by simp) _)).mono ?_
               rintro e w1 ⟨v1, rfl, hb1⟩
               have hv1 := (Vr.new w (.int .i64 kind) (.slice none 0 0) (.slice none 0 0) 0).below hb1 (by simp)
               have HV : Hid (Vr w1 w.heap.size (.int .i64 kind) (.slice none 0 0) (.slice none 0 0) 0 ∧ Below w.heap.size w w1) := ⟨hv1, (((Below.refl _ _).alloc (Nat.le_refl _) _).alloc (by simp) _).trans (hb1.mono (by simp; omega))⟩
               have hz0 := hv1.z 0
               have hz1 := hv1.z 1
               have hz2 := hv1.z 2
               have hze := hv1.ze 0
               have hc0 := hv1.c0
               have hc1 := hv1.c1
               have hc2 := hv1.c2
               have hce := hv1.ce
               clear hv1 hb1)
  refine door_err _ w.heap.size rfl rfl 11 rfl _ _ _ _ (((((HV.out.1.setE 0).set0 _).set1 _).set2 _).setE 11) fun w' hb => ⟨rfl, ?_⟩
  exact (((((HV.out.2.setCell (by simp) _).setCell (Nat.le_refl _) _).setCell (Nat.le_refl _) _).setCell (Nat.le_refl _) _).setCell (by simp) _).trans hb

/-- What Next finds: the frame that the bytes begin with, or an error where there is none. -/
def Nxt (z : List Int) (k x : Int) (z1 z2 : List Int) : Prop :=
  (x = 0 ∧ ∃ kn : Nat, k = (kn : Int) ∧ Dec z kn z1 z2) ∨ ((x == 0) = false ∧ k = 0 ∧ z1 = [] ∧ z2 = [] ∧ ∀ kn b r, ¬ Dec z kn b r)
theorem dec_tkn {z : List Int} {k : Nat} {b r : List Int} (h : Dec z k b r) : tkn (z.drop 1) 65535 = (b.length, b ++ (tl (crc (hd k b)) ++ r), 0) := by
  rw [h.2.2, frm_app, List.drop_one, List.tail_cons]
  exact tkn_bs h.2.1 (by decide) _
theorem not_dec {z : List Int} {x : Int} {rest : List Int} (h : tkn (z.drop 1) 65535 = (0, rest, x)) (hx : (x == 0) = false) : ∀ k b r, ¬ Dec z k b r := fun k b r hd => by
  have := dec_tkn hd
  rw [h] at this
  simp only [Prod.mk.injEq] at this
  rw [this.2.2] at hx; cases hx

theorem isI_zero (w : World) : IsI .u8 w none 0 0 [] := isI_nil _ w
theorem found_err {x : Int} {w w' : World} {e : Ending} (h : e = .returned (.tuple #[zagg, .int .i64 x]) ∧ Below w.heap.size w w') : Found w 0 x [] [] e w' :=
  ⟨h.2, none, 0, 0, none, 0, 0, h.1, isI_zero _, isI_zero _⟩

set_option maxHeartbeats 1600000 in
theorem first_all (a : Option Addr) (len cap : Nat) (z : List Int) (w : World) (hI : IsI .u8 w a len cap z) (hz : Bytes z) (hH : Ha w) (hlen : len ≤ 1000000) :
    ∃ k x z1 z2, Nxt z k x z1 z2 ∧ Calls Tryd.prog 63 #[.slice a len cap] w (Found w k x z1 z2) := by
  by_cases h0 : len = 0
  · subst h0
    have hzl := List.eq_nil_of_length_eq_zero hI.hl
    subst hzl
    refine ⟨0, 10, [], [], .inr ⟨rfl, rfl, rfl, rfl, fun k b r h => ?_⟩, (first_empty a cap w).mono fun e w' h => found_err h⟩
    have := h.2.2
    rw [frm_app] at this
    cases this
  obtain ⟨g, off, rfl, hS⟩ := sb_of hI hz (by omega)
  have hhc := hS.hc
  have hmx := hS.hm
  have hzl := hS.hl
  have hmx' := hmx
  unfold maxLen at hmx'
  obtain ⟨kd, hkd⟩ : ∃ kd : Nat, (kd : Int) = z.getD 0 0 := ⟨(z.getD 0 0).toNat, by have := bytes_at hz 0; omega⟩
  have hkd2 : kd ≤ 255 := by have := bytes_at hz 0; omega
  have hk0 : w.cell? ⟨g, off, none⟩ = some (.int .u8 (kd : Int)) := by
    have := hS.cells 0 (by omega)
    rw [← hkd] at this
    exact this
  obtain ⟨M, hM⟩ : ∃ M, M + 1 = min len 11 := ⟨min len 11 - 1, by omega⟩
  obtain ⟨y, hy⟩ : ∃ y, y = z.drop 1 := ⟨_, rfl⟩
  have hyl : y.length = len - 1 := by rw [hy, List.length_drop, hzl]
  have hyb : Bytes y := by rw [hy]; exact bytes_drop hz _
  have hMl : (y.take M).length = M := by rw [List.length_take]; omega
  have hyat : ∀ j, j < y.length → z[1 + j]? = some (y.getD j 0) := fun j hj => by
    rw [hy] at hj ⊢
    rw [List.length_drop] at hj
    rw [List.getD_eq_getElem?_getD, List.getElem?_drop, List.getElem?_eq_getElem (by omega)]; rfl
  have hpc : ∀ w', Below w.heap.size w w' → ∀ i, i < (y.take M).length → w'.cell? ⟨g, off + 1 + i, none⟩ = some (.int .u8 ((y.take M).getD i 0)) := fun w' hb =>
    (hS.below hb).piece 1 _ fun j hj => by
      rw [hMl] at hj
      rw [getD_takeI y hj]
      exact hyat j (by omega)
  have hzy : z = (kd : Int) :: y := by
    cases z with
    | nil => simp at hzl; omega
    | cons c r => simp at hkd hy; rw [hkd, hy]
  have hhl := hi_le y
  by_cases c1 : 10 ≤ hi y
  · have et : tkn y 65535 = (0, [], 11) := by unfold tkn; rw [if_pos c1]
    have hM10 : M = 10 := by omega
    refine ⟨0, 11, [], [], .inr ⟨rfl, rfl, rfl, rfl, not_dec (by rw [← hy]; exact et) rfl⟩, ?_⟩
    refine (first_take g off len cap M (kd : Int) 11 w (by omega) (by omega) (by omega) hhc hmx hS.hg (by decide) hM hk0 ?_).mono fun e w' h => found_err h
    intro w' a c ha hb
    rw [ha (by omega)]
    have := take_err (some ⟨g, off + 1, none⟩) (y.take M).length c 11 (by decide) w' (span_none g (off + 1) c (y.take M) w' (hpc w' hb) (by omega) (fun i hi => by rw [getD_takeI y (by omega)]; exact hi_lo y i (by omega)))
    rwa [hMl] at this
  by_cases c2 : hi y = y.length
  · have et : tkn y 65535 = (0, [], 10) := by unfold tkn; rw [if_neg c1, if_pos c2]
    have hML : M = y.length := by omega
    refine ⟨0, 10, [], [], .inr ⟨rfl, rfl, rfl, rfl, not_dec (by rw [← hy]; exact et) rfl⟩, ?_⟩
    refine (first_take g off len cap M (kd : Int) 10 w (by omega) (by omega) (by omega) hhc hmx hS.hg (by decide) hM hk0 ?_).mono fun e w' h => found_err h
    intro w' a c ha hb
    have hrd : Rd .u8 w' a y := by
      by_cases hc1 : cap = 1
      · exact .inl (List.eq_nil_of_length_eq_zero (by omega))
      · rw [ha hc1]
        exact (hS.below hb).rd 1 _ hyat
    have := take_short a c y w' hrd (by omega) (fun i hi => hi_lo y i (by omega))
    rw [← hML] at this
    exact this
  have hcap1 : ¬ cap = 1 := by omega
  by_cases c3 : (hi y = 9 ∧ 1 < y.getD (hi y) 0) ∨ (0 < hi y ∧ y.getD (hi y) 0 = 0)
  · have et : tkn y 65535 = (0, [], 11) := by unfold tkn; rw [if_neg c1, if_neg c2, if_pos c3]
    refine ⟨0, 11, [], [], .inr ⟨rfl, rfl, rfl, rfl, not_dec (by rw [← hy]; exact et) rfl⟩, ?_⟩
    refine (first_take g off len cap M (kd : Int) 11 w (by omega) (by omega) (by omega) hhc hmx hS.hg (by decide) hM hk0 ?_).mono fun e w' h => found_err h
    intro w' a c ha hb
    rw [ha hcap1]
    have := take_err (some ⟨g, off + 1, none⟩) (y.take M).length c 11 (by decide) w' (span_bad g (off + 1) c (y.take M) (hi y) w' (hpc w' hb) (by omega) (by omega) (by omega) (fun i h => by rw [getD_takeI y (by omega)]; exact hi_lo y i h)
      (by rw [getD_takeI y (by omega)]; exact hi_at y (by omega)) (by rw [getD_takeI y (by omega)]; exact c3))
    rwa [hMl] at this
  -- a number
  obtain ⟨u, hu⟩ : ∃ u, u = vl (y.take (hi y + 1)) := ⟨_, rfl⟩
  have hu64 : u < 18446744073709551616 := by rw [hu]; exact vl_fits (by omega) (by omega) (fun h => c3 (.inl h)) (bytes_at hyb _).1
  have hhl1 : (y.take (hi y + 1)).length = hi y + 1 := by simp; omega
  have hbu : bs u = y.take (hi y + 1) := by
    rw [hu]
    have hh : hi (y.take (hi y + 1)) = hi y := hi_is (by simp; omega) (fun i h => by rw [getD_takeI y (by omega)]; exact hi_lo y i h) (by rw [getD_takeI y (by omega)]; exact hi_at y (by omega))
    exact (bs_vl _ (fun h => by rw [h] at hhl1; simp at hhl1) (by rw [hh, hhl1]; omega) (by rw [hh, hhl1]; omega) (bytes_take hyb _) (fun h => by
      rw [hhl1, Nat.add_sub_cancel, getD_takeI y (by omega)]
      intro h0
      exact c3 (.inr ⟨by omega, h0⟩))).1
  have hbl : (bs u).length = hi y + 1 := by rw [hbu]; exact hhl1
  have hysp : y = bs u ++ y.drop (hi y + 1) := by rw [hbu, List.take_append_drop]
  have hsp : y.take M = bs u ++ (y.take M).drop (hi y + 1) := by
    conv => lhs; rw [← List.take_append_drop (hi y + 1) (y.take M)]
    rw [hbu, List.take_take, Nat.min_eq_left (by omega)]
  obtain ⟨rt, hrt⟩ : ∃ rt, rt = (y.take M).drop (hi y + 1) := ⟨_, rfl⟩
  rw [← hrt] at hsp
  have hrtl : rt.length ≤ 10 := by rw [hrt, List.length_drop, hMl]; omega
  have HT : Hid (∀ w', Below w.heap.size w w' → Calls Tryd.prog 75 #[.slice (some ⟨g, off + 1, none⟩) M (cap - 1)] w' fun e w'' => ∃ v, e = .returned (.tuple #[.int .u64 (u : Int), v, .int .i64 0]) ∧ Below w'.heap.size w' w'') := by
    intro w' hb
    have h := take_ok g (off + 1) (cap - 1) u rt w' hu64 (hS.below hb).hg (by rw [← hsp]; exact hpc w' hb) (by rw [← hsp, hMl]; omega) (by unfold maxLen; omega) (by omega)
    rw [← hsp, hMl] at h
    refine Calls.mono h ?_
    rintro e w'' ⟨h, rfl, _, hb'⟩
    exact ⟨_, rfl, hb'⟩
  by_cases c4 : 65535 < u
  · have et : tkn y 65535 = (0, [], 11) := by unfold tkn; rw [if_neg c1, if_neg c2, if_neg c3, ← hu, if_pos c4]
    exact ⟨0, 11, [], [], .inr ⟨rfl, rfl, rfl, rfl, not_dec (by rw [← hy]; exact et) rfl⟩,
      (first_form g off len cap M u (kd : Int) w (by omega) (by omega) (by omega) hhc hS.hg c4 hu64 hM hk0 hcap1 HT).mono fun e w' h => found_err h⟩
  have et : tkn y 65535 = (u, y.drop (hi y + 1), 0) := by unfold tkn; rw [if_neg c1, if_neg c2, if_neg c3, ← hu, if_neg c4]
  obtain ⟨q, hq⟩ : ∃ q, q = y.drop (hi y + 1) := ⟨_, rfl⟩
  rw [← hq] at et hysp
  have hql : q.length + (bs u).length + 1 = len := by
    have := congrArg List.length hysp
    rw [List.length_append, hyl] at this; omega
  by_cases c5 : len < 1 + (bs u).length + u + 4
  · refine ⟨0, 10, [], [], .inr ⟨rfl, rfl, rfl, rfl, fun k b r hd => ?_⟩, (first_short g off len cap M u (bs u).length (kd : Int) w (by omega) (by omega) (by omega) hhc hS.hg (by omega) (by omega) c5 hM hk0 rfl hcap1 HT).mono fun e w' h => found_err h⟩
    have h1 := dec_tkn hd
    rw [← hy, et] at h1
    have h2 : u = b.length := (congrArg Prod.fst h1)
    have h3 := hd.2.2
    have h4 := congrArg List.length h3
    rw [List.length_append, frm_length, ← h2] at h4
    omega
  · obtain ⟨zs, hzs⟩ : ∃ zs, zs = q.take u := ⟨_, rfl⟩
    obtain ⟨s4, hs4⟩ : ∃ s4, s4 = (q.drop u).take 4 := ⟨_, rfl⟩
    obtain ⟨rest, hrest⟩ : ∃ rest, rest = (q.drop u).drop 4 := ⟨_, rfl⟩
    have hzsl : zs.length = u := by rw [hzs, List.length_take]; omega
    have h4 : s4.length = 4 := by rw [hs4, List.length_take, List.length_drop]; omega
    have hqq : q = zs ++ (s4 ++ rest) := by rw [hzs, hs4, hrest, List.take_append_drop, List.take_append_drop]
    have hzz : z = hd kd zs ++ s4 ++ rest := by
      rw [hzy, hysp, hqq, hd, hzsl]; simp
    have hb4 : Bytes s4 := fun x hx => hz x (by rw [hzz]; simp [hx])
    have hF := first_any g off len cap kd zs s4 rest z w hkd2 (by omega) h4 hzz hS hH (by omega) ((jn s4 0 : Int) == (crc (hd kd zs) : Int)) rfl
    by_cases c6 : jn s4 0 = crc (hd kd zs)
    · have e4 : s4 = tl (crc (hd kd zs)) := by
        rw [← c6]
        match s4, h4, hb4 with
        | [a, b, c, d], _, h => exact (tl_jn h).symm
      refine ⟨(kd : Int), 0, zs, rest, .inl ⟨rfl, kd, rfl, hkd2, by omega, by rw [hzz, e4]; rfl⟩, hF.mono ?_⟩
      rintro e w' ⟨hb, hp⟩
      rw [if_pos (by simp [c6])] at hp
      obtain ⟨a1, c1, a2, c2, rfl, h1, h2⟩ := hp
      exact ⟨hb, a1, _, c1, a2, _, c2, rfl, h1, h2⟩
    · refine ⟨0, 50, [], [], .inr ⟨rfl, rfl, rfl, rfl, fun k b r hd' => ?_⟩, hF.mono ?_⟩
      · have h1 := dec_tkn hd'
        rw [← hy, et] at h1
        simp only [Prod.mk.injEq] at h1
        obtain ⟨h1, h2, _⟩ := h1
        have hk : kd = k := by
          have := hd'.2.2
          rw [hzy, frm_app, List.cons.injEq] at this
          omega
        have hb : zs = b := by rw [hzs, h2, h1, List.take_left]
        have hs : s4 = tl (crc (hd k b)) := by
          rw [hs4, h2, h1, List.drop_left, List.take_left' (by rw [tl_length])]
        apply c6
        rw [hs, hk, hb, jn_tl (crc_lt _)]
      · rintro e w' ⟨hb, hp⟩
        rw [if_neg (by simp; omega)] at hp
        exact found_err ⟨hp, hb⟩

/-- Next, of whatever bytes. -/
theorem next_all (a : Option Addr) (len cap : Nat) (z : List Int) (w : World) (hI : IsI .u8 w a len cap z) (hz : Bytes z) (hH : Ha w) (hlen : len ≤ 1000000) :
    ∃ k x z1 z2, Nxt z k x z1 z2 ∧ Calls Tryd.prog 51 #[.slice a len cap] w (Told w k x z1 z2) := by
  obtain ⟨k, x, z1, z2, hN, hF⟩ := first_all a len cap z w hI hz hH hlen
  have hl : z1.length ≤ 100000000 ∧ z2.length ≤ 100000000 := by
    rcases hN with ⟨_, kn, _, hd⟩ | ⟨_, _, h1, h2, _⟩
    · have := dec_shorter hd
      have := hd.2.1
      have := hI.hl
      omega
    · subst h1 h2; simp
  exact ⟨k, x, z1, z2, hN, next_any _ k x z1 z2 w hl.1 hl.2 hF⟩
end Go.Proofs.YtocjmbhfpofoeaaDoor
