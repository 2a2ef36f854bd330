/- The contracts of the library's Equal of labels, and of Unmarshal. Conditions: sizes. -/
import Derived.Test.YthklkhdcmoonkaaN
import Derived.Test.YthklkhdcmoonkaaH
namespace Go.Proofs.Ythklkhdcmoonkaa
open Go.RowKit

theorem ne_at {l1 l2 : List Lb} {k : Nat} (h : l1.getD k l0 ≠ l2.getD k l0) : l1 ≠ l2 := fun e => h (by rw [e])
set_option maxHeartbeats 3200000 in
theorem equal_any (a1 a2 : Option Addr) (n1 n2 c1 c2 : Nat) (l1 l2 : List Lb) (w : World) (hn1 : n1 ≤ 100000) (hn2 : n2 ≤ 100000) (h1 : IsL w a1 n1 c1 l1) (h2 : IsL w a2 n2 c2 l2) :
    Calls Try.prog 36 #[.slice a1 n1 c1, .slice a2 n2 c2] w fun e w' => e = .returned (.bool (decide (l1 = l2))) ∧ Below w.heap.size w w' := by
  obtain ⟨b, hb⟩ : ∃ b, Hid (b = decide (l1 = l2)) := ⟨_, rfl⟩
  rw [← hb.out]
  have HI : Hid (IsL w a1 n1 c1 l1 ∧ IsL w a2 n2 c2 l2) := ⟨h1, h2⟩
  clear h1 h2
  by_cases hn : n1 = n2
  · subst hn
    go_enter Try.func36, Try.ntmps36
    go_wp2
    go_loopw [5, 13] (fun _ i wr => ∃ k q : Nat, i = .int .i64 (k : Int) ∧ k ≤ n1 ∧ Hid (l1.take k = l2.take k) ∧ wr = w.drewN q) (fun _ i _ => n1 - (intOf i).toNat)
    case atStart => exact ⟨0, 0, rfl, Nat.zero_le _, (by simp : l1.take 0 = l2.take 0), rfl⟩
    case round =>
      obtain ⟨k, q, rfl, hk, HT, rfl⟩ := hrel
      by_cases hlt : k < n1
      · have hlt' : (k : Int) < (n1 : Int) := by omega
        have hk0 : (0 : Int) ≤ (k : Int) := by omega
        have hk1 : k < l1.length := by rw [HI.out.1.hl]; exact hlt
        have hk2 : k < l2.length := by rw [HI.out.2.hl]; exact hlt
        obtain ⟨g1, o1, rfl, _, p0, p1⟩ := HI.out.1.rd.at hk1
        obtain ⟨g2, o2, rfl, _, q0, q1⟩ := HI.out.2.rd.at hk2
        by_cases he : l1.getD k l0 = l2.getD k l0
        · have HT2 : Hid (l1.take (k + 1) = l2.take (k + 1)) := by
            show _ = _
            rw [take_snocL l1 k hk1, take_snocL l2 k hk2, HT.out, he]
          rw [← he] at q0 q1
          clear he hk1 hk2
          generalize (l1.getD k l0).1 = M at *
          generalize (l1.getD k l0).2 = V at *
          go_wp2
          go_quiet (fail)
          go_wp2
          go_roundw
          case rel => exact ⟨k + 1, _, by go_num, by omega, HT2, rfl⟩
          case measure => simp [intOf]; omega
        · have HN : Hid (decide (l1 = l2) = false) := decide_eq_false (ne_at he)
          obtain ⟨x, hx⟩ : ∃ x, Hid (x = l1.getD k l0) := ⟨_, rfl⟩
          obtain ⟨y, hy⟩ : ∃ y, Hid (y = l2.getD k l0) := ⟨_, rfl⟩
          rw [← hx.out] at he p0 p1
          rw [← hy.out] at he q0 q1
          clear hk1 hk2
          obtain ⟨n, v⟩ := x
          obtain ⟨n', v'⟩ := y
          simp only at p0 p1 q0 q1
          by_cases e1 : n = n'
          · subst e1
            have e2 : (v.toList == v'.toList) = false := by rw [beq_eq]; simp; exact fun h => he (by rw [h])
            clear he
            go_wp2
            go_quiet (fail)
            go_wp2
            go_ret
            exact ⟨ret_bool (by rw [hb.out, HN.out]), ⟨rfl, rfl, rfl, Nat.le_refl _, fun _ _ => rfl⟩⟩
          · have e2 : (n.toList == n'.toList) = false := by rw [beq_eq]; simpa using e1
            clear he e1
            go_wp2
            go_quiet (fail)
            go_wp2
            go_ret
            exact ⟨ret_bool (by rw [hb.out, HN.out]), ⟨rfl, rfl, rfl, Nat.le_refl _, fun _ _ => rfl⟩⟩
      · have hlt' : ¬ (k : Int) < (n1 : Int) := by omega
        go_wp2
        go_ret
        refine ⟨ret_bool ?_, below_dr _ _⟩
        have := HT.out
        rw [List.take_of_length_le (by rw [HI.out.1.hl]; omega), List.take_of_length_le (by rw [HI.out.2.hl]; omega)] at this
        rw [hb.out, this]; simp
  · have hn' : ((n1 : Int) == (n2 : Int)) = false := by simp; omega
    have HN : Hid (decide (l1 = l2) = false) := decide_eq_false (fun e => hn (by rw [← HI.out.1.hl, ← HI.out.2.hl, e]))
    clear hn
    go_enter Try.func36, Try.ntmps36
    go_wp2
    go_ret
    exact ⟨ret_bool (by rw [hb.out, HN.out]), Below.refl _ _⟩

theorem E_ge (s : List Int) : s.length ≤ (E s).length := by
  have : ∀ l : List Int, l.length ≤ (es l).length := by
    intro l
    induction l with
    | nil => simp
    | cons c r ih =>
      have : 1 ≤ (e1 c).length := by unfold e1; split <;> simp
      simp [es]; omega
  have := this s
  simp [E]; omega
theorem el_mem : ∀ {l : List Lb} {x : Lb}, x ∈ l → x.1.size ≤ (el l).length ∧ x.2.size ≤ (el l).length
  | [], x, h => by simp at h
  | y :: r, x, h => by
    simp only [el, List.length_append]
    rcases List.mem_cons.1 h with rfl | h
    · have h1 := E_ge (nums x.1)
      have h2 := E_ge (nums x.2)
      rw [nums_len] at h1 h2
      simp only [eb, List.length_append]
      omega
    · have := el_mem h
      omega
theorem prs_wf {zs : List Int} (hb : Bytes zs) (h : (prs zs).1 = 0) (hl : zs.length ≤ 10000) : WfL (prs zs).2 := by
  intro x hx
  have := el_mem hx
  rw [← prs_ok hb h] at this
  unfold maxLen
  omega
theorem el_count : ∀ l : List Lb, l.length ≤ (el l).length
  | [] => by simp
  | x :: r => by
    have := el_count r
    have := E_pos (nums x.1)
    simp [el, eb]; omega
theorem prs_count {zs : List Int} (hb : Bytes zs) (h : (prs zs).1 = 0) : (prs zs).2.length ≤ zs.length := by
  have := el_count (prs zs).2
  rw [← prs_ok hb h] at this
  exact this

/-- The error of Unmarshal, and its labels. -/
noncomputable def unm (zs : List Int) : Int × List Lb :=
  if (prs zs).1 ≠ 0 then ((prs zs).1, []) else if May (prs zs).2 ∧ canon (prs zs).2 = (prs zs).2 then (0, (prs zs).2) else (11, [])
/-- What Unmarshal tells. -/
def Umd (w : World) (zs : List Int) (e : Ending) (w' : World) : Prop :=
  ∃ v, e = .returned (.tuple #[v, .int .i64 (unm zs).1]) ∧ NewL w.heap.size w' v (unm zs).2 ∧ Below w.heap.size w w'
theorem umd_err {w w' : World} {zs : List Int} {x : Int} (h : unm zs = (x, [])) (hb : Below w.heap.size w w') : Umd w zs (.returned (.tuple #[.slice none 0 0, .int .i64 x])) w' := by
  refine ⟨_, by rw [h], ?_, hb⟩
  rw [h]; exact newL_nil _ _
theorem NewL.mono {b b' : Nat} {w : World} {v : Value} {ls : List Lb} (h : NewL b w v ls) (hb : b' ≤ b) : NewL b' w v ls := by
  obtain ⟨a, c, h1, h2, h3⟩ := h
  exact ⟨a, c, h1, h2, fun hl => by obtain ⟨g, e1, e2, e3⟩ := h3 hl; exact ⟨g, e1, Nat.le_trans hb e2, e3⟩⟩
theorem NewL.below {b : Nat} {w w' : World} {v : Value} {ls : List Lb} (h : NewL b w v ls) (hb : Below w.heap.size w w') : NewL b w' v ls := by
  obtain ⟨a, c, h1, h2, h3⟩ := h
  refine ⟨a, c, h1, h2.below hb, fun hl => ?_⟩
  obtain ⟨g, e1, e2, e3⟩ := h3 hl
  refine ⟨g, e1, e2, fun j hj => ?_⟩
  obtain ⟨g', o', e4, hg, _⟩ := h2.rd.at (k := 0) hl
  rw [e1] at e4; cases e4
  exact (hb.frozen (p := ⟨g, j, none⟩) hg).trans (e3 j hj)

set_option maxHeartbeats 3200000 in
theorem unmarshal_any (a : Option Addr) (len cap : Nat) (zs : List Int) (w : World) (hI : IsI .u8 w a len cap zs) (hby : Bytes zs) (hlen : len ≤ 10000) : Calls Try.prog 20 #[.slice a len cap] w (Umd w zs) := by
  have HP : Hid _ := pairs_any a len cap zs w hI hby hlen
  have HL : Hid (zs.length = len ∧ Bytes zs) := ⟨hI.hl, hby⟩
  clear hI hby
  rcases prs_err zs with h | h | h
  · have HH : Hid ((prs zs).1 = 0) := h
    have HW : Hid (WfL (prs zs).2) := prs_wf HL.out.2 h (by rw [HL.out.1]; exact hlen)
    have hcn := prs_count HL.out.2 h
    rw [HL.out.1] at hcn
    clear h
    go_enter Try.func20, Try.ntmps20
    go_wp2_with fail
    refine Calls.mono HP.out ?_
    rintro e w1 ⟨v1, rfl, ho1, hb1⟩
    rw [HH.out]
    obtain ⟨l, hl⟩ : ∃ l, Hid (l = (prs zs).2) := ⟨_, rfl⟩
    rw [← hl.out] at ho1 HW hcn
    obtain ⟨n, hn⟩ : ∃ n, n = l.length := ⟨_, rfl⟩
    rw [← hn] at ho1 hcn
    obtain ⟨a1, c1, rfl, hI1⟩ := own_isL ho1
    have H1 : Hid (IsL w1 a1 n c1 l ∧ Below w.heap.size w w1) := ⟨hI1, hb1⟩
    clear hI1 hb1 ho1 hn
    go_wp2_with fail
    refine (canon_any a1 n c1 l w1 H1.out.1 HW.out).mono ?_
    rintro e w2 ⟨v2, rfl, hN2, hb2⟩
    have hbw : Below w.heap.size w w2 := H1.out.2.trans (hb2.mono H1.out.2.size)
    by_cases hm : May l
    · have HM : Hid (May l) := hm
      clear hm
      rw [cne_may HM.out]
      rw [cnl_may HM.out] at hN2
      have hcl : (canon l).length = n := by rw [canon_len HM.out.2.2.2]; exact H1.out.1.hl
      have hN2' := hN2
      obtain ⟨a2, c2, rfl, hI2, hnew⟩ := hN2
      rw [hcl] at hI2 ⊢
      have H2 : Hid (IsL w2 a2 n c2 (canon l) ∧ NewL w1.heap.size w2 (.slice a2 (canon l).length c2) (canon l) ∧ (canon l).length = n ∧ IsL w2 a1 n c1 l) := ⟨hI2, hN2', hcl, H1.out.1.below hb2⟩
      clear hI2 hN2' hcl hnew hb2
      have HQ : Hid (Calls Try.prog 36 #[.slice a2 n c2, .slice a1 n c1] w2 fun e w' => e = .returned (.bool (decide (canon l = l))) ∧ Below w2.heap.size w2 w') := equal_any a2 a1 n n c2 c1 (canon l) l w2 (by omega) (by omega) H2.out.1 H2.out.2.2.2
      by_cases he : canon l = l
      · rw [decide_eq_true he] at HQ
        have HE : Hid (unm zs = (0, l)) := by
          show _ = _
          unfold unm; rw [if_neg (by rw [HH.out]; simp), ← hl.out, if_pos ⟨HM.out, he⟩]
        have HC : Hid (canon l = l) := he
        clear he
        go_wp2_with fail
        refine Calls.mono HQ.out ?_
        rintro e w3 ⟨rfl, hb3⟩
        go_wp2_with fail
        go_ret2
        refine ⟨_, by rw [HE.out]; rfl, ?_, hbw.trans (hb3.mono hbw.size)⟩
        rw [HE.out]
        have := (H2.out.2.1.below hb3).mono H1.out.2.size
        rw [H2.out.2.2.1, HC.out] at this
        exact this
      · rw [decide_eq_false he] at HQ
        have HE : Hid (unm zs = (11, [])) := by
          show _ = _
          unfold unm; rw [if_neg (by rw [HH.out]; simp), ← hl.out, if_neg (fun h => he h.2)]
        clear he
        go_wp2_with fail
        refine Calls.mono HQ.out ?_
        rintro e w3 ⟨rfl, hb3⟩
        go_wp2_with fail
        go_ret2
        exact umd_err HE.out (hbw.trans (hb3.mono hbw.size))
    · rw [cne_not hm]
      have HE : Hid (unm zs = (11, [])) := by
        show _ = _
        unfold unm; rw [if_neg (by rw [HH.out]; simp), ← hl.out, if_neg (fun h => hm h.1)]
      rw [cnl_not hm] at hN2
      clear hm hN2
      go_wp2_with fail
      go_ret2
      exact umd_err HE.out hbw
  · have HE : Hid (unm zs = (10, [])) := by show _ = _; unfold unm; rw [h]; simp
    have HH : Hid _ := h
    clear h
    go_enter Try.func20, Try.ntmps20
    go_wp2_with fail
    refine Calls.mono HP.out ?_
    rintro e w1 ⟨v1, rfl, ho1, hb1⟩
    rw [HH.out]
    clear ho1
    go_wp2_with fail
    go_ret2
    exact umd_err HE.out hb1
  · have HE : Hid (unm zs = (11, [])) := by show _ = _; unfold unm; rw [h]; simp
    have HH : Hid _ := h
    clear h
    go_enter Try.func20, Try.ntmps20
    go_wp2_with fail
    refine Calls.mono HP.out ?_
    rintro e w1 ⟨v1, rfl, ho1, hb1⟩
    rw [HH.out]
    clear ho1
    go_wp2_with fail
    go_ret2
    exact umd_err HE.out hb1
end Go.Proofs.Ythklkhdcmoonkaa
