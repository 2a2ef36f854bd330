/- The contract of the document's own Check; the order of items and what they begin with. Conditions: those of each theorem. -/
import Derived.Test.YtocjmbhfpofoeaaDoorTp
namespace Go.Proofs.YtocjmbhfpofoeaaDoor
open Go.RowKit

theorem good_of {ls : List (List Int)} (h : ∀ i, i < ls.length → 1 ≤ (ls.getD i []).length ∧ (ls.getD i []).length ≤ 400) (hr : Rz ls) : good [] ls = true := by
  refine (good_iff [] ls).2 fun i hi => ⟨(h i hi).2, ?_⟩
  cases i with
  | zero =>
    refine li_nil fun e => ?_
    have := (h 0 hi).1
    rw [e] at this; simp at this
  | succ i => simpa using hr i hi
theorem good_len {ls : List (List Int)} (h : good [] ls = true) {i : Nat} (hi : i < ls.length) : 1 ≤ (ls.getD i []).length ∧ (ls.getD i []).length ≤ 400 := by
  obtain ⟨h1, h2⟩ := (good_iff [] ls).1 h i hi
  refine ⟨List.length_pos_iff.2 (li_ne_nil h2), h1⟩

set_option maxHeartbeats 1600000 in
theorem check_doc (a : Option Addr) (n c : Nat) (ls : List (List Int)) (w : World) (hR : IsR w a n c ls) (hwf : WfR ls) :
    Calls Tryd.prog 17 #[.slice a n c] w fun e w' => e = .returned (.int .i64 (chkF ls)) ∧ Below w.heap.size w w' := by
  have hl := hR.hl
  obtain ⟨b, hb⟩ : ∃ b, Hid (b = chkF ls) := ⟨_, rfl⟩
  rw [← hb.out]
  have HI : Hid (IsR w a n c ls ∧ WfR ls) := ⟨hR, hwf⟩
  have HL : Hid (ls.length = n) := hl
  clear hR hl hwf
  by_cases hn : n ≤ 2000
  · have hn' : ¬ (2000 : Int) < (n : Int) := by omega
    have HRs : Hid _ := rises_any a n c ls w HI.out.1 HI.out.2
    obtain ⟨rs, hrs⟩ : ∃ r, Hid (r = rises ls) := ⟨_, rfl⟩
    rw [← hrs.out] at HRs
    go_enter Tryd.func17, Tryd.ntmps17
    go_wp2_with fail
    refine Calls.mono HRs.out ?_
    rintro e w1 ⟨rfl, hb1⟩
    have HB1 : Hid (Below w.heap.size w w1) := hb1
    clear hb1 HRs
    go_wp2_with fail
    go_loopw [4] (fun i wr => ∃ k q : Nat, i = .int .i64 (k : Int) ∧ k ≤ n ∧ Hid (∀ j, j < k → 1 ≤ (ls.getD j []).length ∧ (ls.getD j []).length ≤ 400) ∧ wr = w1.drewN q) (fun i _ => n - (intOf i).toNat)
    case atStart => exact ⟨0, 0, rfl, Nat.zero_le _, (fun j hj => by omega), rfl⟩
    case round =>
      obtain ⟨k, q, rfl, hk, HA, rfl⟩ := hrel
      by_cases hlt : k < n
      · have hlt' : (k : Int) < (n : Int) := by omega
        have hk0 : (0 : Int) ≤ (k : Int) := by omega
        have hkl : k < ls.length := by rw [HL.out]; omega
        have hw : IntKind.i64.wrap ((k : Int) + 1) = (k : Int) + 1 := by rw [IntKind.wrap_i64]; omega
        obtain ⟨g, off, ai, ni, ci, rfl, hg, c0, hi⟩ := (HI.out.1.below HB1.out).rd.at hkl
        have hni := hi.hl
        have HN : Hid (ni = (ls.getD k []).length) := hni.symm
        have HBad : Hid (¬ (1 ≤ ni ∧ ni ≤ 400) → b = 1) := fun h => by
          rw [hb.out]
          unfold chkF
          rw [if_neg (by rw [HL.out]; omega), if_neg (by intro e; rw [e] at hkl; simp at hkl), if_neg]
          intro hg
          have := good_len hg hkl
          rw [← HN.out] at this
          exact h this
        clear hi hni hkl
        by_cases h1 : ni < 1
        · have h1' : (ni : Int) < (1 : Int) := by omega
          obtain rfl := HBad.out (by omega)
          go_wp2_with fail
          go_ret
          exact ⟨rfl, HB1.out.trans ((below_dr w1 _).mono HB1.out.size)⟩
        · have h1' : ¬ (ni : Int) < (1 : Int) := by omega
          by_cases h4 : 400 < ni
          · have h4' : (400 : Int) < (ni : Int) := by omega
            obtain rfl := HBad.out (by omega)
            go_wp2_with fail
            go_ret
            exact ⟨rfl, HB1.out.trans ((below_dr w1 _).mono HB1.out.size)⟩
          · have h4' : ¬ (400 : Int) < (ni : Int) := by omega
            go_wp2_with fail
            go_roundw
            case rel => exact ⟨k + 1, q, by go_num, by omega, (fun j hj => by
              rcases Nat.lt_succ_iff_lt_or_eq.1 hj with h | h
              · exact HA.out j h
              · subst h; rw [← HN.out]; omega), rfl⟩
            case measure => simp [intOf]; omega
      · have hlt' : ¬ (k : Int) < (n : Int) := by omega
        have hkn : k = n := by omega
        have HG : Hid (∀ j, j < ls.length → 1 ≤ (ls.getD j []).length ∧ (ls.getD j []).length ≤ 400) := fun j hj => HA.out j (by rw [HL.out] at hj; omega)
        cases rs with
        | false =>
          have : b = 1 := by
            rw [hb.out]
            unfold chkF
            rw [if_neg (by rw [HL.out]; omega)]
            by_cases he : ls = []
            · rw [if_pos he]
            · rw [if_neg he, if_neg]
              intro hg
              have := rises_iff.2 (good_rz hg)
              rw [← hrs.out] at this; cases this
          subst this
          go_wp2_with fail
          go_ret
          exact ⟨rfl, HB1.out.trans ((below_dr w1 _).mono HB1.out.size)⟩
        | true =>
          by_cases h0 : n = 0
          · have h0' : (n : Int) = 0 := by omega
            have : b = 1 := by
              rw [hb.out]
              unfold chkF
              rw [if_neg (by rw [HL.out]; omega), if_pos (List.eq_nil_of_length_eq_zero (by rw [HL.out]; exact h0))]
            subst this
            go_wp2_with fail
            go_ret
            exact ⟨rfl, HB1.out.trans ((below_dr w1 _).mono HB1.out.size)⟩
          · have h0' : ¬ (n : Int) = 0 := by omega
            have : b = 0 := by
              rw [hb.out]
              unfold chkF
              rw [if_neg (by rw [HL.out]; omega), if_neg (by intro e; have := HL.out; rw [e] at this; simp at this; omega), if_pos (good_of HG.out (rises_iff.1 hrs.out.symm))]
            subst this
            go_wp2_with fail
            go_ret
            exact ⟨rfl, HB1.out.trans ((below_dr w1 _).mono HB1.out.size)⟩
  · have hn' : (2000 : Int) < (n : Int) := by omega
    have : b = 2 := by
      rw [hb.out]
      unfold chkF
      rw [if_pos (by rw [HL.out]; omega)]
    subst this
    go_enter Tryd.func17, Tryd.ntmps17
    go_wp2_with fail
    go_ret
    exact ⟨rfl, Below.refl _ _⟩

/-- Between two that begin so all do. -/
theorem pfx_mid : ∀ {x y z : List Int}, li y x = false → li y z = true → pfx z x = true → pfx y x = true
  | [], y, z, _, _, _ => by simp [pfx]
  | a :: x, [], z, h, _, _ => by simp [li] at h
  | a :: x, b :: y, [], _, h, _ => by simp [li] at h
  | a :: x, b :: y, c :: z, h1, h2, h3 => by
    have e3 : c = a ∧ pfx z x = true := by
      simp only [pfx, List.length_cons, List.take_succ_cons, decide_eq_true_eq, List.cons.injEq] at h3 ⊢
      exact ⟨h3.2.1, by omega, h3.2.2⟩
    obtain ⟨rfl, h3'⟩ := e3
    simp only [li, Bool.or_eq_true, Bool.and_eq_true, decide_eq_true_eq, Bool.or_eq_false_iff, Bool.and_eq_false_iff, decide_eq_false_iff_not] at h1 h2
    have hbc : b = c := by
      rcases h2 with h | h
      · exact absurd h h1.1
      · exact h.1
    subst hbc
    have h1' : li y x = false := by
      rcases h1.2 with h | h
      · exact absurd rfl h
      · exact h
    have h2' : li y z = true := by
      rcases h2 with h | h
      · omega
      · exact h.2
    have := pfx_mid h1' h2' h3'
    simp only [pfx, List.length_cons, List.take_succ_cons, decide_eq_true_eq, List.cons.injEq] at this ⊢
    exact ⟨by omega, trivial, this.2⟩
theorem pfx_nl : ∀ {x y : List Int}, pfx y x = true → nl x y = true
  | [], y, _ => by cases y <;> rfl
  | a :: x, [], h => by simp [pfx] at h
  | a :: x, b :: y, h => by
    have e : b = a ∧ pfx y x = true := by
      simp only [pfx, List.length_cons, List.take_succ_cons, decide_eq_true_eq, List.cons.injEq] at h ⊢
      exact ⟨h.2.1, by omega, h.2.2⟩
    obtain ⟨rfl, h'⟩ := e
    have := pfx_nl h'
    simp only [nl, li, Bool.not_eq_true', Bool.or_eq_false_iff, Bool.and_eq_false_iff, decide_eq_false_iff_not] at this ⊢
    exact ⟨by omega, .inr this⟩
/-- Behind one that rises all are greater. -/
theorem rz_tail {y : List Int} {L : List (List Int)} (h : Rz (y :: L)) : Rz L ∧ ∀ z ∈ L, li y z = true := by
  refine ⟨fun i hi => by have := h (i + 1) (by simpa using hi); simpa using this, fun z hz => ?_⟩
  obtain ⟨k, hk, rfl⟩ := List.getElem_of_mem hz
  have := rz_mono h k 0 (by simp; omega)
  simpa [List.getD, hk] using this
/-- The items that begin so, the one way and the other. -/
theorem tw_pfx (x : List Int) : ∀ {L : List (List Int)} (j : Nat), Rz L → tw (fun _ y => pfx y x) j (L.filter (nl x)) = L.filter (fun y => pfx y x)
  | [], _, _ => by simp [tw]
  | y :: L, j, h => by
    obtain ⟨h1, h2⟩ := rz_tail h
    cases hn : nl x y with
    | false =>
      have hp : pfx y x = false := by
        cases hp : pfx y x with
        | false => rfl
        | true => rw [pfx_nl hp] at hn; cases hn
      rw [List.filter_cons, List.filter_cons, hn, hp]
      simp only [Bool.false_eq_true, if_false]
      exact tw_pfx x j h1
    | true =>
      cases hp : pfx y x with
      | true =>
        rw [List.filter_cons, List.filter_cons, hn, hp]
        simp only [if_true, tw, hp]
        rw [tw_pfx x (j + 1) h1]
      | false =>
        rw [List.filter_cons, List.filter_cons, hn, hp]
        simp only [if_true, Bool.false_eq_true, if_false, tw, hp]
        symm
        rw [List.filter_eq_nil_iff]
        intro z hz hpz
        have := pfx_mid (x := x) (y := y) (z := z) (by simpa [nl] using hn) (h2 z hz) hpz
        rw [this] at hp; cases hp
/-- One of them is the first from itself on. -/
theorem hsd_mem {L : List (List Int)} (h : Rz L) {y : List Int} (hy : y ∈ L) : hsd ((L.filter (nl y)).take 1) y = true := by
  induction L with
  | nil => cases hy
  | cons z L ih =>
    obtain ⟨h1, h2⟩ := rz_tail h
    rcases List.mem_cons.1 hy with rfl | hm
    · have : nl y y = true := by simp [nl, li_irr]
      rw [List.filter_cons, if_pos this]
      simp [hsd, List.getD]
    · have : nl y z = false := by simp [nl, h2 y hm]
      rw [List.filter_cons, this]
      simpa using ih h1 hm
/-- How many begin with a byte below. -/
def cnt (L : List (List Int)) : Nat → Nat
  | 0 => 0
  | c + 1 => cnt L c + (L.filter (fun y => pfx y [(c : Int)])).length
theorem cnt_cons (y : List Int) (L : List (List Int)) : ∀ c, cnt (y :: L) c = cnt [y] c + cnt L c
  | 0 => rfl
  | c + 1 => by
    simp only [cnt, cnt_cons y L c, List.filter_cons]
    cases pfx y [(c : Int)] <;> simp <;> omega
theorem cnt_one (b : Int) (y : List Int) (hb : 0 ≤ b) : ∀ c : Nat, cnt [b :: y] c = if b < (c : Int) then 1 else 0
  | 0 => by simp [cnt]; omega
  | c + 1 => by
    have e : pfx (b :: y) [(c : Int)] = decide (b = (c : Int)) := by
      simp only [pfx, List.length_cons, List.length_nil, List.take_succ_cons, List.take_zero, List.cons.injEq, and_true]
      congr 1
      simp
    simp only [cnt, cnt_one b y hb c, List.filter_cons, e]
    by_cases h1 : b = (c : Int)
    · subst h1
      simp
      omega
    · rw [decide_eq_false h1]
      simp
      by_cases h2 : b < (c : Int)
      · rw [if_pos h2, if_pos (by omega)]
      · rw [if_neg h2, if_neg (by omega)]
theorem cnt_all : ∀ {L : List (List Int)}, WfR L → (∀ y ∈ L, y ≠ []) → cnt L 256 = L.length
  | [], _, _ => by
    have : ∀ c, cnt [] c = 0 := fun c => by induction c with
      | zero => rfl
      | succ c ih => simp [cnt, ih]
    simp [this]
  | y :: L, h, hne => by
    rw [cnt_cons, cnt_all (fun z hz => h z (List.mem_cons_of_mem _ hz)) (fun z hz => hne z (List.mem_cons_of_mem _ hz)), List.length_cons]
    cases y with
    | nil => exact absurd rfl (hne [] (List.mem_cons_self ..))
    | cons b y =>
      have := h (b :: y) (List.mem_cons_self ..) b (List.mem_cons_self ..)
      rw [cnt_one b y this.1, if_pos (by omega)]
      omega
/-- How many stand ahead. -/
theorem sk_count {L : List (List Int)} (h : Rz L) (x : List Int) : L.drop (L.length - (L.filter (nl x)).length) = L.filter (nl x) ∧ (∀ i, i + 1 = L.length - (L.filter (nl x)).length → li (L.getD i []) x = true) ∧ (L.filter (nl x)).length ≤ L.length := by
  have hle := List.length_filter_le (nl x) L
  induction L with
  | nil => exact ⟨rfl, fun i hi => by simp at hi, by simp⟩
  | cons y L ih =>
    obtain ⟨h1, h2⟩ := rz_tail h
    cases hn : nl x y with
    | true =>
      have hall : L.filter (nl x) = L := by
        rw [List.filter_eq_self]
        intro z hz
        have h3 : li y x = false := by simpa [nl] using hn
        cases hz' : li z x with
        | false => simp [nl, hz']
        | true => rw [li_trans y z x (h2 z hz) hz'] at h3; cases h3
      rw [List.filter_cons, if_pos hn, hall]
      refine ⟨by simp, fun i hi => by simp at hi, by simp⟩
    | false =>
      have hle1 := List.length_filter_le (nl x) L
      obtain ⟨k1, k2, k3⟩ := ih h1 hle1
      rw [List.filter_cons, hn]
      simp only [Bool.false_eq_true, if_false, List.length_cons]
      have e : L.length + 1 - (L.filter (nl x)).length = (L.length - (L.filter (nl x)).length) + 1 := by omega
      rw [e, List.drop_succ_cons]
      refine ⟨k1, fun i hi => ?_, by omega⟩
      cases i with
      | zero => simpa [nl] using hn
      | succ i => simpa using k2 i (by omega)
theorem tw_le (dec : Nat → List Int → Bool) : ∀ (L : List (List Int)) (j : Nat), (tw dec j L).length ≤ L.length
  | [], _ => by simp [tw]
  | y :: L, j => by
    simp only [tw]
    split
    · have := tw_le dec L (j + 1); simp; omega
    · simp
end Go.Proofs.YtocjmbhfpofoeaaDoor
