/- The contracts of the document's own One, All, Exact, Check. Conditions: those of each theorem. -/
import Derived.Test.YtejdpelolihpeaaG
namespace Go.Proofs.Ytejdpelolihpeaa
open Go.RowKit

set_option maxHeartbeats 3200000 in
theorem refone_any (f : Ft) (sa : Option Addr) (len cap : Nat) (ls : List Lb) (w : World) (hI : IsL w sa len cap ls) :
    Calls Try.prog 11 #[.agg #[.string f.n, .string f.v, .bool f.p, .bool f.t], .slice sa len cap] w fun e w' => e = .returned (.bool (one f ls)) ∧ Below w.heap.size w w' := by
  obtain ⟨n, v, p, t⟩ := f
  simp only
  have hbx : Below w.heap.size w (w.alloc (.cells #[.string n, .string v, .bool p, .bool t] 28)) := (Below.refl _ _).alloc (Nat.le_refl _) _
  have H : Hid (Calls Try.prog 20 #[.slice sa len cap, .string n] (w.alloc (.cells #[.string n, .string v, .bool p, .bool t] 28)) fun e w' => e = .returned (.string (get ls n)) ∧ Below (w.alloc (.cells #[.string n, .string v, .bool p, .bool t] 28)).heap.size (w.alloc (.cells #[.string n, .string v, .bool p, .bool t] 28)) w') := refget_any sa len cap ls n _ (hI.below hbx)
  have HB : Hid _ := hbx
  clear hbx hI
  obtain ⟨r, hr⟩ : ∃ r, Hid (r = one ⟨n, v, p, t⟩ ls) := ⟨_, rfl⟩
  rw [← hr.out]
  have HR : Hid (r = asks ⟨n, v, p, t⟩ (get ls n)) := hr.out
  clear hr
  generalize get ls n = g at *
  have e' := beq_eq g v
  obtain ⟨d, hd⟩ : ∃ d, Hid (d = decide (g = v)) := ⟨_, rfl⟩
  rw [← hd.out] at e'
  cases p with
  | false =>
    go_enter Try.func11, Try.ntmps11
    go_wp2_with fail
    refine Calls.mono H.out ?_
    rintro e w2 ⟨rfl, hb⟩
    obtain ⟨hc, _⟩ := bcell hb
    have hz : w.heap.size < w2.heap.size := by have := hb.size; simp at this; omega
    have H2 : Hid (Below w.heap.size w w2) := HB.out.trans (hb.mono HB.out.size)
    clear hb
    cases d <;> cases t
    all_goals
      go_wp2
      go_ret
      refine ⟨ret_bool ?_, H2.out⟩
      rw [HR.out, asks]; simp [← hd.out]
  | true =>
    by_cases hs : v.size ≤ g.size
    · have hs' : (v.size : Int) ≤ (g.size : Int) := by omega
      have e2 := beq_eq (g.extract 0 v.size) v
      obtain ⟨d2, hd2⟩ : ∃ d, Hid (d = decide (g.extract 0 v.size = v)) := ⟨_, rfl⟩
      rw [← hd2.out] at e2
      go_enter Try.func11, Try.ntmps11
      go_wp2_with fail
      refine Calls.mono H.out ?_
      rintro e w2 ⟨rfl, hb⟩
      obtain ⟨hc, _⟩ := bcell hb
      have hz : w.heap.size < w2.heap.size := by have := hb.size; simp at this; omega
      have H2 : Hid (Below w.heap.size w w2) := HB.out.trans (hb.mono HB.out.size)
      clear hb
      go_wp2
      go_quiet (fail)
      cases d2 <;> cases t
      all_goals
        go_wp2
        go_ret
        refine ⟨ret_bool ?_, H2.out.trans ((below_dr _ _).mono H2.out.size)⟩
        rw [HR.out, asks, beg]; simp [← hd2.out, hs]
    · have hs' : ¬ (v.size : Int) ≤ (g.size : Int) := by omega
      go_enter Try.func11, Try.ntmps11
      go_wp2_with fail
      refine Calls.mono H.out ?_
      rintro e w2 ⟨rfl, hb⟩
      obtain ⟨hc, _⟩ := bcell hb
      have hz : w.heap.size < w2.heap.size := by have := hb.size; simp at this; omega
      have H2 : Hid (Below w.heap.size w w2) := HB.out.trans (hb.mono HB.out.size)
      clear hb
      go_wp2
      go_quiet (fail)
      cases t
      all_goals
        go_wp2
        go_ret
        refine ⟨ret_bool ?_, H2.out.trans ((below_dr _ _).mono H2.out.size)⟩
        rw [HR.out, asks, beg]; simp [hs]

def cnt (ls : List Lb) : List Ft → Nat
  | [] => 0
  | f :: r => (if one f ls then 1 else 0) + cnt ls r
theorem cnt_app (ls : List Lb) (b : List Ft) : ∀ a, cnt ls (a ++ b) = cnt ls a + cnt ls b
  | [] => by simp [cnt]
  | f :: r => by simp [cnt, cnt_app ls b r]; omega
theorem cnt_le (ls : List Lb) : ∀ a, cnt ls a ≤ a.length
  | [] => Nat.le_refl _
  | f :: r => by have := cnt_le ls r; simp [cnt]; split <;> omega
theorem cnt_all (ls : List Lb) : ∀ a, decide (cnt ls a = a.length) = all a ls
  | [] => by simp [cnt, all]
  | f :: r => by
    have ih := cnt_all ls r
    have hl := cnt_le ls r
    simp only [all, List.all_cons] at *
    rw [← ih, cnt, List.length_cons]
    cases one f ls
    · simp; omega
    · simp; omega

set_option maxHeartbeats 3200000 in
theorem refall_any (a : Option Addr) (len cap : Nat) (fs : List Ft) (sa : Option Addr) (sl sc : Nat) (ls : List Lb) (w : World) (hI : IsF w a len cap fs) (hL : IsL w sa sl sc ls) (h10 : len ≤ 10) :
    Calls Try.prog 15 #[.slice a len cap, .slice sa sl sc] w fun e w' => e = .returned (.bool (all fs ls)) ∧ Below w.heap.size w w' := by
  have hc := hI.hc
  obtain ⟨b, hb⟩ : ∃ b, Hid (b = all fs ls) := ⟨_, rfl⟩
  rw [← hb.out]
  have HI : Hid (IsF w a len cap fs ∧ IsL w sa sl sc ls) := ⟨hI, hL⟩
  clear hI hL
  go_enter Try.func15, Try.ntmps15
  go_wp2
  go_loopw [5, 6, 7] (fun n i _ wr => ∃ k m : Nat, k ≤ len ∧ m ≤ k ∧ i = .int .i64 (k : Int) ∧ n = .int .i64 (m : Int) ∧ Hid (m = cnt ls (fs.take k)) ∧ Below w.heap.size w wr) (fun _ i _ _ => len - (intOf i).toNat)
  case atStart => exact ⟨0, 0, Nat.zero_le _, Nat.le_refl _, rfl, rfl, (by simp [cnt] : 0 = cnt ls (fs.take 0)), Below.refl _ _⟩
  case round =>
    obtain ⟨k, m, hk, hmk, rfl, rfl, HA, hbw⟩ := hrel
    by_cases hlt : k < len
    · have hlt' : (k : Int) < (len : Int) := by omega
      have hkl : k < fs.length := by rw [HI.out.1.hl]; exact hlt
      obtain ⟨g, off, rfl, hg, c0, c1, c2, c3⟩ := (HI.out.1.rd.below hbw).at hkl
      obtain ⟨x, hx⟩ : ∃ x, Hid (x = fs.getD k f0) := ⟨_, rfl⟩
      obtain ⟨o, ho⟩ : ∃ o, Hid (o = one x ls) := ⟨_, rfl⟩
      have HK : Hid (cnt ls (fs.take (k + 1)) = m + (if o then 1 else 0)) := by
        show _ = _
        rw [take_snocF fs k hkl, cnt_app, ← hx.out, HA.out, ho.out]; simp [cnt]
      rw [← hx.out] at c0 c1 c2 c3
      clear hkl hx HA
      have HC : Hid (Calls Try.prog 11 #[.agg #[.string x.n, .string x.v, .bool x.p, .bool x.t], .slice sa sl sc] wr fun e w' => e = .returned (.bool o) ∧ Below wr.heap.size wr w') := by
        rw [ho.out]; exact refone_any x sa sl sc ls wr (HI.out.2.below hbw)
      clear ho
      obtain ⟨n, v, pp, tt⟩ := x
      simp only at c0 c1 c2 c3 HC
      go_wp2_with fail
      refine Calls.mono HC.out ?_
      rintro e w2 ⟨rfl, hb2⟩
      have H2 : Hid (Below w.heap.size w w2) := hbw.trans (hb2.mono hbw.size)
      clear hb2
      cases o with
      | true =>
        go_wp2_with fail
        go_roundw
        case rel => exact ⟨k + 1, m + 1, by omega, by omega, by go_num, by go_num, HK.out.symm, H2.out⟩
        case measure => simp [intOf]; omega
      | false =>
        go_wp2_with fail
        go_roundw
        case rel => exact ⟨k + 1, m, by omega, by omega, by go_num, rfl, HK.out.symm, H2.out⟩
        case measure => simp [intOf]; omega
    · have hlt' : ¬ (k : Int) < (len : Int) := by omega
      have HE : Hid (decide (m = len) = b) := by
        have h := cnt_all ls fs
        rw [HI.out.1.hl] at h
        have h2 := HA.out
        rw [List.take_of_length_le (by rw [HI.out.1.hl]; omega)] at h2
        show _ = _
        rw [h2, hb.out, h]
      by_cases e : m = len
      · have e' : ((m : Int) == (len : Int)) = true := by rw [beq_iff_eq]; omega
        have HD : Hid (m = len) := e
        clear e
        go_wp2_with fail
        go_ret
        exact ⟨ret_bool (by rw [← HE.out]; simp [HD.out]), hbw⟩
      · have e' : ((m : Int) == (len : Int)) = false := by rw [beq_eq_false_iff_ne]; omega
        have HD : Hid (¬ m = len) := e
        clear e
        go_wp2_with fail
        go_ret
        exact ⟨ret_bool (by rw [← HE.out]; simp [HD.out]), hbw⟩

set_option maxHeartbeats 3200000 in
theorem refexact_any (a : Option Addr) (len cap : Nat) (fs : List Ft) (w : World) (hI : IsF w a len cap fs) :
    Calls Try.prog 17 #[.slice a len cap] w fun e w' => e = .returned (.int .i64 (exact fs)) ∧ w' = w := by
  have hm := hI.hm
  have hc := hI.hc
  unfold maxLen at hm
  obtain ⟨b, hb⟩ : ∃ b, Hid (b = exact fs) := ⟨_, rfl⟩
  rw [← hb.out]
  have HI : Hid (IsF w a len cap fs) := hI
  clear hI
  go_enter Try.func17, Try.ntmps17
  go_wp2
  go_loop [3] (fun i => ∃ k : Nat, k ≤ len ∧ i = .int .i64 (k : Int) ∧ Hid (∀ f ∈ fs.take k, ex f = false)) (fun i => len - (intOf i).toNat)
  case atStart => exact ⟨0, Nat.zero_le _, rfl, (fun f hf => by simp at hf)⟩
  case round =>
    obtain ⟨k, hk, rfl, HA⟩ := hrel
    by_cases hlt : k < len
    · have hlt' : (k : Int) < (len : Int) := by omega
      have hkl : k < fs.length := by rw [HI.out.hl]; exact hlt
      obtain ⟨g, off, rfl, hg, c0, c1, c2, c3⟩ := HI.out.rd.at hkl
      obtain ⟨x, hx⟩ : ∃ x, Hid (x = fs.getD k f0) := ⟨_, rfl⟩
      have HT : Hid (ex x = true → exact fs = k) := fun h => fst_at ex hkl HA.out (by rw [← hx.out]; exact h)
      have HN : Hid (ex x = false → ∀ f ∈ fs.take (k + 1), ex f = false) := fun h f hf => by
        rw [take_snocF fs k hkl, ← hx.out] at hf
        rcases List.mem_append.1 hf with hf | hf
        · exact HA.out f hf
        · simp at hf; subst hf; exact h
      rw [← hx.out] at c0 c1 c2 c3
      clear hkl hx
      obtain ⟨n, v, pp, tt⟩ := x
      simp only at c0 c1 c2 c3
      have e' := beq_eq v ⟨#[]⟩
      rw [Lib.toList_data, Lib.toList_data] at e'
      obtain ⟨d, hd⟩ : ∃ d, Hid (d = decide (v = ⟨#[]⟩)) := ⟨_, rfl⟩
      have hem : v.toList.isEmpty = d := by
        rw [hd.out, ← e', Lib.toList_data]; cases v.data.toList <;> rfl
      clear e'
      cases tt with
      | true =>
        go_wp2_with fail
        go_round
        case rel => exact ⟨k + 1, by omega, by go_num, HN.out (by simp [ex])⟩
        case measure => simp [intOf]; omega
      | false =>
        cases pp with
        | true =>
          go_wp2_with fail
          go_round
          case rel => exact ⟨k + 1, by omega, by go_num, HN.out (by simp [ex])⟩
          case measure => simp [intOf]; omega
        | false =>
          cases d with
          | true =>
            go_wp2_with fail
            go_round
            case rel => exact ⟨k + 1, by omega, by go_num, HN.out (by simp [ex, ← hd.out])⟩
            case measure => simp [intOf]; omega
          | false =>
            go_wp2_with fail
            go_ret
            exact ⟨ret_int (by rw [hb.out, HT.out (by simp [ex, ← hd.out])]), rfl⟩
    · have hlt' : ¬ (k : Int) < (len : Int) := by omega
      go_wp2_with fail
      go_ret
      refine ⟨ret_int ?_, rfl⟩
      have h := HA.out
      rw [List.take_of_length_le (by rw [HI.out.hl]; omega)] at h
      rw [hb.out, exact, fst_neg_eq ((fst_neg ex fs).2 h)]

set_option maxHeartbeats 3200000 in
theorem refcheck_any (a : Option Addr) (len cap : Nat) (fs : List Ft) (w : World) (hI : IsF w a len cap fs) (hwf : WfF fs) :
    Calls Try.prog 13 #[.slice a len cap] w fun e w' => e = .returned (.int .i64 (check fs)) ∧ w' = w := by
  have hm := hI.hm
  have hc := hI.hc
  unfold maxLen at hm
  obtain ⟨b, hb⟩ : ∃ b, Hid (b = check fs) := ⟨_, rfl⟩
  rw [← hb.out]
  have HI : Hid (IsF w a len cap fs ∧ WfF fs) := ⟨hI, hwf⟩
  clear hI hwf
  by_cases h4 : 4 < len
  · have h4' : (4 : Int) < (len : Int) := by omega
    go_enter Try.func13, Try.ntmps13
    go_wp2
    go_ret
    exact ⟨ret_int (by rw [hb.out, check, HI.out.1.hl, if_pos h4]), rfl⟩
  have h4' : ¬ (4 : Int) < (len : Int) := by omega
  go_enter Try.func13, Try.ntmps13
  go_wp2
  go_loop [3, 4] (fun i _ => ∃ k : Nat, k ≤ len ∧ i = .int .i64 (k : Int) ∧ Hid (∀ f ∈ fs.take k, bad f = false)) (fun i _ => len - (intOf i).toNat)
  case atStart => exact ⟨0, Nat.zero_le _, rfl, (fun f hf => by simp at hf)⟩
  case round =>
    obtain ⟨k, hk, rfl, HA⟩ := hrel
    by_cases hlt : k < len
    · have hlt' : (k : Int) < (len : Int) := by omega
      have hkl : k < fs.length := by rw [HI.out.1.hl]; exact hlt
      obtain ⟨g, off, rfl, hg, c0, c1, c2, c3⟩ := HI.out.1.rd.at hkl
      have hsz := HI.out.2 _ (getD_memF hkl)
      obtain ⟨x, hx⟩ : ∃ x, Hid (x = fs.getD k f0) := ⟨_, rfl⟩
      have HT : Hid (bad x = true → check fs = 80) := fun h => by
        have := fst_at bad hkl HA.out (by rw [← hx.out]; exact h)
        rw [check, HI.out.1.hl, if_neg h4, if_neg (by omega)]
      have HN : Hid (bad x = false → ∀ f ∈ fs.take (k + 1), bad f = false) := fun h f hf => by
        rw [take_snocF fs k hkl, ← hx.out] at hf
        rcases List.mem_append.1 hf with hf | hf
        · exact HA.out f hf
        · simp at hf; subst hf; exact h
      rw [← hx.out] at c0 c1 hsz
      clear hkl hx c2 c3
      obtain ⟨n, v, pp, tt⟩ := x
      obtain ⟨hn, hv⟩ := hsz
      simp only at c0 c1 hn hv
      have HC : Hid (∀ W, Calls Try.prog 23 #[.string n] W fun e w' => e = .returned (.bool (nm n)) ∧ w' = W) := fun W => refname_any n W hn
      unfold maxLen at hv
      obtain ⟨d, hd⟩ : ∃ d, Hid (d = nm n) := ⟨_, rfl⟩
      rw [← hd.out] at HC
      cases d with
      | true =>
        by_cases h : 16 < v.size
        · have h' : (16 : Int) < (v.size : Int) := by omega
          go_wp2_with (go_at_call 23; refine Calls.mono (HC.out _) ?_; rintro e w' ⟨rfl, rfl⟩)
          go_ret
          exact ⟨ret_int (by rw [hb.out, HT.out (by simp [bad, h])]), rfl⟩
        · have h' : ¬ (16 : Int) < (v.size : Int) := by omega
          go_wp2_with (go_at_call 23; refine Calls.mono (HC.out _) ?_; rintro e w' ⟨rfl, rfl⟩)
          go_round
          case rel => exact ⟨k + 1, by omega, by go_num, HN.out (by simp [bad, ← hd.out]; omega)⟩
          case measure => simp [intOf]; omega
      | false =>
        go_wp2_with (go_at_call 23; refine Calls.mono (HC.out _) ?_; rintro e w' ⟨rfl, rfl⟩)
        go_ret
        exact ⟨ret_int (by rw [hb.out, HT.out (by simp [bad, ← hd.out])]), rfl⟩
    · have hlt' : ¬ (k : Int) < (len : Int) := by omega
      go_wp2_with fail
      go_ret
      refine ⟨ret_int ?_, rfl⟩
      have h := HA.out
      rw [List.take_of_length_le (by rw [HI.out.1.hl]; omega)] at h
      rw [hb.out, check, HI.out.1.hl, if_neg h4, if_pos ((fst_neg bad fs).2 h)]
end Go.Proofs.Ytejdpelolihpeaa
