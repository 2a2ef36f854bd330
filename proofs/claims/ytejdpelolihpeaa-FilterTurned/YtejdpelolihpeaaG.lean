/- The contracts of first, of what is asked of filters, of All, Exact, Check. Conditions: those of each theorem. -/
import Derived.Test.YtejdpelolihpeaaF
namespace Go.Proofs.Ytejdpelolihpeaa
open Go.RowKit
theorem ret_int {k : IntKind} {a b : Int} (h : a = b) : Ending.returned (.int k a) = .returned (.int k b) := by rw [h]

set_option maxHeartbeats 1600000 in
theorem first_box (F : FuncId) (B : Nat) (p : Ft → Bool) (w0 : World) (hcf : ∀ (f : Ft) (W : World), Sem.run Try.prog (callFunc F #[.agg #[.string f.n, .string f.v, .bool f.p, .bool f.t], .pointer (some ⟨B, 0, none⟩)]) W = .ok (.enter F #[.agg #[.string f.n, .string f.v, .bool f.p, .bool f.t], .pointer (some ⟨B, 0, none⟩)]) W)
    (HF : ∀ (f : Ft) (W : World), Wf f → Below w0.heap.size w0 W → Calls Try.prog F #[.agg #[.string f.n, .string f.v, .bool f.p, .bool f.t], .pointer (some ⟨B, 0, none⟩)] W fun e w' => e = .returned (.bool (p f)) ∧ Below W.heap.size W w')
    (a : Option Addr) (len cap : Nat) (fs : List Ft) (w : World) (hb0 : Below w0.heap.size w0 w) (hI : IsF w a len cap fs) (hwf : WfF fs) :
    Calls Try.prog 21 #[.slice a len cap, .func (.func F) #[] #[.pointer (some ⟨B, 0, none⟩)]] w fun e w' => e = .returned (.int .i64 (fst p fs)) ∧ Below w.heap.size w w' := by
  have hm := hI.hm
  have hc := hI.hc
  unfold maxLen at hm
  obtain ⟨r, hr⟩ : ∃ r, Hid (r = fst p fs) := ⟨_, rfl⟩
  rw [← hr.out]
  have HI : Hid (IsF w a len cap fs ∧ WfF fs) := ⟨hI, hwf⟩
  have HF' : Hid _ := HF
  have H0 : Hid (Below w0.heap.size w0 w) := hb0
  clear hI hwf HF hb0
  go_enter Try.func21, Try.ntmps21
  go_wp2
  refine wp_scope_straight ?_
  go_wp2
  refine wp_label ?_
  go_wp2
  go_loopw [5, 6, 7, 10] (fun u _ _ i wr => u = .int .i64 (-1) ∧ ∃ k : Nat, k ≤ len ∧ i = .int .i64 (k : Int) ∧ Hid (∀ f ∈ fs.take k, p f = false) ∧ Below w.heap.size w wr) (fun _ _ _ i _ => len - (intOf i).toNat)
  case atStart => exact ⟨rfl, 0, Nat.zero_le _, rfl, (fun f hf => by simp at hf), Below.refl _ _⟩
  case round =>
    obtain ⟨rfl, k, hk, rfl, HA, hbw⟩ := hrel
    by_cases hlt : k < len
    · have hlt' : (k : Int) < (len : Int) := by omega
      have hkl : k < fs.length := by rw [HI.out.1.hl]; exact hlt
      obtain ⟨g, off, rfl, hg, c0, c1, c2, c3⟩ := (HI.out.1.rd.below hbw).at hkl
      have hw := HI.out.2 _ (getD_memF hkl)
      have HT : Hid (fs.take (k + 1) = fs.take k ++ [fs.getD k f0] ∧ (p (fs.getD k f0) = true → fst p fs = k)) := ⟨take_snocF fs k hkl, fun h => fst_at p hkl HA.out h⟩
      obtain ⟨x, hx⟩ : ∃ x, Hid (x = fs.getD k f0) := ⟨_, rfl⟩
      rw [← hx.out] at c0 c1 c2 c3 hw
      have HX : Hid (fs.take (k + 1) = fs.take k ++ [x] ∧ (p x = true → fst p fs = k)) := by rw [hx.out]; exact HT.out
      clear HT hx hkl
      have hbs := hbw.size
      have hcf' := hcf x
      have HC : Hid _ := HF'.out x
      have HW : Hid (Wf x) := hw
      clear hw
      obtain ⟨b, hb⟩ : ∃ b, Hid (b = p x) := ⟨_, rfl⟩
      rw [← hb.out] at HC HX
      obtain ⟨n, v, pp, tt⟩ := x
      simp only at c0 c1 c2 c3 hcf' HC
      go_wp2_with fail
      refine Calls.mono (HC.out _ HW.out (H0.out.trans ((hbw.alloc hbs _).mono H0.out.size))) ?_
      rintro e w2 ⟨rfl, hb2⟩
      have H2 : Hid (Below w.heap.size w w2) := (hbw.alloc hbs _).trans (hb2.mono (by simp; omega))
      clear hb2
      cases b with
      | true =>
        go_wp2_with fail
        rw [Exit.noGoto_ret]
        go_ret
        exact ⟨ret_int (by rw [hr.out, HX.out.2 trivial]), H2.out⟩
      | false =>
        go_wp2_with fail
        go_roundw
        case rel =>
          refine ⟨rfl, k + 1, by omega, by go_num, ?_, H2.out⟩
          show ∀ f ∈ fs.take (k + 1), p f = false
          rw [HX.out.1]
          intro f hf
          rcases List.mem_append.1 hf with hf | hf
          · exact HA.out f hf
          · simp at hf; subst hf; exact hb.out.symm
        case measure => simp [intOf]; omega
    · have hlt' : ¬ (k : Int) < (len : Int) := by omega
      go_wp2_with fail
      go_ret
      refine ⟨ret_int ?_, hbw⟩
      have h := HA.out
      rw [List.take_of_length_le (by rw [HI.out.1.hl]; omega)] at h
      rw [hr.out, fst_neg_eq ((fst_neg p fs).2 h)]

set_option maxHeartbeats 1600000 in
theorem first_plain (F : FuncId) (p : Ft → Bool) (w0 : World) (hcf : ∀ (f : Ft) (W : World), Sem.run Try.prog (callFunc F #[.agg #[.string f.n, .string f.v, .bool f.p, .bool f.t]]) W = .ok (.enter F #[.agg #[.string f.n, .string f.v, .bool f.p, .bool f.t]]) W)
    (HF : ∀ (f : Ft) (W : World), Wf f → Below w0.heap.size w0 W → Calls Try.prog F #[.agg #[.string f.n, .string f.v, .bool f.p, .bool f.t]] W fun e w' => e = .returned (.bool (p f)) ∧ Below W.heap.size W w')
    (a : Option Addr) (len cap : Nat) (fs : List Ft) (w : World) (hb0 : Below w0.heap.size w0 w) (hI : IsF w a len cap fs) (hwf : WfF fs) :
    Calls Try.prog 21 #[.slice a len cap, .func (.func F) #[] #[]] w fun e w' => e = .returned (.int .i64 (fst p fs)) ∧ Below w.heap.size w w' := by
  have hm := hI.hm
  have hc := hI.hc
  unfold maxLen at hm
  obtain ⟨r, hr⟩ : ∃ r, Hid (r = fst p fs) := ⟨_, rfl⟩
  rw [← hr.out]
  have HI : Hid (IsF w a len cap fs ∧ WfF fs) := ⟨hI, hwf⟩
  have HF' : Hid _ := HF
  have H0 : Hid (Below w0.heap.size w0 w) := hb0
  clear hI hwf HF hb0
  go_enter Try.func21, Try.ntmps21
  go_wp2
  refine wp_scope_straight ?_
  go_wp2
  refine wp_label ?_
  go_wp2
  go_loopw [5, 6, 7, 10] (fun u _ _ i wr => u = .int .i64 (-1) ∧ ∃ k : Nat, k ≤ len ∧ i = .int .i64 (k : Int) ∧ Hid (∀ f ∈ fs.take k, p f = false) ∧ Below w.heap.size w wr) (fun _ _ _ i _ => len - (intOf i).toNat)
  case atStart => exact ⟨rfl, 0, Nat.zero_le _, rfl, (fun f hf => by simp at hf), Below.refl _ _⟩
  case round =>
    obtain ⟨rfl, k, hk, rfl, HA, hbw⟩ := hrel
    by_cases hlt : k < len
    · have hlt' : (k : Int) < (len : Int) := by omega
      have hkl : k < fs.length := by rw [HI.out.1.hl]; exact hlt
      obtain ⟨g, off, rfl, hg, c0, c1, c2, c3⟩ := (HI.out.1.rd.below hbw).at hkl
      have hw := HI.out.2 _ (getD_memF hkl)
      have HT : Hid (fs.take (k + 1) = fs.take k ++ [fs.getD k f0] ∧ (p (fs.getD k f0) = true → fst p fs = k)) := ⟨take_snocF fs k hkl, fun h => fst_at p hkl HA.out h⟩
      obtain ⟨x, hx⟩ : ∃ x, Hid (x = fs.getD k f0) := ⟨_, rfl⟩
      rw [← hx.out] at c0 c1 c2 c3 hw
      have HX : Hid (fs.take (k + 1) = fs.take k ++ [x] ∧ (p x = true → fst p fs = k)) := by rw [hx.out]; exact HT.out
      clear HT hx hkl
      have hbs := hbw.size
      have hcf' := hcf x
      have HC : Hid _ := HF'.out x
      have HW : Hid (Wf x) := hw
      clear hw
      obtain ⟨b, hb⟩ : ∃ b, Hid (b = p x) := ⟨_, rfl⟩
      rw [← hb.out] at HC HX
      obtain ⟨n, v, pp, tt⟩ := x
      simp only at c0 c1 c2 c3 hcf' HC
      go_wp2_with fail
      refine Calls.mono (HC.out _ HW.out (H0.out.trans ((hbw.alloc hbs _).mono H0.out.size))) ?_
      rintro e w2 ⟨rfl, hb2⟩
      have H2 : Hid (Below w.heap.size w w2) := (hbw.alloc hbs _).trans (hb2.mono (by simp; omega))
      clear hb2
      cases b with
      | true =>
        go_wp2_with fail
        rw [Exit.noGoto_ret]
        go_ret
        exact ⟨ret_int (by rw [hr.out, HX.out.2 trivial]), H2.out⟩
      | false =>
        go_wp2_with fail
        go_roundw
        case rel =>
          refine ⟨rfl, k + 1, by omega, by go_num, ?_, H2.out⟩
          show ∀ f ∈ fs.take (k + 1), p f = false
          rw [HX.out.1]
          intro f hf
          rcases List.mem_append.1 hf with hf | hf
          · exact HA.out f hf
          · simp at hf; subst hf; exact hb.out.symm
        case measure => simp [intOf]; omega
    · have hlt' : ¬ (k : Int) < (len : Int) := by omega
      go_wp2_with fail
      go_ret
      refine ⟨ret_int ?_, hbw⟩
      have h := HA.out
      rw [List.take_of_length_le (by rw [HI.out.1.hl]; omega)] at h
      rw [hr.out, fst_neg_eq ((fst_neg p fs).2 h)]

theorem boxed_f (w : World) (f : Ft) : Bx (w.alloc (.cells #[.string f.n, .string f.v, .bool f.p, .bool f.t] 28)) w.heap.size f := ⟨by simp, by simp [At]⟩
set_option maxHeartbeats 800000 in
theorem mayNot_any (f : Ft) (w : World) (hw : Wf f) : Calls Try.prog 22 #[.agg #[.string f.n, .string f.v, .bool f.p, .bool f.t]] w fun e w' => e = .returned (.bool (bad f)) ∧ Below w.heap.size w w' := by
  obtain ⟨n, v, p, t⟩ := f
  obtain ⟨hn, hv⟩ := hw
  simp only at hn hv ⊢
  obtain ⟨r, hr⟩ : ∃ r, Hid (r = bad ⟨n, v, p, t⟩) := ⟨_, rfl⟩
  rw [← hr.out]
  unfold maxLen at hv
  have HN : Hid (∀ W, Calls Try.prog 31 #[.string n] W fun e w' => e = .returned (.bool (nm n)) ∧ w' = W) := fun W => name_any n W hn
  obtain ⟨b, hb⟩ : ∃ b, Hid (b = nm n) := ⟨_, rfl⟩
  rw [← hb.out] at HN
  cases b with
  | true =>
    by_cases h : 16 < v.size
    · have h' : (16 : Int) < (v.size : Int) := by omega
      go_enter Try.func22, Try.ntmps22
      go_wp2_with (go_at_call 31; refine Calls.mono (HN.out _) ?_; rintro e w' ⟨rfl, rfl⟩)
      go_ret
      exact ⟨ret_bool (by rw [hr.out, bad]; simp [h]), (Below.refl _ _).alloc (Nat.le_refl _) _⟩
    · have h' : ¬ (16 : Int) < (v.size : Int) := by omega
      go_enter Try.func22, Try.ntmps22
      go_wp2_with (go_at_call 31; refine Calls.mono (HN.out _) ?_; rintro e w' ⟨rfl, rfl⟩)
      go_ret
      exact ⟨ret_bool (by rw [hr.out, bad]; simp [← hb.out]; omega), (Below.refl _ _).alloc (Nat.le_refl _) _⟩
  | false =>
    go_enter Try.func22, Try.ntmps22
    go_wp2_with (go_at_call 31; refine Calls.mono (HN.out _) ?_; rintro e w' ⟨rfl, rfl⟩)
    go_ret
    exact ⟨ret_bool (by rw [hr.out, bad]; simp [← hb.out]), (Below.refl _ _).alloc (Nat.le_refl _) _⟩
set_option maxHeartbeats 800000 in
theorem asksOne_any (f : Ft) (w : World) : Calls Try.prog 25 #[.agg #[.string f.n, .string f.v, .bool f.p, .bool f.t]] w fun e w' => e = .returned (.bool (ex f)) ∧ Below w.heap.size w w' := by
  obtain ⟨n, v, p, t⟩ := f
  simp only
  obtain ⟨r, hr⟩ : ∃ r, Hid (r = ex ⟨n, v, p, t⟩) := ⟨_, rfl⟩
  rw [← hr.out]
  have e' := beq_eq v ⟨#[]⟩
  obtain ⟨b, hb⟩ : ∃ b, Hid (b = decide (v = ⟨#[]⟩)) := ⟨_, rfl⟩
  rw [← hb.out] at e'
  cases t with
  | true =>
    go_enter Try.func25, Try.ntmps25
    go_wp2
    go_ret
    exact ⟨ret_bool (by rw [hr.out, ex]; simp), (Below.refl _ _).alloc (Nat.le_refl _) _⟩
  | false =>
    cases p with
    | true =>
      go_enter Try.func25, Try.ntmps25
      go_wp2
      go_ret
      exact ⟨ret_bool (by rw [hr.out, ex]; simp), (Below.refl _ _).alloc (Nat.le_refl _) _⟩
    | false =>
      go_enter Try.func25, Try.ntmps25
      go_wp2
      go_ret
      exact ⟨ret_bool (by rw [hr.out, ex, ← hb.out]; simp; rw [← e', Lib.toList_data, Lib.toList_data]; cases v.data.toList <;> rfl), (Below.refl _ _).alloc (Nat.le_refl _) _⟩
theorem cf22 (f : Ft) (w : World) : Sem.run Try.prog (callFunc 22 #[.agg #[.string f.n, .string f.v, .bool f.p, .bool f.t]]) w = .ok (.enter 22 #[.agg #[.string f.n, .string f.v, .bool f.p, .bool f.t]]) w := by simp [go_sem]
theorem cf25 (f : Ft) (w : World) : Sem.run Try.prog (callFunc 25 #[.agg #[.string f.n, .string f.v, .bool f.p, .bool f.t]]) w = .ok (.enter 25 #[.agg #[.string f.n, .string f.v, .bool f.p, .bool f.t]]) w := by simp [go_sem]
theorem cf24 (f : Ft) (B : Nat) (w : World) : Sem.run Try.prog (callFunc 24 #[.agg #[.string f.n, .string f.v, .bool f.p, .bool f.t], .pointer (some ⟨B, 0, none⟩)]) w = .ok (.enter 24 #[.agg #[.string f.n, .string f.v, .bool f.p, .bool f.t], .pointer (some ⟨B, 0, none⟩)]) w := by simp [go_sem]
set_option maxHeartbeats 800000 in
theorem exact_any (a : Option Addr) (len cap : Nat) (fs : List Ft) (w : World) (hI : IsF w a len cap fs) (hwf : WfF fs) :
    Calls Try.prog 16 #[.slice a len cap] w fun e w' => e = .returned (.int .i64 (exact fs)) ∧ Below w.heap.size w w' := by
  have H : Hid _ := first_plain 25 ex w cf25 (fun f W _ _ => asksOne_any f W) a len cap fs w (Below.refl _ _) hI hwf
  rw [show fst ex fs = exact fs from rfl] at H
  generalize exact fs = r at *
  clear hI hwf
  go_enter Try.func16, Try.ntmps16
  go_wp2_with fail
  refine Calls.mono H.out ?_
  rintro e w2 ⟨rfl, hb⟩
  go_wp2
  go_ret
  exact ⟨rfl, hb⟩
set_option maxHeartbeats 800000 in
theorem check_any (a : Option Addr) (len cap : Nat) (fs : List Ft) (w : World) (hI : IsF w a len cap fs) (hwf : WfF fs) :
    Calls Try.prog 12 #[.slice a len cap] w fun e w' => e = .returned (.int .i64 (check fs)) ∧ Below w.heap.size w w' := by
  have hm := hI.hm
  have hc := hI.hc
  unfold maxLen at hm
  have hl : Hid (fs.length = len) := hI.hl
  have H : Hid (Calls Try.prog 21 #[.slice a len cap, .func (.func 22) #[] #[]] w fun e w' => e = .returned (.int .i64 (fst bad fs)) ∧ Below w.heap.size w w') := first_plain 22 bad w cf22 (fun f W h _ => mayNot_any f W h) a len cap fs w (Below.refl _ _) hI hwf
  clear hI hwf
  obtain ⟨c, hcc⟩ : ∃ c, Hid (c = check fs) := ⟨_, rfl⟩
  rw [← hcc.out]
  by_cases h4 : 4 < len
  · have h4' : (4 : Int) < (len : Int) := by omega
    go_enter Try.func12, Try.ntmps12
    go_wp2
    go_ret
    exact ⟨ret_int (by rw [hcc.out, check, hl.out, if_pos h4]), Below.refl _ _⟩
  · have h4' : ¬ (4 : Int) < (len : Int) := by omega
    obtain ⟨r, hr⟩ : ∃ r, Hid (r = fst bad fs) := ⟨_, rfl⟩
    rw [← hr.out] at H
    by_cases h0 : 0 ≤ r
    · go_enter Try.func12, Try.ntmps12
      go_wp2_with fail
      refine Calls.mono H.out ?_
      rintro e w2 ⟨rfl, hb⟩
      go_wp2
      go_ret
      exact ⟨ret_int (by rw [hcc.out, check, hl.out, if_neg h4, if_neg (by rw [← hr.out]; omega)]), hb⟩
    · go_enter Try.func12, Try.ntmps12
      go_wp2_with fail
      refine Calls.mono H.out ?_
      rintro e w2 ⟨rfl, hb⟩
      go_wp2
      go_ret
      exact ⟨ret_int (by rw [hcc.out, check, hl.out, if_neg h4, if_pos (by rw [← hr.out]; omega)]), hb⟩
set_option maxHeartbeats 800000 in
theorem allOne_any (f : Ft) (B : Nat) (sa : Option Addr) (len cap : Nat) (ls : List Lb) (w : World) (hc : w.cell? ⟨B, 0, none⟩ = some (.slice sa len cap)) (hB : B < w.heap.size) (hI : IsL w sa len cap ls) :
    Calls Try.prog 24 #[.agg #[.string f.n, .string f.v, .bool f.p, .bool f.t], .pointer (some ⟨B, 0, none⟩)] w fun e w' => e = .returned (.bool (!one f ls)) ∧ Below w.heap.size w w' := by
  have hbx : Below w.heap.size w (w.alloc (.cells #[.string f.n, .string f.v, .bool f.p, .bool f.t] 28)) := (Below.refl _ _).alloc (Nat.le_refl _) _
  have H : Hid (Calls Try.prog 10 #[.agg #[.string f.n, .string f.v, .bool f.p, .bool f.t], .slice sa len cap] (w.alloc (.cells #[.string f.n, .string f.v, .bool f.p, .bool f.t] 28)) fun e w' => e = .returned (.bool (one f ls)) ∧ Below w.heap.size w w') := (one_any f sa len cap ls _ (hI.below hbx)).mono fun e w' h => ⟨h.1, hbx.trans (h.2.mono hbx.size)⟩
  clear hbx hI
  generalize one f ls = r at *
  obtain ⟨n, v, p, t⟩ := f
  simp only at *
  have hc' : (w.alloc (.cells #[.string n, .string v, .bool p, .bool t] 28)).cell? ⟨B, 0, none⟩ = some (.slice sa len cap) := by rw [World.cell?_alloc_past _ _ _ hB]; exact hc
  clear hc
  go_enter Try.func24, Try.ntmps24
  go_wp2_with fail
  refine Calls.mono H.out ?_
  rintro e w2 ⟨rfl, hb⟩
  go_wp2
  go_ret
  exact ⟨rfl, hb⟩
theorem fst_all (fs : List Ft) (ls : List Lb) : decide (fst (fun f => !one f ls) fs < 0) = all fs ls := by
  rw [Bool.eq_iff_iff, decide_eq_true_eq, fst_neg, all, List.all_eq_true]
  simp
set_option maxHeartbeats 800000 in
theorem all_any (a : Option Addr) (len cap : Nat) (fs : List Ft) (sa : Option Addr) (sl sc : Nat) (ls : List Lb) (w : World) (hI : IsF w a len cap fs) (hwf : WfF fs) (hL : IsL w sa sl sc ls) :
    Calls Try.prog 14 #[.slice a len cap, .slice sa sl sc] w fun e w' => e = .returned (.bool (all fs ls)) ∧ Below w.heap.size w w' := by
  have hbx : Below w.heap.size w (w.alloc (.cells #[.slice sa sl sc] 23)) := (Below.refl _ _).alloc (Nat.le_refl _) _
  have hc : (w.alloc (.cells #[.slice sa sl sc] 23)).cell? ⟨w.heap.size, 0, none⟩ = some (.slice sa sl sc) := by simp
  have hB : w.heap.size < (w.alloc (.cells #[.slice sa sl sc] 23)).heap.size := by simp
  have H : Hid (Calls Try.prog 21 #[.slice a len cap, .func (.func 24) #[] #[.pointer (some ⟨w.heap.size, 0, none⟩)]] (w.alloc (.cells #[.slice sa sl sc] 23)) fun e w' => e = .returned (.int .i64 (fst (fun f => !one f ls) fs)) ∧ Below w.heap.size w w') :=
    (first_box 24 w.heap.size (fun f => !one f ls) (w.alloc (.cells #[.slice sa sl sc] 23)) (fun f W => cf24 f _ W) (fun f W _ hW => allOne_any f w.heap.size sa sl sc ls W ((hW.cell (p := ⟨w.heap.size, 0, none⟩) hB).trans hc) (Nat.lt_of_lt_of_le hB hW.size) ((hL.below hbx).below hW)) a len cap fs (w.alloc (.cells #[.slice sa sl sc] 23)) (Below.refl _ _) (hI.below hbx) hwf).mono fun e w' h => ⟨h.1, hbx.trans (h.2.mono hbx.size)⟩
  have HA := fst_all fs ls
  generalize fst (fun f => !one f ls) fs = r at *
  obtain ⟨b, hb⟩ : ∃ b, Hid (b = all fs ls) := ⟨_, rfl⟩
  rw [← hb.out] at HA ⊢
  clear hbx hc hB hI hwf hL
  go_enter Try.func14, Try.ntmps14
  go_wp2_with fail
  refine Calls.mono H.out ?_
  rintro e w2 ⟨rfl, hb2⟩
  go_wp2
  go_ret
  exact ⟨rfl, hb2⟩
end Go.Proofs.Ytejdpelolihpeaa
