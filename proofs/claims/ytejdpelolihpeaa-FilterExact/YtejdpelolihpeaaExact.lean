/- For every rows of filters and labels: an exact filter's labels have that value, and behind it in the row an exact one plays no part: FilterExact returns true, and its arguments read as before. No conditions. -/
import Derived.Test.YtejdpelolihpeaaS
import Derived.Test.YtejdpelolihpeaaP
import Derived.Laws.Cover1
namespace Go.Proofs.Ytejdpelolihpeaa
open Go.ChangeShapes Go.WideShapes Go.ChangeAt Go.RowKit Go.Lib
open Go.ChangeMaps (open_string shut_string)

def hit (f : Ft) (x : Lb) : Bool := decide (x.1 = f.n) && decide (x.2 = f.v)
theorem get_hit (f : Ft) (hv : ¬ f.v = ⟨#[]⟩) : ∀ ls : List Lb, get ls f.n = f.v → ls.any (hit f) = true
  | [], h => absurd h.symm hv
  | x :: r, h => by
    have ih := get_hit f hv r
    simp only [get] at h
    rw [List.any_cons]
    split at h
    · rename_i h1; simp [hit, h1, h]
    · rw [ih h]; simp
theorem exact_x (fs : List Ft) (h : exact fs < 0) : exact (fs ++ [⟨sJob, sX, false, false⟩]) = fs.length := by
  have h1 := (fst_neg ex fs).1 h
  rw [exact, fst_app ex _ fs h1]
  have e : fst ex [⟨sJob, sX, false, false⟩] = 0 := by decide +kernel
  rw [e]; simp
theorem exact_at {fs : List Ft} {k : Nat} (h : exact fs = k) : k < fs.length ∧ (∀ f ∈ fs.take k, ex f = false) ∧ ex (fs.getD k f0) = true := by
  have hb := (fst_bd ex fs).2
  rw [show fst ex fs = exact fs from rfl, h] at hb
  have hk : k < fs.length := by omega
  induction fs generalizing k with
  | nil => simp at hk
  | cons f r ih =>
    simp only [exact, fst] at h
    by_cases hf : ex f = true
    · rw [if_pos hf] at h
      obtain rfl : k = 0 := by omega
      exact ⟨hk, fun x hx => by simp at hx, by simpa using hf⟩
    · rw [if_neg hf] at h
      split at h
      · omega
      · have hb' := fst_bd ex r
        obtain ⟨j, rfl⟩ : ∃ j, k = j + 1 := ⟨k - 1, by omega⟩
        have hj : exact r = (j : Int) := by show fst ex r = _; omega
        simp only [List.length_cons] at hk
        obtain ⟨_, h2, h3⟩ := ih hj (by omega) (by omega)
        refine ⟨by simpa using hk, fun x hx => ?_, by simpa using h3⟩
        simp only [List.take_succ_cons, List.mem_cons] at hx
        rcases hx with rfl | hx
        · simpa using hf
        · exact h2 x hx
theorem exact_take {fs : List Ft} {k : Nat} (h : exact fs = k) : exact (fs.take k) = -1 := by
  have := exact_at h
  exact fst_neg_eq ((fst_neg ex _).2 this.2.1)
theorem exact_drop {fs : List Ft} {k : Nat} (h : exact fs = k) : exact (fs.drop k) = 0 := by
  have h1 := exact_at h
  rw [drop_consF fs k h1.1, exact, fst, if_pos h1.2.2]
theorem exact_has {fs : List Ft} {k : Nat} (h : exact fs = k) {ls : List Lb} (ha : all fs ls = true) : ls.any (hit (fs.getD k f0)) = true := by
  have h1 := exact_at h
  have h2 := h1.2.2
  simp only [ex, Bool.and_eq_true, Bool.not_eq_true', decide_eq_false_iff_not] at h2
  have h3 : one (fs.getD k f0) ls = true := by
    rw [all, List.all_eq_true] at ha
    exact ha _ (getD_memF h1.1)
  refine get_hit _ h2.2 ls ?_
  generalize fs.getD k f0 = x at *
  simpa [one, asks, h2.1.1, h2.1.2] using h3
theorem isF_take {w : World} {a : Option Addr} {len cap : Nat} {fs : List Ft} (h : IsF w a len cap fs) {k : Nat} (hk : k ≤ len) : IsF w a k cap (fs.take k) :=
  ⟨by rw [List.length_take, h.hl]; omega, by have := h.hc; omega, h.hm, h.rd.take k, h.nil⟩
theorem isF_drop {w : World} {g off len cap : Nat} {fs : List Ft} (h : IsF w (some ⟨g, off, none⟩) len cap fs) {k : Nat} (hk : k ≤ len) : IsF w (if cap = k then some ⟨g, off, none⟩ else some ⟨g, off + k * 4, none⟩) (len - k) (cap - k) (fs.drop k) :=
  ⟨by rw [List.length_drop, h.hl], by have := h.hc; omega, by have := h.hm; omega, h.rd.drop h.hl h.hc hk, fun e => by split at e <;> cases e⟩

set_option maxRecDepth 20000 in
set_option maxHeartbeats 8000000 in
theorem filterExact_walk (a : Option Addr) (len cap : Nat) (fs : List Ft) {w0 : World} (hF : IsF w0 a len cap fs) (wf : WfF fs) (sa : Option Addr) (sl sc : Nat) (ls : List Lb) (hL : IsL w0 sa sl sc ls) (wl : WfL ls) {w : World} (hw : w = w0) :
    Calls Try.prog 6 #[.slice a len cap, .slice sa sl sc] w fun r w' => r = .returned (.bool true) ∧ Below w.heap.size w w' := by
  subst hw
  have hm := hF.hm
  have hcp := hF.hc
  unfold maxLen at hm
  have HI : Hid ((IsF w a len cap fs ∧ WfF fs) ∧ IsL w sa sl sc ls ∧ WfL ls) := ⟨⟨hF, wf⟩, hL, wl⟩
  clear hF wf hL wl
  go_enter Try.func6, Try.ntmps6
  go_wp2_with fail
  refine (awake_any _).mono ?_
  rintro e w1 ⟨rfl, b1⟩
  have H1 : Hid (IsF w1 a len cap fs ∧ IsL w1 sa sl sc ls ∧ Below w.heap.size w w1) := ⟨HI.out.1.1.below b1, HI.out.2.1.below b1, b1⟩
  clear b1
  go_wp2_with fail
  refine (few_any a len cap fs sa sl sc ls w1 H1.out.1 HI.out.1.2 H1.out.2.1 HI.out.2.2).mono ?_
  rintro e w' ⟨rfl, hw'⟩; rw [hw']; clear hw' w'
  obtain ⟨f1, hf1⟩ : ∃ f, Hid (f = few fs ls) := ⟨_, rfl⟩
  rw [← hf1.out]
  cases f1 with
  | false =>
    go_wp2_with fail
    go_ret
    exact ⟨rfl, H1.out.2.2⟩
  | true =>
    have h10 := few_spec hf1.out.symm
    rw [HI.out.1.1.hl, HI.out.2.1.hl] at h10
    obtain ⟨h10, h10l⟩ := h10
    clear hf1
    go_wp2_with fail
    refine (exact_any a len cap fs w1 H1.out.1 HI.out.1.2).mono ?_
    rintro e w3 ⟨rfl, hb3⟩
    have H3 : Hid (IsF w3 a len cap fs ∧ IsL w3 sa sl sc ls ∧ Below w.heap.size w w3) := ⟨H1.out.1.below hb3, H1.out.2.1.below hb3, H1.out.2.2.trans (hb3.mono H1.out.2.2.size)⟩
    clear hb3
    obtain ⟨xk, hxk⟩ : ∃ x, Hid (x = exact fs) := ⟨_, rfl⟩
    have hbd := fst_bd ex fs
    rw [show fst ex fs = xk from hxk.out.symm, HI.out.1.1.hl] at hbd
    rw [← hxk.out]
    obtain ⟨hb1, hb2⟩ := hbd
    have hn1 : ¬ xk < -1 := by omega
    have hn2 : ¬ (len : Int) ≤ xk := by omega
    by_cases hneg : xk < 0
    · have HN : Hid (exact (fs ++ [⟨sJob, sX, false, false⟩]) = len) := by
        show _ = _
        rw [exact_x fs (by rw [← hxk.out]; exact hneg), HI.out.1.1.hl]
      clear hb1 hb2
      go_wp2_with fail
      have HX : Hid (Bx (w3.alloc (.cells #[.string sJob, .string sX, .bool false, .bool false] 28)) w3.heap.size ⟨sJob, sX, false, false⟩) := boxed_f w3 ⟨sJob, sX, false, false⟩
      have hbx : Below w3.heap.size w3 (w3.alloc (.cells #[.string sJob, .string sX, .bool false, .bool false] 28)) := (Below.refl _ _).alloc (Nat.le_refl _) _
      have HB : Hid (Below w.heap.size w (w3.alloc (.cells #[.string sJob, .string sX, .bool false, .bool false] 28))) := H3.out.2.2.trans (hbx.mono H3.out.2.2.size)
      have HF0 : Hid (IsF (w3.alloc (.cells #[.string sJob, .string sX, .bool false, .bool false] 28)) a len cap fs) := H3.out.1.below hbx
      clear hbx
      obtain ⟨i0, hi, hz0, hz1, hz2⟩ := info_parts Try.info28
      obtain ⟨W0, hW0⟩ : ∃ W, Hid (W = w3.alloc (.cells #[.string sJob, .string sX, .bool false, .bool false] 28)) := ⟨_, rfl⟩
      rw [← hW0.out] at HX HB HF0 ⊢
      have hsz : W0.heap.size = w3.heap.size + 1 := by rw [hW0.out]; simp
      clear hW0
      have HWf : Hid (WfF (fs ++ [⟨sJob, sX, false, false⟩])) := fun x hx => by
        rcases List.mem_append.1 hx with hx | hx
        · exact HI.out.1.2 x hx
        · simp at hx; subst hx; unfold Wf maxLen; decide
      refine wp_region_A (G := (Gr W0.heap.size 28 4 len 1 (clf [⟨sJob, sX, false, false⟩]))) (by kernel_rfl) (by kernel_rfl) W0.heap.size (fun _ _ h => h.bl) [⟨fun v W => ∃ g, v = .slice (some ⟨g, 0, none⟩) 0 0 ∧ W.ownsRow W0.heap.size 28 4 v 0 [], fun _ _ _ ⟨g, h1, h2⟩ hg => ⟨g, h1, own_gr h2 hg (.inl (Nat.zero_le _))⟩⟩, .eq _ (.slice a len cap), ⟨fun v W => W.ownsRow W0.heap.size 28 4 v len (clf fs), fun _ _ _ h hg => own_gr h hg (.inl (Nat.le_refl _))⟩, .eq _ (.agg #[.string (⟨sJob, sX, false, false⟩ : Ft).n, .string (⟨sJob, sX, false, false⟩ : Ft).v, .bool (⟨sJob, sX, false, false⟩ : Ft).p, .bool (⟨sJob, sX, false, false⟩ : Ft).t]), ⟨fun v W => ∃ g, v = .slice (some ⟨g, 0, none⟩) 1 1 ∧ W.heap[g]? = some (.cells (clf [⟨sJob, sX, false, false⟩]).toArray 28 (0, 0)), fun _ _ _ ⟨g, h1, h2⟩ hg => ⟨g, h1, four_gr (by rfl) h2 hg⟩⟩, ⟨fun v W => W.ownsRow W0.heap.size 28 4 v (len + 1) (clf (fs ++ [⟨sJob, sX, false, false⟩])), fun _ _ _ h hg => own_gr h hg (.inr ⟨rfl, by rw [clf_append, List.drop_left' (by rw [clf_len, HI.out.1.1.hl])]⟩)⟩, .eq _ (.int .i64 (len : Int)), .eq _ (.slice a len cap), .eq _ (.int .i64 (len : Int)), .eq _ (.bool true), .eq _ (.bool true)] W0 (Below.refl _ _) (allA_cons ?_ (allA_cons ?_ (allA_cons ?_ (allA_cons ?_ (allA_cons ?_ (allA_cons ?_ (allA_cons ?_ (allA_cons ?_ (allA_cons ?_ (allA_cons ?_ (allA_cons ?_ allA_nil))))))))))) ?_
      · intro ac wx hS hb hf
        rw [if_pos (wanted_none rfl)]
        have hsw : W0.heap.size ≤ wx.heap.size := hS.size
        refine does_val (v := .slice (some ⟨wx.heap.size, 0, none⟩) 0 0) (w' := wx.alloc (.cells #[] 28)) ?_ ⟨⟨_, rfl, own_empty28 wx _ hsw⟩, Gr.of ((Below.refl _ _).alloc (Nat.le_refl _) _) hsw⟩
        simp [execOp, go_sem]
      · intro ac wx hS hb hf
        rw [if_pos (wanted_none rfl)]
        have s0 : ac.eval (.tmp 0) = .slice a len cap := (hf 0 (by kernel_rfl)).trans rfl
        have t0 := (ev_tmp ac 0).symm.trans s0
        refine does_val (v := .slice a len cap) (w' := wx) ?_ ⟨rfl, Gr.refl⟩
        simp [execOp, go_sem, t0]
      · intro ac wx hS hb hf
        rw [if_pos (wanted_none rfl)]
        have hsw : W0.heap.size ≤ wx.heap.size := hS.size
        obtain ⟨g0, e0, o0⟩ : ∃ g, ac.eval (.tmp 32) = .slice (some ⟨g, 0, none⟩) 0 0 ∧ wx.ownsRow W0.heap.size 28 4 (ac.eval (.tmp 32)) 0 [] := slot hb 0 0 32 rfl rfl
        have s1 : ac.eval (.tmp 33) = .slice a len cap := slot hb 1 1 33 rfl rfl
        rw [e0] at o0
        obtain ⟨v2, w2, hr, ho2, hb2⟩ := append_empty (P := Try.prog) 22 22 i0 _ 40 Try.underlying22 hi hz0 hz1 hz2 rfl g0 o0 _ len cap (clf fs) (by rw [clf_len, HI.out.1.1.hl]) HF0.out.none (rdF_news (HF0.out.below hS).rd) (clf_one _) (by unfold maxLen; omega) (by omega) hsw
        exact does_val (exec_append rfl e0 s1 hr) ⟨ho2, Gr.of hb2 hsw⟩
      · intro ac wx hS hb hf
        rw [if_pos (wanted_none rfl)]
        have s8 : ac.eval (.tmp 8) = .pointer (some ⟨w3.heap.size, 0, none⟩) := (hf 8 (by kernel_rfl)).trans rfl
        have t8 := (ev_tmp ac 8).symm.trans s8
        obtain ⟨_, d0, d1, d2, d3⟩ := HX.out.below hS
        simp only [Nat.zero_add] at d1 d2 d3
        refine does_val (v := .agg #[.string (⟨sJob, sX, false, false⟩ : Ft).n, .string (⟨sJob, sX, false, false⟩ : Ft).v, .bool (⟨sJob, sX, false, false⟩ : Ft).p, .bool (⟨sJob, sX, false, false⟩ : Ft).t]) (w' := wx) ?_ ⟨rfl, Gr.refl⟩
        simp [execOp, go_sem, t8, d0, d1, d2, d3]
      · intro ac wx hS hb hf
        rw [if_pos (wanted_none rfl)]
        have hsw : W0.heap.size ≤ wx.heap.size := hS.size
        have s3 : ac.eval (.tmp 35) = .agg #[.string (⟨sJob, sX, false, false⟩ : Ft).n, .string (⟨sJob, sX, false, false⟩ : Ft).v, .bool (⟨sJob, sX, false, false⟩ : Ft).p, .bool (⟨sJob, sX, false, false⟩ : Ft).t] := slot hb 0 3 35 rfl rfl
        have t3 := (ev_tmp ac 35).symm.trans s3
        refine does_val (v := .slice (some ⟨wx.heap.size, 0, none⟩) 1 1) (w' := wx.alloc (.cells (clf [⟨sJob, sX, false, false⟩]).toArray 28)) ?_ ⟨⟨_, rfl, heap_alloc_new wx _⟩, Gr.of ((Below.refl _ _).alloc (Nat.le_refl _) _) hsw⟩
        simp [execOp, go_sem, t3, clf]
      · intro ac wx hS hb hf
        rw [if_pos (wanted_none rfl)]
        have hsw : W0.heap.size ≤ wx.heap.size := hS.size
        have o2 : wx.ownsRow W0.heap.size 28 4 (ac.eval (.tmp 34)) len (clf fs) := slot hb 0 2 34 rfl rfl
        obtain ⟨g4, e4, h4⟩ : ∃ g, ac.eval (.tmp 36) = .slice (some ⟨g, 0, none⟩) 1 1 ∧ wx.heap[g]? = some (.cells (clf [⟨sJob, sX, false, false⟩]).toArray 28 (0, 0)) := slot hb 1 4 36 rfl rfl
        have hnw : ∀ j u, (clf [⟨sJob, sX, false, false⟩])[j]? = some u → wx.cell? ((⟨g4, 0, none⟩ : Addr).add j) = some u := fun j u hu => news_at h4 j u hu
        obtain ⟨v5, w5, hr, ho5, hg5⟩ := append_gr (P := Try.prog) (n := len) (m := 1) 22 22 i0 _ 40 Try.underlying22 hi hz0 hz1 hz2 rfl _ (clf fs) o2 ⟨g4, 0, none⟩ 1 (by rfl) hnw (clf_one _) (by decide) (by unfold maxLen; omega) (by omega) hsw
        rw [← clf_append] at ho5
        exact does_val (exec_append rfl rfl e4 hr) ⟨ho5, hg5⟩
      · intro ac wx hS hb hf
        rw [if_pos (wanted_none rfl)]
        have hsw : W0.heap.size ≤ wx.heap.size := hS.size
        have o5 : wx.ownsRow W0.heap.size 28 4 (ac.eval (.tmp 37)) (len + 1) (clf (fs ++ [⟨sJob, sX, false, false⟩])) := slot hb 0 5 37 rfl rfl
        obtain ⟨a5, c5, e5, hI5⟩ := own_isF o5
        have t5 := (ev_tmp ac 37).symm.trans e5
        refine does_call (f := 16) (args := #[.slice a5 (len + 1) c5]) (w' := wx) (by simp [go_sem, t5]) ?_
        refine Calls.mono (exact_any a5 (len + 1) c5 _ wx hI5 HWf.out) ?_
        rintro r' w' ⟨rfl, hb'⟩
        exact ⟨_, rfl, congrArg (Value.int .i64) HN.out, Gr.of hb' hsw⟩
      · intro ac wx hS hb hf
        rw [if_pos (wanted_none rfl)]
        have s0 : ac.eval (.tmp 0) = .slice a len cap := (hf 0 (by kernel_rfl)).trans rfl
        have t0 := (ev_tmp ac 0).symm.trans s0
        refine does_val (v := .slice a len cap) (w' := wx) ?_ ⟨rfl, Gr.refl⟩
        simp [execOp, go_sem, t0]
      · intro ac wx hS hb hf
        rw [if_pos (wanted_none rfl)]
        have s7 : ac.eval (.tmp 39) = .slice a len cap := slot hb 0 7 39 rfl rfl
        have t7 := (ev_tmp ac 39).symm.trans s7
        refine does_val (v := .int .i64 (len : Int)) (w' := wx) ?_ ⟨rfl, Gr.refl⟩
        simp [go_sem, t7]
      · intro ac wx hS hb hf
        rw [if_pos (wanted_none rfl)]
        have s6 : ac.eval (.tmp 38) = .int .i64 (len : Int) := slot hb 0 6 38 rfl rfl
        have s8 : ac.eval (.tmp 40) = .int .i64 (len : Int) := slot hb 1 8 40 rfl rfl
        have t6 := (ev_tmp ac 38).symm.trans s6
        have t8 := (ev_tmp ac 40).symm.trans s8
        refine does_val (v := .bool true) (w' := wx) ?_ ⟨rfl, Gr.refl⟩
        simp [execOp, go_sem, t6, t8]
      · intro ac wx hS hb hf
        rw [if_pos (wanted_none rfl)]
        have s9 : ac.eval (.tmp 41) = .bool true := slot hb 0 9 41 rfl rfl
        have t9 := (ev_tmp ac 41).symm.trans s9
        refine does_val (v := .bool true) (w' := wx) ?_ ⟨rfl, Gr.refl⟩
        simp [execOp, go_sem, t9]
      rename_i hK
      intro a u hbu hts hd hdone hfree
      have e4 : a.eval (.tmp 4) = .bool true := done_slot hdone 10 4 rfl
      refine hK _ _ (wp_ret ?_)
      have hfin : bodyPost Try.prog Try.f6 (fun r w' => r = Ending.returned (Value.bool true) ∧ Below w.heap.size w w') Exit.ret a u := bodyPost_ret (v := .bool true) (by rw [results_tmp (fn := Try.f6) rfl]; exact congrArg (fun x => Result.ok x u) e4) hd ⟨rfl, HB.out.trans (hbu.mono HB.out.size)⟩
      exact hfin
    · obtain ⟨k, rfl⟩ : ∃ k : Nat, xk = k := ⟨xk.toNat, by omega⟩
      have hk : k < len := by omega
      have hkI : (k : Int) < (len : Int) := by omega
      have hk0 : (0 : Int) ≤ (k : Int) := by omega
      have hkc : k ≤ cap := by omega
      have hkcI : (k : Int) ≤ (cap : Int) := by omega
      have hlcI : (len : Int) ≤ (cap : Int) := by omega
      have HE : Hid (exact (fs.take k) = -1 ∧ exact (fs.drop k) = 0 ∧ (all fs ls = true → ls.any (hit (fs.getD k f0)) = true)) := ⟨exact_take hxk.out.symm, exact_drop hxk.out.symm, fun h => exact_has hxk.out.symm h⟩
      obtain ⟨x, hx⟩ : ∃ x, Hid (x = fs.getD k f0) := ⟨_, rfl⟩
      obtain ⟨g, off, rfl, hg, p0, p1, p2, p3⟩ := H3.out.1.rd.at (k := k) (by rw [HI.out.1.1.hl]; exact hk)
      rw [← hx.out] at p0 p1 HE
      clear hx p2 p3 hb1 hb2 hxk
      obtain ⟨fn, fv, fp, ft⟩ := x
      simp only at p0 p1
      go_wp2_with fail
      go_loopw [9, 10] (fun h i wr => ∃ j q : Nat, ∃ b : Bool, j ≤ sl ∧ i = .int .i64 (j : Int) ∧ h = .bool b ∧ wr = w3.drewN q ∧ Hid (b = (ls.take j).any (hit ⟨fn, fv, fp, ft⟩))) (fun _ i _ => sl - (intOf i).toNat)
      case atStart => exact ⟨0, 0, false, Nat.zero_le _, rfl, rfl, rfl, rfl⟩
      case round =>
        obtain ⟨j, q, b, hj, rfl, rfl, rfl, HA⟩ := hrel
        by_cases hlt : j < sl
        · have hlt' : (j : Int) < (sl : Int) := by omega
          have hj0 : (0 : Int) ≤ (j : Int) := by omega
          have hjl : j < ls.length := by rw [HI.out.2.1.hl]; exact hlt
          obtain ⟨lg, lo, rfl, hlg, c0, c1⟩ := H3.out.2.1.rd.at hjl
          obtain ⟨y, hy⟩ : ∃ y, Hid (y = ls.getD j l0) := ⟨_, rfl⟩
          have HT : Hid ((ls.take (j + 1)).any (hit ⟨fn, fv, fp, ft⟩) = (b || hit ⟨fn, fv, fp, ft⟩ y)) := by
            show _ = _
            rw [take_snocL ls j hjl, List.any_append, ← hy.out, HA.out]; simp
          rw [← hy.out] at c0 c1
          clear hjl hy
          obtain ⟨yn, yv⟩ := y
          simp only at c0 c1
          have e1 := beq_eq yn fn
          have e2 := beq_eq yv fv
          obtain ⟨d1, hd1⟩ : ∃ d, Hid (d = decide (yn = fn)) := ⟨_, rfl⟩
          obtain ⟨d2, hd2⟩ : ∃ d, Hid (d = decide (yv = fv)) := ⟨_, rfl⟩
          rw [← hd1.out] at e1
          rw [← hd2.out] at e2
          cases b with
          | true =>
            go_wp2_with fail
            go_quiet (fail)
            go_wp2_with fail
            go_roundw
            case rel => exact ⟨j + 1, _, true, by omega, by go_num, rfl, rfl, by show true = _; rw [HT.out]; rfl⟩
            case measure => simp [intOf]; omega
          | false =>
            cases d1 with
            | false =>
              go_wp2_with fail
              go_quiet (fail)
              go_wp2_with fail
              go_roundw
              case rel => exact ⟨j + 1, _, false, by omega, by go_num, rfl, rfl, by show false = _; rw [HT.out, hit, ← hd1.out]; rfl⟩
              case measure => simp [intOf]; omega
            | true =>
              go_wp2_with fail
              go_quiet (fail)
              go_wp2_with fail
              go_roundw
              case rel => exact ⟨j + 1, _, d2, by omega, by go_num, rfl, rfl, by show d2 = _; rw [HT.out, hit, ← hd1.out, ← hd2.out]; simp⟩
              case measure => simp [intOf]; omega
        · have hlt' : ¬ (j : Int) < (sl : Int) := by omega
          have HZ : Hid (all fs ls = true → b = true) := fun h => by
            have h2 := HA.out
            rw [List.take_of_length_le (by rw [HI.out.2.1.hl]; omega)] at h2
            rw [h2]; exact HE.out.2.2 h
          clear HA
          have hdr := below_dr w3 q
          have H4 : Hid (IsF (w3.drewN q) (some ⟨g, off, none⟩) len cap fs ∧ IsL (w3.drewN q) sa sl sc ls ∧ Below w.heap.size w (w3.drewN q)) := ⟨H3.out.1.below hdr, H3.out.2.1.below hdr, H3.out.2.2.trans (hdr.mono H3.out.2.2.size)⟩
          clear hdr
          have HWt : Hid (WfF (fs.take k)) := fun x hx => HI.out.1.2 x (List.mem_of_mem_take hx)
          have HWd : Hid (WfF (fs.drop k)) := fun x hx => HI.out.1.2 x (List.mem_of_mem_drop hx)
          go_wp2_with fail
          have q1 := exact_any _ k cap (fs.take k) _ (isF_take H4.out.1 (by omega)) HWt.out
          rw [HE.out.1] at q1
          refine Calls.mono q1 ?_
          rintro e w5 ⟨rfl, hb⟩
          have H5 : Hid (IsF w5 (some ⟨g, off, none⟩) len cap fs ∧ IsL w5 sa sl sc ls ∧ Below w.heap.size w w5) := ⟨H4.out.1.below hb, H4.out.2.1.below hb, H4.out.2.2.trans (hb.mono H4.out.2.2.size)⟩
          clear q1 hb
          have HQ2 : Hid (∀ ad, ad = (if cap = k then some ⟨g, off, none⟩ else some ⟨g, off + k * 4, none⟩ : Option Addr) → Calls Try.prog 16 #[.slice ad (len - k) (cap - k)] w5 fun e w' => e = .returned (.int .i64 0) ∧ Below w5.heap.size w5 w') := fun ad had => by
            subst had
            have q2 := exact_any _ (len - k) (cap - k) (fs.drop k) w5 (isF_drop H5.out.1 (by omega)) HWd.out
            rw [HE.out.2.1] at q2
            exact q2
          obtain ⟨al, hal⟩ : ∃ x, Hid (x = all fs ls) := ⟨_, rfl⟩
          have HQ3 : Hid (∀ W, Below w5.heap.size w5 W → Calls Try.prog 14 #[.slice (some ⟨g, off, none⟩) len cap, .slice sa sl sc] W fun e w' => e = .returned (.bool al) ∧ Below W.heap.size W w') := fun W h => by
            rw [hal.out]; exact all_any _ len cap fs sa sl sc ls W (H5.out.1.below h) HI.out.1.2 (H5.out.2.1.below h)
          by_cases hck : cap = k
          · omega
          · go_wp2_with fail
            refine Calls.mono (HQ2.out _ (by rw [if_neg hck])) ?_
            rintro e w6 ⟨rfl, hb6⟩
            have H6 : Hid (Below w5.heap.size w5 w6) := hb6
            clear hb6
            go_wp2_with fail
            refine Calls.mono (HQ3.out _ H6.out) ?_
            rintro e w7 ⟨rfl, hb7⟩
            have H7 : Hid (Below w.heap.size w w7) := H5.out.2.2.trans ((H6.out.trans (hb7.mono H6.out.size)).mono H5.out.2.2.size)
            clear hb7
            cases al with
            | false =>
              go_wp2_with fail
              go_ret
              exact ⟨rfl, H7.out⟩
            | true =>
              have hbt : b = true := HZ.out hal.out.symm
              subst hbt
              go_wp2_with fail
              go_ret
              exact ⟨rfl, H7.out⟩

set_option maxRecDepth 100000 in
theorem filterExact_lifted (os : Os) (started : os.Started) (H : Type) (enc : TypeId × Value → H) :
    ReturnsInHanded {} Try.checked os 6 .any (Rows.filterExactSpec.pre6 enc Try.prog Try.f6 Rows.filterExactRow.domain false) (Rows.filterExactSpec.post enc Try.prog Try.f6 false true false false) := by
  refine returnsInHanded_of_change (C := Try.checked) own started (by kernel_rfl) Try.func6
    (ChangeSpec.witness6 (enc := enc) (C := Try.checked) false ⟨#[], #[.slice none 0 0, .slice none 0 0], []⟩ 8 (by kernel_rfl) (by kernel_rfl) (by kernel_rfl) (by kernel_rfl)) ?_
  intro W base args ds gs before hval0 hW hcnd _
  have hval : ∀ (j : Nat) t v, Try.f6.params[j]? = some t → args[j]? = some v → Value.okWide Try.prog W .any base t v := hval0
  have hW' := hW
  obtain ⟨p, q, hA0, hV, rfl, hfz, hnd⟩ := hW
  have hA : DataW.TrodAll enc Try.prog W 0 (fun _ => true) true Try.f6.params.toList args.toList ds p := hA0
  rw [Try.params6] at hA hval
  obtain ⟨v0, vs0, d0, ds0, p0, q0, hargs, rfl, rfl, h0, r0⟩ := trodAll_cons hA
  obtain ⟨v1, vs1, d1, ds1, p1, q1, rfl, rfl, rfl, h1, r1⟩ := trodAll_cons r0
  obtain ⟨rfl, rfl, rfl⟩ := trodAll_nil r1
  obtain rfl : args = #[v0, v1] := by cases args; simp_all
  obtain ⟨rfl, rfl⟩ := trodVars_none hV
  obtain ⟨a0, len0, cap0, rfl⟩ := okWide_slice Try.underlying22 (hval 0 22 v0 rfl rfl)
  have k0 := h0
  have lt0 : ∀ x ∈ p0, x.block < W.heap.size := by obtain ⟨m, hm⟩ := k0; exact DataW.trod_lt m _ _ _ hm
  obtain ⟨vl0, w0, wf0⟩ : ∃ ls, IsF W a0 len0 cap0 ls ∧ WfF ls := by obtain ⟨fuel, hf⟩ := h0; exact isF_of hf
  obtain ⟨a1, len1, cap1, rfl⟩ := okWide_slice Try.underlying23 (hval 1 23 v1 rfl rfl)
  have k1 := h1
  have lt1 : ∀ x ∈ p1, x.block < W.heap.size := by obtain ⟨m, hm⟩ := k1; exact DataW.trod_lt m _ _ _ hm
  obtain ⟨vl1, w1, wf1⟩ : ∃ ls, IsL W a1 len1 cap1 ls ∧ WfL ls := by obtain ⟨fuel, hf⟩ := h1; exact isL_of hf
  clear hA0 hval0
  refine (filterExact_walk a0 len0 cap0 vl0 w0 wf0 a1 len1 cap1 vl1 w1 wf1 rfl).mono fun e W' ⟨he, hb⟩ => ?_
  subst he
  exact ⟨_, rfl, _, _, _, [], _, [], hW', trodAll_mk1 (shut_bool Try.underlying4 _), (trodAll_cons_mk (Below.trod laidOut (by kernel_rfl) (of_decide_eq_true (by kernel_rfl)) k0 hb lt0) (trodAll_cons_mk (Below.trod laidOut (by kernel_rfl) (of_decide_eq_true (by kernel_rfl)) k1 hb lt1) trodAll_mk0)), rfl, hb.frame _, fun h => by cases h⟩

theorem filterExact_holds : Rows.FilterExactSaid :=
  OpenClaim.holds_of_wide 6 Try.f6 rfl rfl rfl rfl rfl rfl rfl ⟨rfl, rfl, rfl, rfl, rfl⟩ rfl rfl rfl rfl rfl (by kernel_rfl) Try.func6 (by kernel_rfl)
    (of_decide_eq_true (by kernel_rfl)) (by unfold Func.isWrapper; first | (rw [if_pos (by decide +kernel)]; kernel_rfl) | (rw [if_neg (by decide +kernel)]; exact ⟨rfl, rfl⟩))
    (fun os started H enc _ => filterExact_lifted os started H enc)
#print axioms filterExact_holds
end Go.Proofs.Ytejdpelolihpeaa
