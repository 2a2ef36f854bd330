/- For every row of filters, one more, and row of labels: the order of filters plays no part, nor how often one is there, and more of them let no more labels through: FilterTurned returns true, and its arguments read as before. No conditions. -/
import Derived.Test.YtejdpelolihpeaaS
import Derived.Test.YtejdpelolihpeaaQ
import Derived.Laws.Cover1
import Derived.SizedLaws
namespace Go.Proofs.Ytejdpelolihpeaa
open Go.ChangeShapes Go.WideShapes Go.ChangeAt Go.RowKit Go.Lib
open Go.ChangeMaps (open_string shut_string)

/-- Turned, each twice. -/
def tw : List Ft → List Ft
  | [] => []
  | x :: r => tw r ++ [x, x]
theorem tw_len : ∀ l, (tw l).length = 2 * l.length
  | [] => rfl
  | x :: r => by simp [tw, tw_len r]; omega
theorem tw_all (ls : List Lb) : ∀ l, all (tw l) ls = all l ls
  | [] => rfl
  | x :: r => by
    have ih := tw_all ls r
    simp only [all] at ih ⊢
    rw [tw, List.all_append, ih, List.all_cons]
    simp
    cases one x ls <;> simp
theorem tw_mem {x : Ft} : ∀ {l : List Ft}, x ∈ tw l → x ∈ l
  | [], h => h
  | y :: r, h => by
    rw [tw, List.mem_append] at h
    rcases h with h | h
    · exact List.mem_cons_of_mem _ (tw_mem h)
    · simp at h; subst h; exact List.mem_cons_self ..
theorem all_more (fs : List Ft) (m : Ft) (ls : List Lb) : all (fs ++ [m]) ls = (all fs ls && one m ls) := by simp [all]

set_option maxRecDepth 20000 in
set_option maxHeartbeats 16000000 in
theorem filterTurned_walk (a : Option Addr) (len cap : Nat) (fs : List Ft) {w0 : World} (hF : IsF w0 a len cap fs) (wf : WfF fs) (hlen : len * 40 ≤ 140737488351232) (more : Ft) (wm : Wf more) (sa : Option Addr) (sl sc : Nat) (ls : List Lb) (hL : IsL w0 sa sl sc ls) (wl : WfL ls) {w : World} (hw : w = w0) :
    Calls Try.prog 4 #[.slice a len cap, .agg #[.string more.n, .string more.v, .bool more.p, .bool more.t], .slice sa sl sc] w fun r w' => r = .returned (.bool true) ∧ Below w.heap.size w w' := by
  subst hw
  have hm := hF.hm
  have hcp := hF.hc
  unfold maxLen at hm
  obtain ⟨i0, hi, hz0, hz1, hz2⟩ := info_parts Try.info28
  have hbx0 : Below w.heap.size w (w.alloc (.cells #[.string more.n, .string more.v, .bool more.p, .bool more.t] 28)) := (Below.refl _ _).alloc (Nat.le_refl _) _
  have HI : Hid ((IsF (w.alloc (.cells #[.string more.n, .string more.v, .bool more.p, .bool more.t] 28)) a len cap fs ∧ WfF fs) ∧ (Bx (w.alloc (.cells #[.string more.n, .string more.v, .bool more.p, .bool more.t] 28)) w.heap.size more ∧ Below w.heap.size w (w.alloc (.cells #[.string more.n, .string more.v, .bool more.p, .bool more.t] 28))) ∧ IsL (w.alloc (.cells #[.string more.n, .string more.v, .bool more.p, .bool more.t] 28)) sa sl sc ls ∧ WfL ls) := ⟨⟨hF.below hbx0, wf⟩, ⟨boxed_f w more, hbx0⟩, hL.below hbx0, wl⟩
  have HWf : Hid (WfF (fs ++ [more])) := fun x hx => by
    rcases List.mem_append.1 hx with hx | hx
    · exact wf x hx
    · simp at hx; subst hx; exact wm
  clear hF wf hL wl wm hbx0
  go_enter Try.func4, Try.ntmps4
  go_wp2_with fail
  refine (awake_any _).mono ?_
  rintro e w1 ⟨rfl, b1⟩
  have HF0 : Hid (IsF w1 a len cap fs) := HI.out.1.1.below b1
  have HL1 : Hid (IsL w1 sa sl sc ls) := HI.out.2.2.1.below b1
  have HX : Hid (Bx w1 w.heap.size more) := HI.out.2.1.1.below b1
  have HB1 : Hid (Below w.heap.size w w1) := HI.out.2.1.2.trans (b1.mono HI.out.2.1.2.size)
  clear b1
  go_wp2_with fail
  obtain ⟨f1, hf1⟩ : ∃ f, Hid (f = few (fs ++ [more]) ls) := ⟨_, rfl⟩
  have HL0 : Hid (∀ W, Below w1.heap.size w1 W → IsL W sa sl sc ls) := fun W h => HL1.out.below h
  refine wp_region_A (G := (Gr w1.heap.size 28 4 len 1 (clf [more]))) (by kernel_rfl) (by kernel_rfl) w1.heap.size (fun _ _ h => h.bl) [⟨fun v W => ∃ g, v = .slice (some ⟨g, 0, none⟩) 0 0 ∧ W.ownsRow w1.heap.size 28 4 v 0 [], fun _ _ _ ⟨g, h1, h2⟩ hg => ⟨g, h1, own_gr h2 hg (.inl (Nat.zero_le _))⟩⟩, .eq _ (.slice a len cap), ⟨fun v W => W.ownsRow w1.heap.size 28 4 v len (clf fs), fun _ _ _ h hg => own_gr h hg (.inl (Nat.le_refl _))⟩, .eq _ (.agg #[.string (more : Ft).n, .string (more : Ft).v, .bool (more : Ft).p, .bool (more : Ft).t]), ⟨fun v W => ∃ g, v = .slice (some ⟨g, 0, none⟩) 1 1 ∧ W.heap[g]? = some (.cells (clf [more]).toArray 28 (0, 0)), fun _ _ _ ⟨g, h1, h2⟩ hg => ⟨g, h1, four_gr (by rfl) h2 hg⟩⟩, ⟨fun v W => W.ownsRow w1.heap.size 28 4 v (len + 1) (clf (fs ++ [more])), fun _ _ _ h hg => own_gr h hg (.inr ⟨rfl, by rw [clf_append, List.drop_left' (by rw [clf_len, HI.out.1.1.hl])]⟩)⟩, .eq _ (.slice sa sl sc), .eq _ (.bool f1), .eq _ (.bool f1)] w1 (Below.refl _ _) (allA_cons ?_ (allA_cons ?_ (allA_cons ?_ (allA_cons ?_ (allA_cons ?_ (allA_cons ?_ (allA_cons ?_ (allA_cons ?_ (allA_cons ?_ allA_nil))))))))) ?_
  · intro ac wx hS hb hf
    rw [if_pos (wanted_none rfl)]
    have hsw : w1.heap.size ≤ wx.heap.size := hS.size
    refine does_val (v := .slice (some ⟨wx.heap.size, 0, none⟩) 0 0) (w' := wx.alloc (.cells #[] 28)) ?_ ⟨⟨_, rfl, own_empty28 wx _ hsw⟩, Gr.of ((Below.refl _ _).alloc (Nat.le_refl _) _) hsw⟩
    simp [execOp, go_sem]
  · intro ac wx hS hb hf
    rw [if_pos (wanted_none rfl)]
    have s0 : ac.eval (.tmp 0) = .slice a len cap := (hf 0 (by kernel_rfl)).trans rfl
    have t0 := (ev_tmp ac 0).symm.trans s0
    refine does_val (v := .slice a len cap) (w' := wx) ?_ ⟨rfl, Gr.refl⟩
    simp [execOp, go_sem, t0]
  · intro ac wx hS hb hf
    rw [if_pos (wanted_none rfl)]
    have hsw : w1.heap.size ≤ wx.heap.size := hS.size
    obtain ⟨g0, e0, o0⟩ : ∃ g, ac.eval (.tmp 16) = .slice (some ⟨g, 0, none⟩) 0 0 ∧ wx.ownsRow w1.heap.size 28 4 (ac.eval (.tmp 16)) 0 [] := slot hb 0 0 16 rfl rfl
    have s1 : ac.eval (.tmp 17) = .slice a len cap := slot hb 1 1 17 rfl rfl
    rw [e0] at o0
    obtain ⟨v2, w2, hr, ho2, hb2⟩ := append_empty (P := Try.prog) 22 22 i0 _ 40 Try.underlying22 hi hz0 hz1 hz2 rfl g0 o0 _ len cap (clf fs) (by rw [clf_len, HI.out.1.1.hl]) HF0.out.none (rdF_news (HF0.out.below hS).rd) (clf_one _) (by unfold maxLen; omega) (by omega) hsw
    exact does_val (exec_append rfl e0 s1 hr) ⟨ho2, Gr.of hb2 hsw⟩
  · intro ac wx hS hb hf
    rw [if_pos (wanted_none rfl)]
    have s8 : ac.eval (.tmp 4) = .pointer (some ⟨w.heap.size, 0, none⟩) := (hf 4 (by kernel_rfl)).trans rfl
    have t8 := (ev_tmp ac 4).symm.trans s8
    obtain ⟨_, d0, d1, d2, d3⟩ := HX.out.below hS
    simp only [Nat.zero_add] at d1 d2 d3
    refine does_val (v := .agg #[.string (more : Ft).n, .string (more : Ft).v, .bool (more : Ft).p, .bool (more : Ft).t]) (w' := wx) ?_ ⟨rfl, Gr.refl⟩
    simp [execOp, go_sem, t8, d0, d1, d2, d3]
  · intro ac wx hS hb hf
    rw [if_pos (wanted_none rfl)]
    have hsw : w1.heap.size ≤ wx.heap.size := hS.size
    have s3 : ac.eval (.tmp 19) = .agg #[.string (more : Ft).n, .string (more : Ft).v, .bool (more : Ft).p, .bool (more : Ft).t] := slot hb 0 3 19 rfl rfl
    have t3 := (ev_tmp ac 19).symm.trans s3
    refine does_val (v := .slice (some ⟨wx.heap.size, 0, none⟩) 1 1) (w' := wx.alloc (.cells (clf [more]).toArray 28)) ?_ ⟨⟨_, rfl, heap_alloc_new wx _⟩, Gr.of ((Below.refl _ _).alloc (Nat.le_refl _) _) hsw⟩
    simp [execOp, go_sem, t3, clf]
  · intro ac wx hS hb hf
    rw [if_pos (wanted_none rfl)]
    have hsw : w1.heap.size ≤ wx.heap.size := hS.size
    have o2 : wx.ownsRow w1.heap.size 28 4 (ac.eval (.tmp 18)) len (clf fs) := slot hb 0 2 18 rfl rfl
    obtain ⟨g4, e4, h4⟩ : ∃ g, ac.eval (.tmp 20) = .slice (some ⟨g, 0, none⟩) 1 1 ∧ wx.heap[g]? = some (.cells (clf [more]).toArray 28 (0, 0)) := slot hb 1 4 20 rfl rfl
    have hnw : ∀ j u, (clf [more])[j]? = some u → wx.cell? ((⟨g4, 0, none⟩ : Addr).add j) = some u := fun j u hu => news_at h4 j u hu
    obtain ⟨v5, w5, hr, ho5, hg5⟩ := append_gr (P := Try.prog) (n := len) (m := 1) 22 22 i0 _ 40 Try.underlying22 hi hz0 hz1 hz2 rfl _ (clf fs) o2 ⟨g4, 0, none⟩ 1 (by rfl) hnw (clf_one _) (by decide) (by unfold maxLen; omega) (by omega) hsw
    rw [← clf_append] at ho5
    exact does_val (exec_append rfl rfl e4 hr) ⟨ho5, hg5⟩
  · intro ac wx hS hb hf
    rw [if_pos (wanted_none rfl)]
    have s0 : ac.eval (.tmp 2) = .slice sa sl sc := (hf 2 (by kernel_rfl)).trans rfl
    have t0 := (ev_tmp ac 2).symm.trans s0
    refine does_val (v := .slice sa sl sc) (w' := wx) ?_ ⟨rfl, Gr.refl⟩
    simp [execOp, go_sem, t0]
  · intro ac wx hS hb hf
    rw [if_pos (wanted_none rfl)]
    have hsw : w1.heap.size ≤ wx.heap.size := hS.size
    have o5 : wx.ownsRow w1.heap.size 28 4 (ac.eval (.tmp 21)) (len + 1) (clf (fs ++ [more])) := slot hb 0 5 21 rfl rfl
    obtain ⟨a5, c5, e5, hI5⟩ := own_isF o5
    have t5 := (ev_tmp ac 21).symm.trans e5
    have s6 : ac.eval (.tmp 22) = .slice sa sl sc := slot hb 1 6 22 rfl rfl
    have t6 := (ev_tmp ac 22).symm.trans s6
    refine does_call (f := 9) (args := #[.slice a5 (len + 1) c5, .slice sa sl sc]) (w' := wx) (by simp [go_sem, t5, t6]) ?_
    refine Calls.mono (few_any a5 (len + 1) c5 _ sa sl sc ls wx hI5 HWf.out (HL0.out wx hS) HI.out.2.2.2) ?_
    rintro r' w' ⟨rfl, hb'⟩
    exact ⟨_, rfl, congrArg Value.bool hf1.out.symm, by rw [hb']; exact Gr.refl⟩
  · intro ac wx hS hb hf
    rw [if_pos (wanted_none rfl)]
    have s7 : ac.eval (.tmp 23) = .bool f1 := slot hb 0 7 23 rfl rfl
    have t7 := (ev_tmp ac 23).symm.trans s7
    refine does_val (v := .bool f1) (w' := wx) ?_ ⟨rfl, Gr.refl⟩
    simp [execOp, go_sem, t7]
  intro ac u hbu hts hd hdone hfree
  have e8 : ac.eval (.tmp 8) = .bool f1 := done_slot hdone 8 8 rfl
  obtain ⟨x16, ex16⟩ : ∃ x, ac.eval (.tmp 16) = x := ⟨_, rfl⟩
  obtain ⟨x17, ex17⟩ : ∃ x, ac.eval (.tmp 17) = x := ⟨_, rfl⟩
  obtain ⟨x18, ex18⟩ : ∃ x, ac.eval (.tmp 18) = x := ⟨_, rfl⟩
  obtain ⟨x19, ex19⟩ : ∃ x, ac.eval (.tmp 19) = x := ⟨_, rfl⟩
  obtain ⟨x20, ex20⟩ : ∃ x, ac.eval (.tmp 20) = x := ⟨_, rfl⟩
  obtain ⟨x21, ex21⟩ : ∃ x, ac.eval (.tmp 21) = x := ⟨_, rfl⟩
  obtain ⟨x22, ex22⟩ : ∃ x, ac.eval (.tmp 22) = x := ⟨_, rfl⟩
  obtain ⟨x23, ex23⟩ : ∃ x, ac.eval (.tmp 23) = x := ⟨_, rfl⟩
  have hact := act_puts hts hd hfree
  simp only [putAll, List.foldl_cons, List.foldl_nil, ex16, ex17, ex18, ex19, ex20, ex21, ex22, ex23, e8, Act.put] at hact
  simp at hact
  clear ex16 ex17 ex18 ex19 ex20 ex21 ex22 ex23 e8 hts hd hdone hfree
  subst hact
  have hsz1 := hbu.size
  have H1 : Hid (Below w1.heap.size w1 u) := hbu
  clear hbu
  cases f1 with
  | false =>
    go_wp2_with fail
    go_ret
    exact ⟨rfl, HB1.out.trans (H1.out.mono HB1.out.size)⟩
  | true =>
    have h10 := few_spec hf1.out.symm
    rw [List.length_append, HI.out.1.1.hl] at h10
    obtain ⟨h10, _⟩ := h10
    simp only [List.length_cons, List.length_nil] at h10
    clear hf1
    go_wp2_with fail
    go_loopw [9, 10] (fun v i wr => ∃ k : Nat, k ≤ len ∧ i = .int .i64 ((k : Int) - 1) ∧ wr.ownsRow w1.heap.size 28 4 v (2 * (len - k)) (clf (tw (fs.drop k))) ∧ Below w1.heap.size w1 wr) (fun _ i _ => (intOf i + 1).toNat)
    case atStart =>
      refine ⟨len, Nat.le_refl _, by go_num, ?_, H1.out⟩
      rw [List.drop_eq_nil_of_le (by rw [HI.out.1.1.hl]; omega), Nat.sub_self]
      exact World.ownsRow_nil _ _ _ _
    case round =>
      obtain ⟨k, hk, rfl, hown, hbw⟩ := hrel
      by_cases hlt : 0 < k
      · obtain ⟨j, rfl⟩ : ∃ j, k = j + 1 := ⟨k - 1, by omega⟩
        rw [show ((j + 1 : Nat) : Int) - 1 = (j : Int) by omega]
        have hj0 : (0 : Int) ≤ (j : Int) := by omega
        have hjlt : (j : Int) < (len : Int) := by omega
        have hjl : j < fs.length := by rw [HI.out.1.1.hl]; omega
        obtain ⟨g, off, rfl, hg, cc⟩ := HF0.out.rd.at hjl
        obtain ⟨x, hx⟩ : ∃ x, Hid (x = fs.getD j f0) := ⟨_, rfl⟩
        rw [← hx.out] at cc
        have HC : Hid (∀ W, Below w1.heap.size w1 W → At W g (off + j * 4) x) := fun W h => cc.below h hg
        have HD : Hid (fs.drop j = x :: fs.drop (j + 1)) := by
          show _ = _
          rw [drop_consF fs j hjl, ← hx.out]
        clear cc hx hjl
        go_wp2_with fail
        refine wp_region_H (G := (Gr w1.heap.size 28 4 (2 * (len - (j + 1))) 2 (clf [x, x]))) (by kernel_rfl) (by kernel_rfl) (fun W => Below w1.heap.size w1 W ∧ W.ownsRow w1.heap.size 28 4 u9 (2 * (len - (j + 1))) (clf (tw (fs.drop (j + 1))))) (fun _ _ h hg => ⟨h.1.trans hg.bl, own_gr h.2 hg (.inl (Nat.le_refl _))⟩) [.eq _ (u9), .eq _ (.slice (some ⟨g, off, none⟩) len cap), .eq _ (.int .i64 (j : Int)), .eq _ (.pointer (some ⟨g, off + j * 4, none⟩)), .eq _ (.agg #[.string x.n, .string x.v, .bool x.p, .bool x.t]), .eq _ (.slice (some ⟨g, off, none⟩) len cap), .eq _ (.int .i64 (j : Int)), .eq _ (.pointer (some ⟨g, off + j * 4, none⟩)), .eq _ (.agg #[.string x.n, .string x.v, .bool x.p, .bool x.t]), ⟨fun y W => ∃ g, y = .slice (some ⟨g, 0, none⟩) 2 2 ∧ W.heap[g]? = some (.cells (clf [x, x]).toArray 28 (0, 0)), fun _ _ _ ⟨g, h1, h2⟩ hg => ⟨g, h1, four_gr (by rfl) h2 hg⟩⟩, ⟨fun y W => W.ownsRow w1.heap.size 28 4 y (2 * (len - (j + 1)) + 2) (clf (tw (fs.drop (j + 1)) ++ [x, x])), fun _ _ _ h hg => own_gr h hg (.inr ⟨rfl, by rw [clf_append, List.drop_left' (by rw [clf_len, tw_len, List.length_drop, HI.out.1.1.hl])]⟩)⟩, ⟨fun y W => W.ownsRow w1.heap.size 28 4 y (2 * (len - (j + 1)) + 2) (clf (tw (fs.drop (j + 1)) ++ [x, x])), fun _ _ _ h hg => own_gr h hg (.inr ⟨rfl, by rw [clf_append, List.drop_left' (by rw [clf_len, tw_len, List.length_drop, HI.out.1.1.hl])]⟩)⟩] ⟨hbw.drew, own_drew hown⟩ (allH_cons ?_ (allH_cons ?_ (allH_cons ?_ (allH_cons ?_ (allH_cons ?_ (allH_cons ?_ (allH_cons ?_ (allH_cons ?_ (allH_cons ?_ (allH_cons ?_ (allH_cons ?_ (allH_cons ?_ allH_nil)))))))))))) ?_
        · intro ac wx hS hb hf
          rw [if_pos (wanted_none rfl)]
          have s0 : ac.eval (.tmp 9) = u9 := (hf 9 (by kernel_rfl)).trans rfl
          have t0 := (ev_tmp ac 9).symm.trans s0
          refine does_val (v := u9) (w' := wx) ?_ ⟨rfl, Gr.refl⟩
          simp [execOp, go_sem, t0]
        · intro ac wx hS hb hf
          rw [if_pos (wanted_none rfl)]
          have s0 : ac.eval (.tmp 0) = .slice (some ⟨g, off, none⟩) len cap := (hf 0 (by kernel_rfl)).trans rfl
          have t0 := (ev_tmp ac 0).symm.trans s0
          refine does_val (v := .slice (some ⟨g, off, none⟩) len cap) (w' := wx) ?_ ⟨rfl, Gr.refl⟩
          simp [execOp, go_sem, t0]
        · intro ac wx hS hb hf
          rw [if_pos (wanted_none rfl)]
          have s0 : ac.eval (.tmp 10) = .int .i64 (j : Int) := (hf 10 (by kernel_rfl)).trans rfl
          have t0 := (ev_tmp ac 10).symm.trans s0
          refine does_val (v := .int .i64 (j : Int)) (w' := wx) ?_ ⟨rfl, Gr.refl⟩
          simp [execOp, go_sem, t0]
        · intro ac wx hS hb hf
          rw [if_pos (wanted_none rfl)]
          have sa1 : ac.eval (.tmp 34) = .slice (some ⟨g, off, none⟩) len cap := slot hb 0 1 34 rfl rfl
          have sb1 : ac.eval (.tmp 35) = .int .i64 (j : Int) := slot hb 1 2 35 rfl rfl
          have t1 := (ev_tmp ac 34).symm.trans sa1
          have t2 := (ev_tmp ac 35).symm.trans sb1
          refine does_val (v := .pointer (some ⟨g, off + j * 4, none⟩)) (w' := wx) ?_ ⟨rfl, Gr.refl⟩
          simp [execOp, go_sem, t1, t2, hj0, hjlt]
          first | done | (intro h; omega)
        · intro ac wx hS hb hf
          rw [if_pos (wanted_none rfl)]
          have s1 : ac.eval (.tmp 36) = .pointer (some ⟨g, off + j * 4, none⟩) := slot hb 0 3 36 rfl rfl
          have t1 := (ev_tmp ac 36).symm.trans s1
          obtain ⟨d0, d1, d2, d3⟩ := HC.out wx hS.1
          refine does_val (v := .agg #[.string x.n, .string x.v, .bool x.p, .bool x.t]) (w' := wx) ?_ ⟨rfl, Gr.refl⟩
          simp [execOp, go_sem, t1, d0, d1, d2, d3]
        · intro ac wx hS hb hf
          rw [if_pos (wanted_none rfl)]
          have s0 : ac.eval (.tmp 0) = .slice (some ⟨g, off, none⟩) len cap := (hf 0 (by kernel_rfl)).trans rfl
          have t0 := (ev_tmp ac 0).symm.trans s0
          refine does_val (v := .slice (some ⟨g, off, none⟩) len cap) (w' := wx) ?_ ⟨rfl, Gr.refl⟩
          simp [execOp, go_sem, t0]
        · intro ac wx hS hb hf
          rw [if_pos (wanted_none rfl)]
          have s0 : ac.eval (.tmp 10) = .int .i64 (j : Int) := (hf 10 (by kernel_rfl)).trans rfl
          have t0 := (ev_tmp ac 10).symm.trans s0
          refine does_val (v := .int .i64 (j : Int)) (w' := wx) ?_ ⟨rfl, Gr.refl⟩
          simp [execOp, go_sem, t0]
        · intro ac wx hS hb hf
          rw [if_pos (wanted_none rfl)]
          have sa1 : ac.eval (.tmp 38) = .slice (some ⟨g, off, none⟩) len cap := slot hb 0 5 38 rfl rfl
          have sb1 : ac.eval (.tmp 39) = .int .i64 (j : Int) := slot hb 1 6 39 rfl rfl
          have t1 := (ev_tmp ac 38).symm.trans sa1
          have t2 := (ev_tmp ac 39).symm.trans sb1
          refine does_val (v := .pointer (some ⟨g, off + j * 4, none⟩)) (w' := wx) ?_ ⟨rfl, Gr.refl⟩
          simp [execOp, go_sem, t1, t2, hj0, hjlt]
          first | done | (intro h; omega)
        · intro ac wx hS hb hf
          rw [if_pos (wanted_none rfl)]
          have s1 : ac.eval (.tmp 40) = .pointer (some ⟨g, off + j * 4, none⟩) := slot hb 0 7 40 rfl rfl
          have t1 := (ev_tmp ac 40).symm.trans s1
          obtain ⟨d0, d1, d2, d3⟩ := HC.out wx hS.1
          refine does_val (v := .agg #[.string x.n, .string x.v, .bool x.p, .bool x.t]) (w' := wx) ?_ ⟨rfl, Gr.refl⟩
          simp [execOp, go_sem, t1, d0, d1, d2, d3]
        · intro ac wx hS hb hf
          rw [if_pos (wanted_none rfl)]
          have hsw : w1.heap.size ≤ wx.heap.size := hS.1.size
          have s1 : ac.eval (.tmp 37) = .agg #[.string x.n, .string x.v, .bool x.p, .bool x.t] := slot hb 0 4 37 rfl rfl
          have s2 : ac.eval (.tmp 41) = .agg #[.string x.n, .string x.v, .bool x.p, .bool x.t] := slot hb 1 8 41 rfl rfl
          have t1 := (ev_tmp ac 37).symm.trans s1
          have t2 := (ev_tmp ac 41).symm.trans s2
          refine does_val (v := .slice (some ⟨wx.heap.size, 0, none⟩) 2 2) (w' := wx.alloc (.cells (clf [x, x]).toArray 28)) ?_ ⟨⟨_, rfl, heap_alloc_new wx _⟩, Gr.of ((Below.refl _ _).alloc (Nat.le_refl _) _) hsw⟩
          simp [execOp, go_sem, t1, t2, clf]
        · intro ac wx hS hb hf
          rw [if_pos (wanted_none rfl)]
          have hsw : w1.heap.size ≤ wx.heap.size := hS.1.size
          have s1 : ac.eval (.tmp 33) = u9 := slot hb 0 0 33 rfl rfl
          obtain ⟨g4, e4, h4⟩ : ∃ g, ac.eval (.tmp 42) = .slice (some ⟨g, 0, none⟩) 2 2 ∧ wx.heap[g]? = some (.cells (clf [x, x]).toArray 28 (0, 0)) := slot hb 1 9 42 rfl rfl
          have hnw : ∀ j u, (clf [x, x])[j]? = some u → wx.cell? ((⟨g4, 0, none⟩ : Addr).add j) = some u := fun j u hu => news_at h4 j u hu
          obtain ⟨v5, w5, hr, ho5, hg5⟩ := append_gr (P := Try.prog) (n := 2 * (len - (j + 1))) (m := 2) 22 22 i0 _ 40 Try.underlying22 hi hz0 hz1 hz2 rfl u9 (clf (tw (fs.drop (j + 1)))) hS.2 ⟨g4, 0, none⟩ 2 (by rfl) hnw (clf_one _) (by decide) (by unfold maxLen; omega) (by omega) hsw
          rw [← clf_append] at ho5
          exact does_val (exec_append rfl s1 e4 hr) ⟨ho5, hg5⟩
        · intro ac wx hS hb hf
          rw [if_pos (wanted_none rfl)]
          have o5 : wx.ownsRow w1.heap.size 28 4 (ac.eval (.tmp 43)) (2 * (len - (j + 1)) + 2) (clf (tw (fs.drop (j + 1)) ++ [x, x])) := slot hb 0 10 43 rfl rfl
          obtain ⟨y, hy⟩ : ∃ y, ac.eval (.tmp 43) = y := ⟨_, rfl⟩
          rw [hy] at o5
          have t0 := (ev_tmp ac 43).symm.trans hy
          refine does_val (v := y) (w' := wx) ?_ ⟨o5, Gr.refl⟩
          simp [execOp, go_sem, t0]
        intro ac u hbu hts hd hdone hfree
        have o9 : u.ownsRow w1.heap.size 28 4 (ac.eval (.tmp 9)) (2 * (len - (j + 1)) + 2) (clf (tw (fs.drop (j + 1)) ++ [x, x])) := done_slot hdone 11 9 rfl
        obtain ⟨x33, ex33⟩ : ∃ x, ac.eval (.tmp 33) = x := ⟨_, rfl⟩
        obtain ⟨x34, ex34⟩ : ∃ x, ac.eval (.tmp 34) = x := ⟨_, rfl⟩
        obtain ⟨x35, ex35⟩ : ∃ x, ac.eval (.tmp 35) = x := ⟨_, rfl⟩
        obtain ⟨x36, ex36⟩ : ∃ x, ac.eval (.tmp 36) = x := ⟨_, rfl⟩
        obtain ⟨x37, ex37⟩ : ∃ x, ac.eval (.tmp 37) = x := ⟨_, rfl⟩
        obtain ⟨x38, ex38⟩ : ∃ x, ac.eval (.tmp 38) = x := ⟨_, rfl⟩
        obtain ⟨x39, ex39⟩ : ∃ x, ac.eval (.tmp 39) = x := ⟨_, rfl⟩
        obtain ⟨x40, ex40⟩ : ∃ x, ac.eval (.tmp 40) = x := ⟨_, rfl⟩
        obtain ⟨x41, ex41⟩ : ∃ x, ac.eval (.tmp 41) = x := ⟨_, rfl⟩
        obtain ⟨x42, ex42⟩ : ∃ x, ac.eval (.tmp 42) = x := ⟨_, rfl⟩
        obtain ⟨x43, ex43⟩ : ∃ x, ac.eval (.tmp 43) = x := ⟨_, rfl⟩
        obtain ⟨x9, ex9⟩ : ∃ x, ac.eval (.tmp 9) = x := ⟨_, rfl⟩
        rw [ex9] at o9
        have hact := act_puts hts hd hfree
        simp only [putAll, List.foldl_cons, List.foldl_nil, ex33, ex34, ex35, ex36, ex37, ex38, ex39, ex40, ex41, ex42, ex43, ex9, Act.put] at hact
        simp at hact
        clear ex33 ex34 ex35 ex36 ex37 ex38 ex39 ex40 ex41 ex42 ex43 ex9 hts hd hdone hfree
        subst hact
        have H2 : Hid (Below w1.heap.size w1 u) := hbu.1
        clear hbu
        go_wp2_with fail
        go_roundw
        case rel =>
          refine ⟨j, by omega, by go_num, ?_, H2.out⟩
          rw [HD.out, tw, show 2 * (len - j) = 2 * (len - (j + 1)) + 2 by omega]
          exact o9
        case measure => simp [intOf]
      · obtain rfl : k = 0 := by omega
        simp only [List.drop_zero, Nat.sub_zero] at hown
        obtain ⟨ta, tc, rfl, hIt⟩ := own_isF hown
        have HT : Hid (IsF wr ta (2 * len) tc (tw fs)) := hIt
        have HWt : Hid (WfF (tw fs)) := fun x hx => HI.out.1.2 x (tw_mem hx)
        clear hIt hown
        have HR : Hid (Below w1.heap.size w1 wr) := hbw
        obtain ⟨is, his⟩ : ∃ x, Hid (x = all fs ls) := ⟨_, rfl⟩
        obtain ⟨om, hom⟩ : ∃ x, Hid (x = one more ls) := ⟨_, rfl⟩
        have HA2 : Hid (all (fs ++ [more]) ls = (is && om)) := by
          show _ = _
          rw [all_more, his.out, hom.out]
        go_wp2_with fail
        refine (all_any a len cap fs sa sl sc ls wr (HF0.out.below HR.out) HI.out.1.2 (HL0.out _ HR.out)).mono ?_
        rintro e W0 ⟨rfl, hb⟩
        rw [← his.out]
        have HR2 : Hid (Below w1.heap.size w1 W0) := HR.out.trans (hb.mono HR.out.size)
        have HT2 : Hid (IsF W0 ta (2 * len) tc (tw fs)) := HT.out.below hb
        have HF1 : Hid (IsF w1 a len cap fs) := HF0.out
        have HX1 : Hid (Bx w1 w.heap.size more) := HX.out
        clear hb hbw HF0 HX
        have HF0 : Hid (IsF W0 a len cap fs) := HF1.out.below HR2.out
        have HX : Hid (Bx W0 w.heap.size more) := HX1.out.below HR2.out
        have HL2 : Hid (IsL W0 sa sl sc ls) := HL1.out.below HR2.out
        clear HL0
        have HL0 : Hid (∀ W, Below W0.heap.size W0 W → IsL W sa sl sc ls) := fun W h => HL2.out.below h
        go_wp2_with fail
        refine wp_region_A (G := (Gr W0.heap.size 28 4 len 1 (clf [more]))) (by kernel_rfl) (by kernel_rfl) W0.heap.size (fun _ _ h => h.bl) [⟨fun v W => ∃ g, v = .slice (some ⟨g, 0, none⟩) 0 0 ∧ W.ownsRow W0.heap.size 28 4 v 0 [], fun _ _ _ ⟨g, h1, h2⟩ hg => ⟨g, h1, own_gr h2 hg (.inl (Nat.zero_le _))⟩⟩, .eq _ (.slice a len cap), ⟨fun v W => W.ownsRow W0.heap.size 28 4 v len (clf fs), fun _ _ _ h hg => own_gr h hg (.inl (Nat.le_refl _))⟩, .eq _ (.agg #[.string (more : Ft).n, .string (more : Ft).v, .bool (more : Ft).p, .bool (more : Ft).t]), ⟨fun v W => ∃ g, v = .slice (some ⟨g, 0, none⟩) 1 1 ∧ W.heap[g]? = some (.cells (clf [more]).toArray 28 (0, 0)), fun _ _ _ ⟨g, h1, h2⟩ hg => ⟨g, h1, four_gr (by rfl) h2 hg⟩⟩, ⟨fun v W => W.ownsRow W0.heap.size 28 4 v (len + 1) (clf (fs ++ [more])), fun _ _ _ h hg => own_gr h hg (.inr ⟨rfl, by rw [clf_append, List.drop_left' (by rw [clf_len, HI.out.1.1.hl])]⟩)⟩, .eq _ (.slice sa sl sc), .eq _ (.bool (is && om)), .eq _ (.bool (is && om))] W0 (Below.refl _ _) (allA_cons ?_ (allA_cons ?_ (allA_cons ?_ (allA_cons ?_ (allA_cons ?_ (allA_cons ?_ (allA_cons ?_ (allA_cons ?_ (allA_cons ?_ allA_nil))))))))) ?_
        · intro ac wx hS hb hf
          rw [if_pos (wanted_none rfl)]
          have hsw : W0.heap.size ≤ wx.heap.size := hS.size
          refine does_val (v := .slice (some ⟨wx.heap.size, 0, none⟩) 0 0) (w' := wx.alloc (.cells #[] 28)) ?_ ⟨⟨_, rfl, own_empty28 wx _ hsw⟩, Gr.of ((Below.refl _ _).alloc (Nat.le_refl _) _) hsw⟩
          simp [execOp, go_sem]
        · intro ac wx hS hb hf
          rw [if_pos (wanted_none rfl)]
          have s0 : ac.eval (.tmp 0) = .slice a len cap := (hf 0 (by kernel_rfl)).trans rfl
          have t0 := (ev_tmp ac 0).symm.trans s0
          refine does_val (v := .slice a len cap) (w' := wx) ?_ ⟨rfl, Gr.refl⟩
          simp [execOp, go_sem, t0]
        · intro ac wx hS hb hf
          rw [if_pos (wanted_none rfl)]
          have hsw : W0.heap.size ≤ wx.heap.size := hS.size
          obtain ⟨g0, e0, o0⟩ : ∃ g, ac.eval (.tmp 47) = .slice (some ⟨g, 0, none⟩) 0 0 ∧ wx.ownsRow W0.heap.size 28 4 (ac.eval (.tmp 47)) 0 [] := slot hb 0 0 47 rfl rfl
          have s1 : ac.eval (.tmp 48) = .slice a len cap := slot hb 1 1 48 rfl rfl
          rw [e0] at o0
          obtain ⟨v2, w2, hr, ho2, hb2⟩ := append_empty (P := Try.prog) 22 22 i0 _ 40 Try.underlying22 hi hz0 hz1 hz2 rfl g0 o0 _ len cap (clf fs) (by rw [clf_len, HI.out.1.1.hl]) HF0.out.none (rdF_news (HF0.out.below hS).rd) (clf_one _) (by unfold maxLen; omega) (by omega) hsw
          exact does_val (exec_append rfl e0 s1 hr) ⟨ho2, Gr.of hb2 hsw⟩
        · intro ac wx hS hb hf
          rw [if_pos (wanted_none rfl)]
          have s8 : ac.eval (.tmp 4) = .pointer (some ⟨w.heap.size, 0, none⟩) := (hf 4 (by kernel_rfl)).trans rfl
          have t8 := (ev_tmp ac 4).symm.trans s8
          obtain ⟨_, d0, d1, d2, d3⟩ := HX.out.below hS
          simp only [Nat.zero_add] at d1 d2 d3
          refine does_val (v := .agg #[.string (more : Ft).n, .string (more : Ft).v, .bool (more : Ft).p, .bool (more : Ft).t]) (w' := wx) ?_ ⟨rfl, Gr.refl⟩
          simp [execOp, go_sem, t8, d0, d1, d2, d3]
        · intro ac wx hS hb hf
          rw [if_pos (wanted_none rfl)]
          have hsw : W0.heap.size ≤ wx.heap.size := hS.size
          have s3 : ac.eval (.tmp 50) = .agg #[.string (more : Ft).n, .string (more : Ft).v, .bool (more : Ft).p, .bool (more : Ft).t] := slot hb 0 3 50 rfl rfl
          have t3 := (ev_tmp ac 50).symm.trans s3
          refine does_val (v := .slice (some ⟨wx.heap.size, 0, none⟩) 1 1) (w' := wx.alloc (.cells (clf [more]).toArray 28)) ?_ ⟨⟨_, rfl, heap_alloc_new wx _⟩, Gr.of ((Below.refl _ _).alloc (Nat.le_refl _) _) hsw⟩
          simp [execOp, go_sem, t3, clf]
        · intro ac wx hS hb hf
          rw [if_pos (wanted_none rfl)]
          have hsw : W0.heap.size ≤ wx.heap.size := hS.size
          have o2 : wx.ownsRow W0.heap.size 28 4 (ac.eval (.tmp 49)) len (clf fs) := slot hb 0 2 49 rfl rfl
          obtain ⟨g4, e4, h4⟩ : ∃ g, ac.eval (.tmp 51) = .slice (some ⟨g, 0, none⟩) 1 1 ∧ wx.heap[g]? = some (.cells (clf [more]).toArray 28 (0, 0)) := slot hb 1 4 51 rfl rfl
          have hnw : ∀ j u, (clf [more])[j]? = some u → wx.cell? ((⟨g4, 0, none⟩ : Addr).add j) = some u := fun j u hu => news_at h4 j u hu
          obtain ⟨v5, w5, hr, ho5, hg5⟩ := append_gr (P := Try.prog) (n := len) (m := 1) 22 22 i0 _ 40 Try.underlying22 hi hz0 hz1 hz2 rfl _ (clf fs) o2 ⟨g4, 0, none⟩ 1 (by rfl) hnw (clf_one _) (by decide) (by unfold maxLen; omega) (by omega) hsw
          rw [← clf_append] at ho5
          exact does_val (exec_append rfl rfl e4 hr) ⟨ho5, hg5⟩
        · intro ac wx hS hb hf
          rw [if_pos (wanted_none rfl)]
          have s0 : ac.eval (.tmp 2) = .slice sa sl sc := (hf 2 (by kernel_rfl)).trans rfl
          have t0 := (ev_tmp ac 2).symm.trans s0
          refine does_val (v := .slice sa sl sc) (w' := wx) ?_ ⟨rfl, Gr.refl⟩
          simp [execOp, go_sem, t0]
        · intro ac wx hS hb hf
          rw [if_pos (wanted_none rfl)]
          have hsw : W0.heap.size ≤ wx.heap.size := hS.size
          have o5 : wx.ownsRow W0.heap.size 28 4 (ac.eval (.tmp 52)) (len + 1) (clf (fs ++ [more])) := slot hb 0 5 52 rfl rfl
          obtain ⟨a5, c5, e5, hI5⟩ := own_isF o5
          have t5 := (ev_tmp ac 52).symm.trans e5
          have s6 : ac.eval (.tmp 53) = .slice sa sl sc := slot hb 1 6 53 rfl rfl
          have t6 := (ev_tmp ac 53).symm.trans s6
          refine does_call (f := 14) (args := #[.slice a5 (len + 1) c5, .slice sa sl sc]) (w' := wx) (by simp [go_sem, t5, t6]) ?_
          refine Calls.mono (all_any a5 (len + 1) c5 _ sa sl sc ls wx hI5 HWf.out (HL0.out wx hS)) ?_
          rintro r' w' ⟨rfl, hb'⟩
          exact ⟨_, rfl, congrArg Value.bool HA2.out, Gr.of hb' hsw⟩
        · intro ac wx hS hb hf
          rw [if_pos (wanted_none rfl)]
          have s7 : ac.eval (.tmp 54) = .bool (is && om) := slot hb 0 7 54 rfl rfl
          have t7 := (ev_tmp ac 54).symm.trans s7
          refine does_val (v := .bool (is && om)) (w' := wx) ?_ ⟨rfl, Gr.refl⟩
          simp [execOp, go_sem, t7]
        intro ac u hbu hts hd hdone hfree
        have e12 : ac.eval (.tmp 12) = .bool (is && om) := done_slot hdone 8 12 rfl
        obtain ⟨x47, ex47⟩ : ∃ x, ac.eval (.tmp 47) = x := ⟨_, rfl⟩
        obtain ⟨x48, ex48⟩ : ∃ x, ac.eval (.tmp 48) = x := ⟨_, rfl⟩
        obtain ⟨x49, ex49⟩ : ∃ x, ac.eval (.tmp 49) = x := ⟨_, rfl⟩
        obtain ⟨x50, ex50⟩ : ∃ x, ac.eval (.tmp 50) = x := ⟨_, rfl⟩
        obtain ⟨x51, ex51⟩ : ∃ x, ac.eval (.tmp 51) = x := ⟨_, rfl⟩
        obtain ⟨x52, ex52⟩ : ∃ x, ac.eval (.tmp 52) = x := ⟨_, rfl⟩
        obtain ⟨x53, ex53⟩ : ∃ x, ac.eval (.tmp 53) = x := ⟨_, rfl⟩
        obtain ⟨x54, ex54⟩ : ∃ x, ac.eval (.tmp 54) = x := ⟨_, rfl⟩
        have hact := act_puts hts hd hfree
        simp only [putAll, List.foldl_cons, List.foldl_nil, ex47, ex48, ex49, ex50, ex51, ex52, ex53, ex54, e12, Act.put] at hact
        simp at hact
        clear ex47 ex48 ex49 ex50 ex51 ex52 ex53 ex54 e12 hts hd hdone hfree
        subst hact
        have H3 : Hid (Below W0.heap.size W0 u) := hbu
        obtain ⟨z0, c0, c1, c2, c3⟩ := HX.out.below H3.out
        simp only [Nat.zero_add] at c1 c2 c3
        clear hbu
        go_wp2_with fail
        refine (all_any ta (2 * len) tc (tw fs) sa sl sc ls u (HT2.out.below H3.out) HWt.out (HL0.out _ H3.out)).mono ?_
        rintro e w5 ⟨rfl, hb⟩
        rw [tw_all, ← his.out]
        have H5 : Hid (Below W0.heap.size W0 w5) := H3.out.trans (hb.mono H3.out.size)
        clear hb z0 c0 c1 c2 c3
        obtain ⟨z0, c0, c1, c2, c3⟩ := HX.out.below H5.out
        simp only [Nat.zero_add] at c1 c2 c3
        have HE : Hid (∀ W, Below W0.heap.size W0 W → Calls Try.prog 14 #[.slice none 0 0, .slice sa sl sc] W fun e w' => e = .returned (.bool true) ∧ Below W.heap.size W w') := fun W h => all_any none 0 0 [] sa sl sc ls W (isF_nil W) (fun _ h => by cases h) (HL0.out W h)
        cases is with
        | false =>
          go_wp2_with fail
          refine Calls.mono (HE.out _ H5.out) ?_
          rintro e w6 ⟨rfl, hb⟩
          have H6 : Hid (Below w.heap.size w w6) := HB1.out.trans ((HR2.out.trans ((H5.out.trans (hb.mono H5.out.size)).mono HR2.out.size)).mono HB1.out.size)
          clear hb
          go_wp2_with fail
          go_ret
          exact ⟨rfl, H6.out⟩
        | true =>
          have HO : Hid (∀ W, Below W0.heap.size W0 W → Calls Try.prog 10 #[.agg #[.string more.n, .string more.v, .bool more.p, .bool more.t], .slice sa sl sc] W fun e w' => e = .returned (.bool om) ∧ Below W.heap.size W w') := fun W h => by
            rw [hom.out]; exact one_any more sa sl sc ls W (HL0.out W h)
          go_wp2_with fail
          refine Calls.mono (HO.out _ H5.out) ?_
          rintro e w7 ⟨rfl, hb⟩
          have H7 : Hid (Below W0.heap.size W0 w7) := H5.out.trans (hb.mono H5.out.size)
          clear hb
          cases om
          all_goals
            go_wp2_with fail
            refine Calls.mono (HE.out _ H7.out) ?_
            rintro e w6 ⟨rfl, hb⟩
            have H6 : Hid (Below w.heap.size w w6) := HB1.out.trans ((HR2.out.trans ((H7.out.trans (hb.mono H7.out.size)).mono HR2.out.size)).mono HB1.out.size)
            clear hb
            go_wp2_with fail
            go_ret
            exact ⟨rfl, H6.out⟩

set_option maxRecDepth 100000 in
theorem filterTurned_lifted (os : Os) (started : os.Started) (H : Type) (enc : TypeId × Value → H) :
    ReturnsInHanded {} Try.checked os 4 .any (Rows.filterTurnedSpec.pre6 enc Try.prog Try.f4 Rows.filterTurnedRow.domain false) (Rows.filterTurnedSpec.post enc Try.prog Try.f4 false true false false) := by
  refine returnsInHanded_of_change_sized (C := Try.checked) own started (by kernel_rfl) Try.func4
    (ChangeSpec.witness6 (enc := enc) (C := Try.checked) false ⟨#[], #[.slice none 0 0, .agg #[.string ⟨#[]⟩, .string ⟨#[]⟩, .bool false, .bool false], .slice none 0 0], []⟩ 8 (by kernel_rfl) (by kernel_rfl) (by kernel_rfl) (by kernel_rfl)) ?_
  intro W base args ds gs before hval0 hW hcnd hsz0 _
  have hval : ∀ (j : Nat) t v, Try.f4.params[j]? = some t → args[j]? = some v → Value.okWide Try.prog W .any base t v := hval0
  have hW' := hW
  obtain ⟨p, q, hA0, hV, rfl, hfz, hnd⟩ := hW
  have hA : DataW.TrodAll enc Try.prog W 0 (fun _ => true) true Try.f4.params.toList args.toList ds p := hA0
  have hsz : (DataW.weightsEach Try.prog (Try.f4.params.toList ++ Rows.filterTurnedSpec.plain.varTypes Try.prog) (ds ++ gs)).all (· ≤ reachBytes) = true := hsz0
  clear hsz0
  rw [Try.params4] at hA hval hsz
  obtain ⟨v0, vs0, d0, ds0, p0, q0, hargs, rfl, rfl, h0, r0⟩ := trodAll_cons hA
  obtain ⟨v1, vs1, d1, ds1, p1, q1, rfl, rfl, rfl, h1, r1⟩ := trodAll_cons r0
  obtain ⟨v2, vs2, d2, ds2, p2, q2, rfl, rfl, rfl, h2, r2⟩ := trodAll_cons r1
  obtain ⟨rfl, rfl, rfl⟩ := trodAll_nil r2
  obtain rfl : args = #[v0, v1, v2] := by cases args; simp_all
  obtain ⟨rfl, rfl⟩ := trodVars_none hV
  obtain ⟨a0, len0, cap0, rfl⟩ := okWide_slice Try.underlying22 (hval 0 22 v0 rfl rfl)
  have k0 := h0
  have hlen0 : len0 * 40 ≤ 140737488351232 := by
    obtain ⟨fuel, hf⟩ := h0
    rcases slice_data Try.underlying22 hf with h | ⟨el, rs, he, hel⟩
    · omega
    · simp only at he
      subst he
      have := sized_slice hsz (j := 0) (t := 22) (e := 28) rfl rfl Try.underlying22
      rw [show Try.prog.bytesOf 28 = 40 by kernel_rfl] at this
      simp only [reachBytes] at this
      have h2 : el.length * 40 ≤ (el.length + rs.length) * 40 := Nat.mul_le_mul_right _ (Nat.le_add_right _ _)
      omega
  have lt0 : ∀ x ∈ p0, x.block < W.heap.size := by obtain ⟨m, hm⟩ := k0; exact DataW.trod_lt m _ _ _ hm
  obtain ⟨vl0, w0, wf0⟩ : ∃ ls, IsF W a0 len0 cap0 ls ∧ WfF ls := by obtain ⟨fuel, hf⟩ := h0; exact isF_of hf
  obtain ⟨f1, rfl, rfl, w1, sh1⟩ := open_f (hval 1 28 v1 rfl rfl) h1
  obtain ⟨a2, len2, cap2, rfl⟩ := okWide_slice Try.underlying23 (hval 2 23 v2 rfl rfl)
  have k2 := h2
  have lt2 : ∀ x ∈ p2, x.block < W.heap.size := by obtain ⟨m, hm⟩ := k2; exact DataW.trod_lt m _ _ _ hm
  obtain ⟨vl2, w2, wf2⟩ : ∃ ls, IsL W a2 len2 cap2 ls ∧ WfL ls := by obtain ⟨fuel, hf⟩ := h2; exact isL_of hf
  clear hA0 hval0
  refine (filterTurned_walk a0 len0 cap0 vl0 w0 wf0 hlen0 f1 w1 a2 len2 cap2 vl2 w2 wf2 rfl).mono fun e W' ⟨he, hb⟩ => ?_
  subst he
  exact ⟨_, rfl, _, _, _, [], _, [], hW', trodAll_mk1 (shut_bool Try.underlying4 _), (trodAll_cons_mk (Below.trod laidOut (by kernel_rfl) (of_decide_eq_true (by kernel_rfl)) k0 hb lt0) (trodAll_cons_mk (sh1 _ _ _ _) (trodAll_cons_mk (Below.trod laidOut (by kernel_rfl) (of_decide_eq_true (by kernel_rfl)) k2 hb lt2) trodAll_mk0))), rfl, hb.frame _, fun h => by cases h⟩

theorem filterTurned_holds : Rows.FilterTurnedSaid :=
  OpenClaim.holds_of_wide 4 Try.f4 rfl rfl rfl rfl rfl rfl rfl ⟨rfl, rfl, rfl, rfl, rfl⟩ rfl rfl rfl rfl rfl (by kernel_rfl) Try.func4 (by kernel_rfl)
    (of_decide_eq_true (by kernel_rfl)) (by unfold Func.isWrapper; first | (rw [if_pos (by decide +kernel)]; kernel_rfl) | (rw [if_neg (by decide +kernel)]; exact ⟨rfl, rfl⟩))
    (fun os started H enc _ => filterTurned_lifted os started H enc)
#print axioms filterTurned_holds
end Go.Proofs.Ytejdpelolihpeaa
