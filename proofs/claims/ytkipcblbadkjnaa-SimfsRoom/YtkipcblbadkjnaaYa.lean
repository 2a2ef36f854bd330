/- The contract of cloner's closure: each file's clone is made once. Conditions: those of each theorem. -/
import Derived.Test.YtkipcblbadkjnaaU
import Derived.Test.YtkipcblbadkjnaaO
namespace Go.Proofs.Ytkipcblbadkjnaa
open Go.RowKit
open Go.Maps (Keyed)

/-- Block b is a map that has these files for the numbers. -/
def Nm (w : World) (b n : Nat) (f : Int → Option Nat) : Prop :=
  ∃ D : DataW Nat, w.ownsMap Try.prog 3 ptrElem b n D ∧ ∀ i : Int, D.atKey (.int .i64 i) .nil = rdp (f i)
theorem Nm.lt {w : World} {b n : Nat} {f : Int → Option Nat} (h : Nm w b n f) : b < w.heap.size := by obtain ⟨D, h, _⟩ := h; exact h.lt
theorem Nm.kept {w w' : World} {b n : Nat} {f : Int → Option Nat} (h : Nm w b n f) (he : w'.heap[b]? = w.heap[b]?) : Nm w' b n f := by
  obtain ⟨D, ⟨es, clock, hb, r⟩, h2⟩ := h
  exact ⟨D, ⟨es, clock, he.trans hb, r⟩, h2⟩
theorem Nm.tg {w : World} {b n : Nat} {f : Int → Option Nat} (h : Nm w b n f) : tg w b = some 0 := by
  obtain ⟨D, ⟨es, clock, hb, _⟩, _⟩ := h
  simp [Ytkipcblbadkjnaa.tg, hb]
theorem Nm.made (w : World) : Nm (w.alloc (.map #[] 0)) w.heap.size 0 (fun _ => none) := ⟨_, World.ownsMap_made w _ _ _, fun _ => rfl⟩
theorem Nm.look {w : World} {b n : Nat} {f : Int → Option Nat} (h : Nm w b n f) (i : Int) (hi : 0 ≤ i ∧ i ≤ 4000000) :
    (Instr.lookup 111 (.map (some b)) (.int .i64 i) false).run Try.prog w = .ok (pv (f i)) w := by
  obtain ⟨D, h1, h2⟩ := h
  obtain ⟨v, ps, hrun, hv⟩ := h1.lookup (Maps.int_keyed Try.underlying3) Try.underlying111 (Try.zeroValue76 w) (ptrElem_pv none) (Maps.keyOf_int_mk Try.underlying3 (wf64 hi))
  rw [show (rdp none : DataW Nat) = .nil from rfl, h2 i] at hv
  obtain ⟨o, rfl, ho⟩ := ptrElem_inv hv
  rw [hrun, rdp_inj (congrArg Prod.fst ho)]
theorem Nm.put {w : World} {b n : Nat} {f : Int → Option Nat} (h : Nm w b n f) (i : Int) (hi : 0 ≤ i ∧ i ≤ 4000000) (g : Nat) (hn : n < maxLen) :
    ∃ w', (Instr.mapUpdate 111 (.map (some b)) (.int .i64 i) (.pointer (some ⟨g, 0, none⟩))).run Try.prog w = .ok () w' ∧ Nm w' b (n + 1) (fun j => if j = i then some g else f j) ∧ w.grownBy w' (some b) := by
  obtain ⟨D, h1, h2⟩ := h
  have hm := h1.isMap
  obtain ⟨w', hrun, ho, ht⟩ := h1.update (Maps.int_keyed Try.underlying3) Try.underlying111 hn (Maps.keyOf_int_mk Try.underlying3 (wf64 hi)) (ptrElem_pv (some g))
  refine ⟨w', hrun, ⟨_, ho, fun j => ?_⟩, ht⟩
  by_cases e : j = i
  · subst e
    rw [Maps.atKey_put_same hm (show WideAt.IsKeyLit (.int .i64 j) from trivial)]
    simp
  · rw [Maps.atKey_put_other (by simpa using e) _ _, h2]
    simp [e]

set_option linter.unusedSimpArgs false in
set_option maxRecDepth 100000 in
set_option maxHeartbeats 4000000 in
theorem own_old (Bc mb n g : Nat) (nu : Int) (f : Int → Option Nat) (h : Nat) (w : World) (hB : w.cell? ⟨Bc, 0, none⟩ = some (.map (some mb))) (hM : Nm w mb n f) (hg : w.cell? ⟨g, 0, none⟩ = some (.int .i64 nu)) (hnu : 0 ≤ nu ∧ nu ≤ 4000000) (hf : f nu = some h) :
    Calls Try.prog 70 #[.pointer (some ⟨g, 0, none⟩), .pointer (some ⟨Bc, 0, none⟩)] w fun e w' => e = .returned (.pointer (some ⟨h, 0, none⟩)) ∧ Below w.heap.size w w' := by
  have cB := hB
  have g0 := hg
  have hBl : Bc < w.heap.size := World.block_lt_of_cell? w _ hB
  have hgl : g < w.heap.size := World.block_lt_of_cell? w _ hg
  have HLK : Hid (∀ W, Below w.heap.size w W → (Instr.lookup 111 (.map (some mb)) (.int .i64 nu) false).run Try.prog W = .ok (.pointer (some ⟨h, 0, none⟩)) W) := fun W hW => by
    have := (hM.kept (hW.block mb hM.lt)).look nu hnu
    rw [hf] at this
    exact this
  clear hB hM hg hf
  go_enter Try.func70, Try.ntmps70
  go_wp2_with fail
  refine wp_region_K (by kernel_rfl) (by kernel_rfl) [.eq (.map (some mb)), .eq (.pointer (some ⟨g, 0, none⟩)), .eq (.pointer (some ⟨g, 0, none⟩)), .eq (.pointer (some ⟨g, 0, none⟩)), .eq (.int .i64 nu), .eq (.pointer (some ⟨h, 0, none⟩)), .eq (.pointer (some ⟨h, 0, none⟩))] w (Below.refl _ _) (allOps_cons ?_ (allOps_cons ?_ (allOps_cons ?_ (allOps_cons ?_ (allOps_cons ?_ (allOps_cons ?_ (allOps_cons ?_ allOps_nil))))))) ?_
  · intro a wx hS hb hf
    have s1 : a.eval (.tmp 1) = .pointer (some ⟨Bc, 0, none⟩) := (hf 1 (by kernel_rfl)).trans rfl
    rw [if_pos (wanted_none rfl)]
    have d0 := (hS.cell (p := ⟨Bc, 0, none⟩) hBl).trans cB
    refine does_val (v := .map (some mb)) (w' := wx) ?_ ⟨rfl, Below.refl _ _⟩
    have t1 := (ev_tmp a 1).symm.trans s1
    simp [execOp, go_sem, t1, d0]
  · intro a wx hS hb hf
    have s0 : a.eval (.tmp 0) = .pointer (some ⟨g, 0, none⟩) := (hf 0 (by kernel_rfl)).trans rfl
    rw [if_pos (wanted_none rfl)]
    refine does_val (v := .pointer (some ⟨g, 0, none⟩)) (w' := wx) ?_ ⟨rfl, Below.refl _ _⟩
    have t0 := (ev_tmp a 0).symm.trans s0
    simp [execOp, go_sem, t0]
  · intro a wx hS hb hf
    have s8 : a.eval (.tmp 8) = .pointer (some ⟨g, 0, none⟩) := slot hb 0 1 8 rfl rfl
    rw [if_pos (wanted_none rfl)]
    refine does_val (v := .pointer (some ⟨g, 0, none⟩)) (w' := wx) ?_ ⟨rfl, Below.refl _ _⟩
    have t8 := (ev_tmp a 8).symm.trans s8
    simp [execOp, go_sem, t8]
  · intro a wx hS hb hf
    have s9 : a.eval (.tmp 9) = .pointer (some ⟨g, 0, none⟩) := slot hb 0 2 9 rfl rfl
    rw [if_pos (wanted_none rfl)]
    refine does_val (v := .pointer (some ⟨g, 0, none⟩)) (w' := wx) ?_ ⟨rfl, Below.refl _ _⟩
    have t9 := (ev_tmp a 9).symm.trans s9
    simp [execOp, go_sem, t9]
  · intro a wx hS hb hf
    have s10 : a.eval (.tmp 10) = .pointer (some ⟨g, 0, none⟩) := slot hb 0 3 10 rfl rfl
    rw [if_pos (wanted_none rfl)]
    have d0 := (hS.cell (p := ⟨g, 0, none⟩) hgl).trans g0
    refine does_val (v := .int .i64 nu) (w' := wx) ?_ ⟨rfl, Below.refl _ _⟩
    have t10 := (ev_tmp a 10).symm.trans s10
    simp [execOp, go_sem, t10, d0]
  · intro a wx hS hb hf
    have s7 : a.eval (.tmp 7) = .map (some mb) := slot hb 0 0 7 rfl rfl
    have s11 : a.eval (.tmp 11) = .int .i64 nu := slot hb 1 4 11 rfl rfl
    rw [if_pos (wanted_none rfl)]
    have hlk := HLK.out wx hS
    refine does_val (v := .pointer (some ⟨h, 0, none⟩)) (w' := wx) ?_ ⟨rfl, Below.refl _ _⟩
    have t7 := (ev_tmp a 7).symm.trans s7
    have t11 := (ev_tmp a 11).symm.trans s11
    simp [execOp, go_sem, t7, t11, hlk]
  · intro a wx hS hb hf
    have s12 : a.eval (.tmp 12) = .pointer (some ⟨h, 0, none⟩) := slot hb 0 5 12 rfl rfl
    rw [if_pos (wanted_none rfl)]
    refine does_val (v := .pointer (some ⟨h, 0, none⟩)) (w' := wx) ?_ ⟨rfl, Below.refl _ _⟩
    have t12 := (ev_tmp a 12).symm.trans s12
    simp [execOp, go_sem, t12]
  intro a u hbu hts hd hdone hfree
  have e4 : a.eval (.tmp 4) = .pointer (some ⟨h, 0, none⟩) := done_slot hdone 6 4 rfl
  obtain ⟨x7, ex7⟩ : ∃ x, a.eval (.tmp 7) = x := ⟨_, rfl⟩
  obtain ⟨x8, ex8⟩ : ∃ x, a.eval (.tmp 8) = x := ⟨_, rfl⟩
  obtain ⟨x9, ex9⟩ : ∃ x, a.eval (.tmp 9) = x := ⟨_, rfl⟩
  obtain ⟨x10, ex10⟩ : ∃ x, a.eval (.tmp 10) = x := ⟨_, rfl⟩
  obtain ⟨x11, ex11⟩ : ∃ x, a.eval (.tmp 11) = x := ⟨_, rfl⟩
  obtain ⟨x12, ex12⟩ : ∃ x, a.eval (.tmp 12) = x := ⟨_, rfl⟩
  have hact := act_puts hts hd hfree
  simp only [putAll, List.foldl_cons, List.foldl_nil, ex7, ex8, ex9, ex10, ex11, ex12, e4, Act.put] at hact
  simp at hact
  clear ex7 ex8 ex9 ex10 ex11 ex12 e4 hts hd hdone hfree
  subst hact
  have HB : Hid (Below w.heap.size w u) := hbu
  clear hbu
  go_wp2_with fail
  go_ret
  exact ⟨rfl, HB.out⟩

set_option linter.unusedSimpArgs false in
set_option maxRecDepth 100000 in
set_option maxHeartbeats 8000000 in
theorem own_new (Bc mb n g len : Nat) (nu st : Int) (bs : List Int) (ra : Option Addr) (rc : Nat) (dn_ : Int → Option Nat) (w : World) (hB : w.cell? ⟨Bc, 0, none⟩ = some (.map (some mb))) (hM : Nm w mb n dn_)
    (hc : w.heap[g]? = some (.cells #[.int .i64 nu, .slice ra len rc, .int .i64 st] 79)) (hz : bs.length = len) (hrd : Rd .u8 w ra bs) (hlen : len ≤ 1048576) (hnu : 0 ≤ nu ∧ nu ≤ 4000000) (hf : dn_ nu = none) (hn : n < 100000000) :
    Calls Try.prog 70 #[.pointer (some ⟨g, 0, none⟩), .pointer (some ⟨Bc, 0, none⟩)] w fun e w' => ∃ h N, e = .returned (.pointer (some ⟨h, 0, none⟩)) ∧ w.heap.size ≤ h ∧ w.heap.size ≤ N ∧
      w'.heap[h]? = some (.cells #[.int .i64 nu, .slice (some ⟨N, 0, none⟩) len len, .int .i64 st] 79) ∧ w'.ownsRow w.heap.size 5 1 (.slice (some ⟨N, 0, none⟩) len len) len (bs.map (Value.int .u8)) ∧
      Nm w' mb (n + 1) (fun i => if i = nu then some h else dn_ i) ∧ Kp (fun k => k = mb) w w' := by
  have cB := hB
  have hgl : g < w.heap.size := (Array.getElem?_eq_some_iff.1 hc).1
  have g0 : w.cell? ⟨g, 0, none⟩ = some (.int .i64 nu) := by simp [World.cell?, hc]
  have hBl : Bc < w.heap.size := World.block_lt_of_cell? w _ hB
  have HC : Hid (w.heap[g]? = some (.cells #[.int .i64 nu, .slice ra len rc, .int .i64 st] 79)) := hc
  have HM : Hid (Nm w mb n dn_) := hM
  have HRD : Hid (Rd .u8 w ra bs) := hrd
  have HZ : Hid (bs.length = len) := hz
  have HLK : Hid (∀ W, Below w.heap.size w W → (Instr.lookup 111 (.map (some mb)) (.int .i64 nu) false).run Try.prog W = .ok (.pointer none) W) := fun W hW => by
    have := (hM.kept (hW.block mb hM.lt)).look nu hnu
    rw [hf] at this
    exact this
  clear hB hM hc hf hrd hz
  go_enter Try.func70, Try.ntmps70
  go_wp2_with fail
  refine wp_region_K (by kernel_rfl) (by kernel_rfl) [.eq (.map (some mb)), .eq (.pointer (some ⟨g, 0, none⟩)), .eq (.pointer (some ⟨g, 0, none⟩)), .eq (.pointer (some ⟨g, 0, none⟩)), .eq (.int .i64 nu), .eq (.pointer none), .eq (.pointer none)] w (Below.refl _ _) (allOps_cons ?_ (allOps_cons ?_ (allOps_cons ?_ (allOps_cons ?_ (allOps_cons ?_ (allOps_cons ?_ (allOps_cons ?_ allOps_nil))))))) ?_
  · intro a wx hS hb hf
    have s1 : a.eval (.tmp 1) = .pointer (some ⟨Bc, 0, none⟩) := (hf 1 (by kernel_rfl)).trans rfl
    rw [if_pos (wanted_none rfl)]
    have d0 := (hS.cell (p := ⟨Bc, 0, none⟩) hBl).trans cB
    refine does_val (v := .map (some mb)) (w' := wx) ?_ ⟨rfl, Below.refl _ _⟩
    have t1 := (ev_tmp a 1).symm.trans s1
    simp [execOp, go_sem, t1, d0]
  · intro a wx hS hb hf
    have s0 : a.eval (.tmp 0) = .pointer (some ⟨g, 0, none⟩) := (hf 0 (by kernel_rfl)).trans rfl
    rw [if_pos (wanted_none rfl)]
    refine does_val (v := .pointer (some ⟨g, 0, none⟩)) (w' := wx) ?_ ⟨rfl, Below.refl _ _⟩
    have t0 := (ev_tmp a 0).symm.trans s0
    simp [execOp, go_sem, t0]
  · intro a wx hS hb hf
    have s8 : a.eval (.tmp 8) = .pointer (some ⟨g, 0, none⟩) := slot hb 0 1 8 rfl rfl
    rw [if_pos (wanted_none rfl)]
    refine does_val (v := .pointer (some ⟨g, 0, none⟩)) (w' := wx) ?_ ⟨rfl, Below.refl _ _⟩
    have t8 := (ev_tmp a 8).symm.trans s8
    simp [execOp, go_sem, t8]
  · intro a wx hS hb hf
    have s9 : a.eval (.tmp 9) = .pointer (some ⟨g, 0, none⟩) := slot hb 0 2 9 rfl rfl
    rw [if_pos (wanted_none rfl)]
    refine does_val (v := .pointer (some ⟨g, 0, none⟩)) (w' := wx) ?_ ⟨rfl, Below.refl _ _⟩
    have t9 := (ev_tmp a 9).symm.trans s9
    simp [execOp, go_sem, t9]
  · intro a wx hS hb hf
    have s10 : a.eval (.tmp 10) = .pointer (some ⟨g, 0, none⟩) := slot hb 0 3 10 rfl rfl
    rw [if_pos (wanted_none rfl)]
    have d0 := (hS.cell (p := ⟨g, 0, none⟩) hgl).trans g0
    refine does_val (v := .int .i64 nu) (w' := wx) ?_ ⟨rfl, Below.refl _ _⟩
    have t10 := (ev_tmp a 10).symm.trans s10
    simp [execOp, go_sem, t10, d0]
  · intro a wx hS hb hf
    have s7 : a.eval (.tmp 7) = .map (some mb) := slot hb 0 0 7 rfl rfl
    have s11 : a.eval (.tmp 11) = .int .i64 nu := slot hb 1 4 11 rfl rfl
    rw [if_pos (wanted_none rfl)]
    have hlk := HLK.out wx hS
    refine does_val (v := .pointer none) (w' := wx) ?_ ⟨rfl, Below.refl _ _⟩
    have t7 := (ev_tmp a 7).symm.trans s7
    have t11 := (ev_tmp a 11).symm.trans s11
    simp [execOp, go_sem, t7, t11, hlk]
  · intro a wx hS hb hf
    have s12 : a.eval (.tmp 12) = .pointer none := slot hb 0 5 12 rfl rfl
    rw [if_pos (wanted_none rfl)]
    refine does_val (v := .pointer none) (w' := wx) ?_ ⟨rfl, Below.refl _ _⟩
    have t12 := (ev_tmp a 12).symm.trans s12
    simp [execOp, go_sem, t12]
  intro a u hbu hts hd hdone hfree
  have e4 : a.eval (.tmp 4) = .pointer none := done_slot hdone 6 4 rfl
  obtain ⟨x7, ex7⟩ : ∃ x, a.eval (.tmp 7) = x := ⟨_, rfl⟩
  obtain ⟨x8, ex8⟩ : ∃ x, a.eval (.tmp 8) = x := ⟨_, rfl⟩
  obtain ⟨x9, ex9⟩ : ∃ x, a.eval (.tmp 9) = x := ⟨_, rfl⟩
  obtain ⟨x10, ex10⟩ : ∃ x, a.eval (.tmp 10) = x := ⟨_, rfl⟩
  obtain ⟨x11, ex11⟩ : ∃ x, a.eval (.tmp 11) = x := ⟨_, rfl⟩
  obtain ⟨x12, ex12⟩ : ∃ x, a.eval (.tmp 12) = x := ⟨_, rfl⟩
  have hact := act_puts hts hd hfree
  simp only [putAll, List.foldl_cons, List.foldl_nil, ex7, ex8, ex9, ex10, ex11, ex12, e4, Act.put] at hact
  simp at hact
  clear ex7 ex8 ex9 ex10 ex11 ex12 e4 hts hd hdone hfree
  subst hact
  have HB : Hid (Below w.heap.size w u) := hbu
  have hcu := (hbu.block g hgl).trans HC.out
  have u0 : u.cell? ⟨g, 0, none⟩ = some (.int .i64 nu) := by simp [World.cell?, hcu]
  have u1 : u.cell? ⟨g, 1, none⟩ = some (.slice ra len rc) := by simp [World.cell?, hcu]
  have u2 : u.cell? ⟨g, 2, none⟩ = some (.int .i64 st) := by simp [World.cell?, hcu]
  have hgu : g < u.heap.size := Nat.lt_of_lt_of_le hgl hbu.size
  have HRU : Hid (Rd .u8 u ra bs) := HRD.out.below hbu
  clear hbu hcu
  go_wp2_with fail
  refine wp_region_K (by kernel_rfl) (by kernel_rfl) [.eq (.pointer (some ⟨g, 0, none⟩)), .eq (.pointer (some ⟨g, 0, none⟩)), .eq (.pointer (some ⟨g, 0, none⟩)), .eq (.int .i64 nu), .eq (.pointer (some ⟨g, 0, none⟩)), .eq (.pointer (some ⟨g, 0, none⟩)), .eq (.pointer (some ⟨g, 1, none⟩)), .eq (.slice ra len rc), ⟨fun v W => ∃ N, v = .slice (some ⟨N, 0, none⟩) len len ∧ u.heap.size ≤ N ∧ W.ownsRow u.heap.size 5 1 v len (bs.map (Value.int .u8)), fun _ _ _ ⟨N, h1, h2, h3⟩ hb => ⟨N, h1, h2, own_kept h3 (fun k e => hb.block k (tg_lt (own_tg h3 e)))⟩⟩, .eq (.pointer (some ⟨g, 0, none⟩)), .eq (.pointer (some ⟨g, 0, none⟩)), .eq (.pointer (some ⟨g, 2, none⟩)), .eq (.int .i64 st), ⟨fun v W => ∃ N, v = .agg #[.int .i64 nu, .slice (some ⟨N, 0, none⟩) len len, .int .i64 st] ∧ u.heap.size ≤ N ∧ W.ownsRow u.heap.size 5 1 (.slice (some ⟨N, 0, none⟩) len len) len (bs.map (Value.int .u8)), fun _ _ _ ⟨N, h1, h2, h3⟩ hb => ⟨N, h1, h2, own_kept h3 (fun k e => hb.block k (tg_lt (own_tg h3 e)))⟩⟩, ⟨fun v W => ∃ h N, v = .pointer (some ⟨h, 0, none⟩) ∧ u.heap.size ≤ N ∧ u.heap.size ≤ h ∧ W.heap[h]? = some (.cells #[.int .i64 nu, .slice (some ⟨N, 0, none⟩) len len, .int .i64 st] 79) ∧ W.ownsRow u.heap.size 5 1 (.slice (some ⟨N, 0, none⟩) len len) len (bs.map (Value.int .u8)), fun _ _ _ ⟨h, N, h1, h2, h3, h4, h5⟩ hb => ⟨h, N, h1, h2, h3, (hb.block h (Array.getElem?_eq_some_iff.1 h4).1).trans h4, own_kept h5 (fun k e => hb.block k (tg_lt (own_tg h5 e)))⟩⟩, ⟨fun v W => ∃ h N, v = .pointer (some ⟨h, 0, none⟩) ∧ u.heap.size ≤ N ∧ u.heap.size ≤ h ∧ W.heap[h]? = some (.cells #[.int .i64 nu, .slice (some ⟨N, 0, none⟩) len len, .int .i64 st] 79) ∧ W.ownsRow u.heap.size 5 1 (.slice (some ⟨N, 0, none⟩) len len) len (bs.map (Value.int .u8)), fun _ _ _ ⟨h, N, h1, h2, h3, h4, h5⟩ hb => ⟨h, N, h1, h2, h3, (hb.block h (Array.getElem?_eq_some_iff.1 h4).1).trans h4, own_kept h5 (fun k e => hb.block k (tg_lt (own_tg h5 e)))⟩⟩] u (Below.refl _ _) (allOps_cons ?_ (allOps_cons ?_ (allOps_cons ?_ (allOps_cons ?_ (allOps_cons ?_ (allOps_cons ?_ (allOps_cons ?_ (allOps_cons ?_ (allOps_cons ?_ (allOps_cons ?_ (allOps_cons ?_ (allOps_cons ?_ (allOps_cons ?_ (allOps_cons ?_ (allOps_cons ?_ (allOps_cons ?_ allOps_nil)))))))))))))))) ?_
  · intro a wx hS hb hf
    have s0 : a.eval (.tmp 0) = .pointer (some ⟨g, 0, none⟩) := (hf 0 (by kernel_rfl)).trans rfl
    rw [if_pos (wanted_none rfl)]
    refine does_val (v := .pointer (some ⟨g, 0, none⟩)) (w' := wx) ?_ ⟨rfl, Below.refl _ _⟩
    have t0 := (ev_tmp a 0).symm.trans s0
    simp [execOp, go_sem, t0]
  · intro a wx hS hb hf
    have s15 : a.eval (.tmp 15) = .pointer (some ⟨g, 0, none⟩) := slot hb 0 0 15 rfl rfl
    rw [if_pos (wanted_none rfl)]
    refine does_val (v := .pointer (some ⟨g, 0, none⟩)) (w' := wx) ?_ ⟨rfl, Below.refl _ _⟩
    have t15 := (ev_tmp a 15).symm.trans s15
    simp [execOp, go_sem, t15]
  · intro a wx hS hb hf
    have s16 : a.eval (.tmp 16) = .pointer (some ⟨g, 0, none⟩) := slot hb 0 1 16 rfl rfl
    rw [if_pos (wanted_none rfl)]
    refine does_val (v := .pointer (some ⟨g, 0, none⟩)) (w' := wx) ?_ ⟨rfl, Below.refl _ _⟩
    have t16 := (ev_tmp a 16).symm.trans s16
    simp [execOp, go_sem, t16]
  · intro a wx hS hb hf
    have s17 : a.eval (.tmp 17) = .pointer (some ⟨g, 0, none⟩) := slot hb 0 2 17 rfl rfl
    rw [if_pos (wanted_none rfl)]
    have d0 := (hS.cell (p := ⟨g, 0, none⟩) hgu).trans u0
    refine does_val (v := .int .i64 nu) (w' := wx) ?_ ⟨rfl, Below.refl _ _⟩
    have t17 := (ev_tmp a 17).symm.trans s17
    simp [execOp, go_sem, t17, d0]
  · intro a wx hS hb hf
    have s0 : a.eval (.tmp 0) = .pointer (some ⟨g, 0, none⟩) := (hf 0 (by kernel_rfl)).trans rfl
    rw [if_pos (wanted_none rfl)]
    refine does_val (v := .pointer (some ⟨g, 0, none⟩)) (w' := wx) ?_ ⟨rfl, Below.refl _ _⟩
    have t0 := (ev_tmp a 0).symm.trans s0
    simp [execOp, go_sem, t0]
  · intro a wx hS hb hf
    have s19 : a.eval (.tmp 19) = .pointer (some ⟨g, 0, none⟩) := slot hb 0 4 19 rfl rfl
    rw [if_pos (wanted_none rfl)]
    refine does_val (v := .pointer (some ⟨g, 0, none⟩)) (w' := wx) ?_ ⟨rfl, Below.refl _ _⟩
    have t19 := (ev_tmp a 19).symm.trans s19
    simp [execOp, go_sem, t19]
  · intro a wx hS hb hf
    have s20 : a.eval (.tmp 20) = .pointer (some ⟨g, 0, none⟩) := slot hb 0 5 20 rfl rfl
    rw [if_pos (wanted_none rfl)]
    refine does_val (v := .pointer (some ⟨g, 1, none⟩)) (w' := wx) ?_ ⟨rfl, Below.refl _ _⟩
    have t20 := (ev_tmp a 20).symm.trans s20
    simp [execOp, go_sem, t20]
  · intro a wx hS hb hf
    have s21 : a.eval (.tmp 21) = .pointer (some ⟨g, 1, none⟩) := slot hb 0 6 21 rfl rfl
    rw [if_pos (wanted_none rfl)]
    have d0 := (hS.cell (p := ⟨g, 1, none⟩) hgu).trans u1
    refine does_val (v := .slice ra len rc) (w' := wx) ?_ ⟨rfl, Below.refl _ _⟩
    have t21 := (ev_tmp a 21).symm.trans s21
    simp [execOp, go_sem, t21, d0]
  · intro a wx hS hb hf
    have s22 : a.eval (.tmp 22) = .slice ra len rc := slot hb 0 7 22 rfl rfl
    rw [if_pos (wanted_none rfl)]
    have t22 := (ev_tmp a 22).symm.trans s22
    refine does_call (f := 46) (args := #[.slice ra len rc]) (w' := wx) (by simp [go_sem, t22]) ?_
    refine (copied_any ra len rc bs wx HZ.out (HRU.out.below hS) (by omega)).mono ?_
    rintro r w' ⟨rfl, ho, hbb⟩
    exact ⟨_, rfl, ⟨_, rfl, hS.size, own_base ho hS.size⟩, hbb⟩
  · intro a wx hS hb hf
    have s0 : a.eval (.tmp 0) = .pointer (some ⟨g, 0, none⟩) := (hf 0 (by kernel_rfl)).trans rfl
    rw [if_pos (wanted_none rfl)]
    refine does_val (v := .pointer (some ⟨g, 0, none⟩)) (w' := wx) ?_ ⟨rfl, Below.refl _ _⟩
    have t0 := (ev_tmp a 0).symm.trans s0
    simp [execOp, go_sem, t0]
  · intro a wx hS hb hf
    have s24 : a.eval (.tmp 24) = .pointer (some ⟨g, 0, none⟩) := slot hb 0 9 24 rfl rfl
    rw [if_pos (wanted_none rfl)]
    refine does_val (v := .pointer (some ⟨g, 0, none⟩)) (w' := wx) ?_ ⟨rfl, Below.refl _ _⟩
    have t24 := (ev_tmp a 24).symm.trans s24
    simp [execOp, go_sem, t24]
  · intro a wx hS hb hf
    have s25 : a.eval (.tmp 25) = .pointer (some ⟨g, 0, none⟩) := slot hb 0 10 25 rfl rfl
    rw [if_pos (wanted_none rfl)]
    refine does_val (v := .pointer (some ⟨g, 2, none⟩)) (w' := wx) ?_ ⟨rfl, Below.refl _ _⟩
    have t25 := (ev_tmp a 25).symm.trans s25
    simp [execOp, go_sem, t25]
  · intro a wx hS hb hf
    have s26 : a.eval (.tmp 26) = .pointer (some ⟨g, 2, none⟩) := slot hb 0 11 26 rfl rfl
    rw [if_pos (wanted_none rfl)]
    have d0 := (hS.cell (p := ⟨g, 2, none⟩) hgu).trans u2
    refine does_val (v := .int .i64 st) (w' := wx) ?_ ⟨rfl, Below.refl _ _⟩
    have t26 := (ev_tmp a 26).symm.trans s26
    simp [execOp, go_sem, t26, d0]
  · intro a wx hS hb hf
    have s18 : a.eval (.tmp 18) = .int .i64 nu := slot hb 0 3 18 rfl rfl
    have s27 : a.eval (.tmp 27) = .int .i64 st := slot hb 2 12 27 rfl rfl
    rw [if_pos (wanted_none rfl)]
    obtain ⟨N, e23, hN, ho⟩ : ∃ N, a.eval (.tmp 23) = .slice (some ⟨N, 0, none⟩) len len ∧ u.heap.size ≤ N ∧ wx.ownsRow u.heap.size 5 1 (a.eval (.tmp 23)) len (bs.map (Value.int .u8)) := slot hb 1 8 23 rfl rfl
    rw [e23] at ho
    have t23 := (ev_tmp a 23).symm.trans e23
    have t18 := (ev_tmp a 18).symm.trans s18
    have t27 := (ev_tmp a 27).symm.trans s27
    refine does_val (v := .agg #[.int .i64 nu, .slice (some ⟨N, 0, none⟩) len len, .int .i64 st]) (w' := wx) ?_ ⟨⟨N, rfl, hN, ho⟩, Below.refl _ _⟩
    simp [execOp, go_sem, t18, t23, t27]
  · intro a wx hS hb hf
    rw [if_pos (wanted_none rfl)]
    obtain ⟨N, e28, hN, ho⟩ : ∃ N, a.eval (.tmp 28) = .agg #[.int .i64 nu, .slice (some ⟨N, 0, none⟩) len len, .int .i64 st] ∧ u.heap.size ≤ N ∧ wx.ownsRow u.heap.size 5 1 (.slice (some ⟨N, 0, none⟩) len len) len (bs.map (Value.int .u8)) := slot hb 0 13 28 rfl rfl
    have t28 := (ev_tmp a 28).symm.trans e28
    refine does_val (v := .pointer (some ⟨wx.heap.size, 0, none⟩)) (w' := wx.alloc (.cells #[.int .i64 nu, .slice (some ⟨N, 0, none⟩) len len, .int .i64 st] 79)) ?_ ⟨⟨wx.heap.size, N, rfl, hN, hS.size, heap_alloc_new wx _, ho.alloc _⟩, (Below.refl _ _).alloc (Nat.le_refl _) _⟩
    simp [execOp, go_sem, t28]
  · intro a wx hS hb hf
    rw [if_pos (wanted_none rfl)]
    obtain ⟨h, N, e29, hN, hh, hc, ho⟩ : ∃ h N, a.eval (.tmp 29) = .pointer (some ⟨h, 0, none⟩) ∧ u.heap.size ≤ N ∧ u.heap.size ≤ h ∧ wx.heap[h]? = some (.cells #[.int .i64 nu, .slice (some ⟨N, 0, none⟩) len len, .int .i64 st] 79) ∧ wx.ownsRow u.heap.size 5 1 (.slice (some ⟨N, 0, none⟩) len len) len (bs.map (Value.int .u8)) := slot hb 0 14 29 rfl rfl
    have t29 := (ev_tmp a 29).symm.trans e29
    refine does_val (v := .pointer (some ⟨h, 0, none⟩)) (w' := wx) ?_ ⟨⟨h, N, rfl, hN, hh, hc, ho⟩, Below.refl _ _⟩
    simp [execOp, go_sem, t29]
  intro a u5 hbu5 hts hd hdone hfree
  obtain ⟨h, N, e4, hN, hh, hc, ho⟩ : ∃ h N, a.eval (.tmp 4) = .pointer (some ⟨h, 0, none⟩) ∧ u.heap.size ≤ N ∧ u.heap.size ≤ h ∧ u5.heap[h]? = some (.cells #[.int .i64 nu, .slice (some ⟨N, 0, none⟩) len len, .int .i64 st] 79) ∧ u5.ownsRow u.heap.size 5 1 (.slice (some ⟨N, 0, none⟩) len len) len (bs.map (Value.int .u8)) := done_slot hdone 15 4 rfl
  obtain ⟨x15, ex15⟩ : ∃ x, a.eval (.tmp 15) = x := ⟨_, rfl⟩
  obtain ⟨x16, ex16⟩ : ∃ x, a.eval (.tmp 16) = x := ⟨_, rfl⟩
  obtain ⟨x17, ex17⟩ : ∃ x, a.eval (.tmp 17) = x := ⟨_, rfl⟩
  obtain ⟨x18, ex18⟩ : ∃ x, a.eval (.tmp 18) = x := ⟨_, rfl⟩
  obtain ⟨x19, ex19⟩ : ∃ x, a.eval (.tmp 19) = x := ⟨_, rfl⟩
  obtain ⟨x20, ex20⟩ : ∃ x, a.eval (.tmp 20) = x := ⟨_, rfl⟩
  obtain ⟨x21, ex21⟩ : ∃ x, a.eval (.tmp 21) = x := ⟨_, rfl⟩
  obtain ⟨x22, ex22⟩ : ∃ x, a.eval (.tmp 22) = x := ⟨_, rfl⟩
  obtain ⟨x23, ex23⟩ : ∃ x, a.eval (.tmp 23) = x := ⟨_, rfl⟩
  obtain ⟨x24, ex24⟩ : ∃ x, a.eval (.tmp 24) = x := ⟨_, rfl⟩
  obtain ⟨x25, ex25⟩ : ∃ x, a.eval (.tmp 25) = x := ⟨_, rfl⟩
  obtain ⟨x26, ex26⟩ : ∃ x, a.eval (.tmp 26) = x := ⟨_, rfl⟩
  obtain ⟨x27, ex27⟩ : ∃ x, a.eval (.tmp 27) = x := ⟨_, rfl⟩
  obtain ⟨x28, ex28⟩ : ∃ x, a.eval (.tmp 28) = x := ⟨_, rfl⟩
  obtain ⟨x29, ex29⟩ : ∃ x, a.eval (.tmp 29) = x := ⟨_, rfl⟩
  have hact := act_puts hts hd hfree
  simp only [putAll, List.foldl_cons, List.foldl_nil, ex15, ex16, ex17, ex18, ex19, ex20, ex21, ex22, ex23, ex24, ex25, ex26, ex27, ex28, ex29, e4, Act.put] at hact
  simp at hact
  clear ex15 ex16 ex17 ex18 ex19 ex20 ex21 ex22 ex23 ex24 ex25 ex26 ex27 ex28 ex29 e4 hts hd hdone hfree
  subst hact
  have v0 : u5.cell? ⟨Bc, 0, none⟩ = some (.map (some mb)) := (hbu5.cell (p := ⟨Bc, 0, none⟩) (Nat.lt_of_lt_of_le hBl HB.out.size)).trans ((HB.out.cell (p := ⟨Bc, 0, none⟩) hBl).trans cB)
  have v1 : u5.cell? ⟨g, 0, none⟩ = some (.int .i64 nu) := (hbu5.cell (p := ⟨g, 0, none⟩) hgu).trans u0
  have hB5 : Bc < u5.heap.size := World.block_lt_of_cell? u5 _ v0
  have hg5 : g < u5.heap.size := World.block_lt_of_cell? u5 _ v1
  have hb5 : Below w.heap.size w u5 := HB.out.trans (hbu5.mono HB.out.size)
  have HM5 : Hid (Nm u5 mb n dn_) := HM.out.kept (hb5.block mb HM.out.lt)
  have HB5 : Hid (Below w.heap.size w u5) := hb5
  have HH : Hid (u5.heap[h]? = some (.cells #[.int .i64 nu, .slice (some ⟨N, 0, none⟩) len len, .int .i64 st] 79) ∧ u5.ownsRow u.heap.size 5 1 (.slice (some ⟨N, 0, none⟩) len len) len (bs.map (Value.int .u8)) ∧ u.heap.size ≤ N ∧ u.heap.size ≤ h) := ⟨hc, ho, hN, hh⟩
  have HPUT : Hid (∀ W, Below u5.heap.size u5 W → ∃ w', (Instr.mapUpdate 111 (.map (some mb)) (.int .i64 nu) (.pointer (some ⟨h, 0, none⟩))).run Try.prog W = .ok () w' ∧ Nm w' mb (n + 1) (fun j => if j = nu then some h else dn_ j) ∧ W.grownBy w' (some mb)) := fun W hW => (HM5.out.kept (hW.block mb HM5.out.lt)).put nu hnu h (by unfold maxLen; omega)
  have huw := HB.out.size
  clear hbu5 u0 u1 u2 hc ho hN hh hb5
  go_wp2_with fail
  refine wp_region_M (by kernel_rfl) (by kernel_rfl) (fun L W => (L 6 = false → True ∧ Below u5.heap.size u5 W) ∧ (L 6 = true → ∃ y, Below u5.heap.size u5 y ∧ Nm W mb (n + 1) (fun i => if i = nu then some h else dn_ i) ∧ y.grownBy W (some mb))) (TL [Ceq (.map (some mb)), Ceq (.pointer (some ⟨g, 0, none⟩)), Ceq (.pointer (some ⟨g, 0, none⟩)), Ceq (.pointer (some ⟨g, 0, none⟩)), Ceq (.int .i64 nu), Ceq (.pointer (some ⟨h, 0, none⟩)), Ceq (undef)]) ⟨fun _ => ⟨trivial, (Below.refl _ _).drew⟩, fun h => by cases h⟩ (allL_cons ?_ (allL_cons ?_ (allL_cons ?_ (allL_cons ?_ (allL_cons ?_ (allL_cons ?_ (allL_cons ?_ allL_nil))))))) ?_
  · intro L a wx hS h_
    have s1 : a.eval (.tmp 1) = .pointer (some ⟨Bc, 0, none⟩) := (h_.fix 1 (by kernel_rfl)).trans rfl
    have t1 := (ev_tmp a 1).symm.trans s1
    rw [if_pos (wanted_none rfl)]
    have d0 := ((hS.1 (h_.off 6 (by kernel_rfl))).2.cell (p := ⟨Bc, 0, none⟩) hB5).trans v0
    refine does_val (v := .map (some mb)) (w' := wx) ?_ ⟨rfl, hS, fun _ _ _ h => h⟩
    simp [execOp, go_sem, t1, d0]
  · intro L a wx hS h_
    have s0 : a.eval (.tmp 0) = .pointer (some ⟨g, 0, none⟩) := (h_.fix 0 (by kernel_rfl)).trans rfl
    have t0 := (ev_tmp a 0).symm.trans s0
    rw [if_pos (wanted_none rfl)]
    refine does_val (v := .pointer (some ⟨g, 0, none⟩)) (w' := wx) ?_ ⟨rfl, hS, fun _ _ _ h => h⟩
    simp [execOp, go_sem, t0]
  · intro L a wx hS h_
    have s31 : a.eval (.tmp 31) = .pointer (some ⟨g, 0, none⟩) := h_.slot 0 1 31 rfl rfl
    have t31 := (ev_tmp a 31).symm.trans s31
    rw [if_pos (wanted_none rfl)]
    refine does_val (v := .pointer (some ⟨g, 0, none⟩)) (w' := wx) ?_ ⟨rfl, hS, fun _ _ _ h => h⟩
    simp [execOp, go_sem, t31]
  · intro L a wx hS h_
    have s32 : a.eval (.tmp 32) = .pointer (some ⟨g, 0, none⟩) := h_.slot 0 2 32 rfl rfl
    have t32 := (ev_tmp a 32).symm.trans s32
    rw [if_pos (wanted_none rfl)]
    refine does_val (v := .pointer (some ⟨g, 0, none⟩)) (w' := wx) ?_ ⟨rfl, hS, fun _ _ _ h => h⟩
    simp [execOp, go_sem, t32]
  · intro L a wx hS h_
    have s33 : a.eval (.tmp 33) = .pointer (some ⟨g, 0, none⟩) := h_.slot 0 3 33 rfl rfl
    have t33 := (ev_tmp a 33).symm.trans s33
    rw [if_pos (wanted_none rfl)]
    have d0 := ((hS.1 (h_.off 6 (by kernel_rfl))).2.cell (p := ⟨g, 0, none⟩) hg5).trans v1
    refine does_val (v := .int .i64 nu) (w' := wx) ?_ ⟨rfl, hS, fun _ _ _ h => h⟩
    simp [execOp, go_sem, t33, d0]
  · intro L a wx hS h_
    have s4 : a.eval (.tmp 4) = .pointer (some ⟨h, 0, none⟩) := (h_.fix 4 (by kernel_rfl)).trans rfl
    have t4 := (ev_tmp a 4).symm.trans s4
    rw [if_pos (wanted_none rfl)]
    refine does_val (v := .pointer (some ⟨h, 0, none⟩)) (w' := wx) ?_ ⟨rfl, hS, fun _ _ _ h => h⟩
    simp [execOp, go_sem, t4]
  · intro L a wx hS h_
    have s30 : a.eval (.tmp 30) = .map (some mb) := h_.slot 0 0 30 rfl rfl
    have t30 := (ev_tmp a 30).symm.trans s30
    have s34 : a.eval (.tmp 34) = .int .i64 nu := h_.slot 1 4 34 rfl rfl
    have t34 := (ev_tmp a 34).symm.trans s34
    have s35 : a.eval (.tmp 35) = .pointer (some ⟨h, 0, none⟩) := h_.slot 2 5 35 rfl rfl
    have t35 := (ev_tmp a 35).symm.trans s35
    rw [if_pos (wanted_none rfl)]
    have hR := hS.1 h_.un
    obtain ⟨w6, hrun, hm6, hg6⟩ := HPUT.out wx hR.2
    refine does_skip (w' := w6) ?_ ⟨rfl, ⟨fun h0 => by simp [updL] at h0, fun _ => ⟨wx, hR.2, hm6, hg6⟩⟩, fun j x_ hj hT => tl_stab (w := wx) (w' := w6) (List.forall_mem_cons.2 ⟨fun _ h => h, (List.forall_mem_cons.2 ⟨fun _ h => h, (List.forall_mem_cons.2 ⟨fun _ h => h, (List.forall_mem_cons.2 ⟨fun _ h => h, (List.forall_mem_cons.2 ⟨fun _ h => h, (List.forall_mem_cons.2 ⟨fun _ h => h, (List.forall_mem_cons.2 ⟨fun _ h => h, (fun _ h => by cases h)⟩)⟩)⟩)⟩)⟩)⟩)⟩) hT⟩
    simp [execOp, go_sem, t30, t34, t35, hrun]
  intro a u6 L hS hall hts hd hdone hfree
  have hS := hS.2 (hall 6 (by decide))
  obtain ⟨x30, ex30⟩ : ∃ x, a.eval (.tmp 30) = x := ⟨_, rfl⟩
  obtain ⟨x31, ex31⟩ : ∃ x, a.eval (.tmp 31) = x := ⟨_, rfl⟩
  obtain ⟨x32, ex32⟩ : ∃ x, a.eval (.tmp 32) = x := ⟨_, rfl⟩
  obtain ⟨x33, ex33⟩ : ∃ x, a.eval (.tmp 33) = x := ⟨_, rfl⟩
  obtain ⟨x34, ex34⟩ : ∃ x, a.eval (.tmp 34) = x := ⟨_, rfl⟩
  obtain ⟨x35, ex35⟩ : ∃ x, a.eval (.tmp 35) = x := ⟨_, rfl⟩
  have hact := act_puts hts hd hfree
  simp only [putAll, List.foldl_cons, List.foldl_nil, ex30, ex31, ex32, ex33, ex34, ex35, Act.put] at hact
  simp at hact
  clear ex30 ex31 ex32 ex33 ex34 ex35 hts hd hdone hfree hall
  subst hact
  obtain ⟨y, hby, hm6, hg6⟩ := hS
  have HY : Hid (Below u5.heap.size u5 y ∧ Nm u6 mb (n + 1) (fun i => if i = nu then some h else dn_ i) ∧ y.grownBy u6 (some mb)) := ⟨hby, hm6, hg6⟩
  clear hby hm6 hg6
  go_wp2_with fail
  go_ret
  obtain ⟨hby, hm6, hg6⟩ := HY.out
  obtain ⟨hc, ho, hN, hh⟩ := HH.out
  have k1 : Kp (fun k => k = mb) u5 u6 := (Kp.of_below hby).trans (Q := fun k => k = mb) (Kp.grown hg6 (fun k e => by cases e; rfl)) (fun _ e => .inl e)
  have hmlt := HM.out.lt
  refine ⟨h, N, rfl, by omega, by omega, (k1.block h (Array.getElem?_eq_some_iff.1 hc).1 (by omega)).trans hc, own_base (own_kept ho (fun k e => k1.block k (tg_lt (own_tg ho e)) (by have := (ho.lt k e).1; omega))) huw, hm6, ?_⟩
  exact (Kp.of_below (P := fun k => k = mb) HB5.out).trans k1 (fun _ e => .inl e)
end Go.Proofs.Ytkipcblbadkjnaa
