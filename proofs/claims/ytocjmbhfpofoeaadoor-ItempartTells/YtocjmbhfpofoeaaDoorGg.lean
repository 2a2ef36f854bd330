/- The contract of Build; the iterator of told. Conditions: the table of half bytes; sizes. -/
import Derived.Test.YtocjmbhfpofoeaaDoorGf
import Derived.Test.YtocjmbhfpofoeaaDoorGn
import Derived.Test.YtocjmbhfpofoeaaDoorLw
import Derived.RangeFuncBound
import Derived.RangeFuncLeaves
import Derived.Shelf.Abstract
import Derived.Shelf.RegionOpen
import Derived.OwnWalkIn
import Derived.TacticsInMore
import Derived.LoopNIn
import Derived.LoopIn
namespace Go.Proofs.YtocjmbhfpofoeaaDoor
open Go.RowKit Go.Shelf
attribute [local go_sem] Oper.semAt_some

set_option maxRecDepth 20000 in
theorem build_any (a : Option Addr) (len cap : Nat) (ls : List (List Int)) (w : World) (hI : IsR w a len cap ls) (hwf : WfR ls) (hH : Ha w) (hlen : len ≤ 1000000) :
    Calls Tryd.prog 11 #[.slice a len cap] w fun e w' => Below w.heap.size w w' ∧ ∃ v, e = .returned (.tuple #[v, .int .i64 (bt ls).1]) ∧ w'.ownsRow w.heap.size 5 1 v (bt ls).2.length ((bt ls).2.map (Value.int .u8)) := by
  have HM : Hid _ := made_any a len cap ls w hI hwf hH hlen
  clear hI hwf
  go_enter Tryd.func11, Tryd.ntmps11
  go_wp2_with fail
  refine Calls.mono HM.out ?_
  rintro e w1 ⟨hb, (⟨h0, hv, cs, v, rfl, ho, hh, _⟩ | ⟨h0, rfl⟩)⟩
  · obtain ⟨_, _, h3⟩ := bt_zero h0
    have HO : Hid (w1.ownsRow w.heap.size 5 1 v (fil ls).length ((fil ls).map (Value.int .u8)) ∧ Below w.heap.size w w1 ∧ bt ls = (0, fil ls)) := ⟨ho, hb, h3⟩
    obtain ⟨ah, ch', rfl⟩ : ∃ ah c, hv = .slice ah (ch ls).length c := by
      rcases hh.2 with ⟨rfl, e⟩ | ⟨g, c, cur, rfl, _⟩
      · exact ⟨none, 0, by rw [e]⟩
      · exact ⟨_, _, rfl⟩
    obtain ⟨ab, cb, rfl, _⟩ := own_isI ho
    clear ho hb h3 h0 hh
    go_wp2_with fail
    go_ret2
    rw [HO.out.2.2]
    exact ⟨HO.out.2.1.alloc HO.out.2.1.size _, _, rfl, own_below HO.out.1 ((Below.refl _ _).alloc (Nat.le_refl _) _)⟩
  · have HB : Hid (Below w.heap.size w w1 ∧ (bt ls).2 = []) := ⟨hb, bt_err h0⟩
    clear hb h0
    go_wp2_with fail
    go_ret2
    rw [HB.out.2]
    exact ⟨HB.out.1.alloc HB.out.1.size _, _, rfl, World.ownsRow_nil _ _ _ _⟩

/-- A block that is told. -/
structure Bk where
  a : Option Addr
  n : Nat
  c : Nat
  L : List (List Int)
def encB (x : Bk) : Array Value := #[.slice x.a x.n x.c]
/-- What is known of a block that is told: it reads so, whatever becomes of the variable B. -/
def EB (B : Nat) (x : Bk) (W : World) : Prop := IsN (B + 1) W x.a x.n x.c x.L ∧ WfR x.L ∧ chk x.L = 0
theorem k5_grown {U U' : World} {B : Nat} {t : TypeId} (ht : t ≠ 5) {row : Option Nat} (hg : U.grownBy U' row) (hr : ∀ r, row = some r → (r = B ∧ ∃ v v', Boxed U B t v ∧ Boxed U' B t v') ∨ ∃ o : Obj, U.heap[r]? = some o ∧ o.isCells = false) : K5 U U' :=
  ⟨hg.size, fun g cur f e => (hg.block g (blk_lt e) (fun h => by
    rcases hr g h.symm with ⟨rfl, v, v', h1, _⟩ | ⟨o, e', c⟩
    · have := e.symm.trans h1; simp at this; exact ht this.2.1.symm
    · rw [e] at e'; cases e'; cases c)).trans e⟩
theorem EB.ab (B N : Nat) : AbB B 23 N (EB B) := fun _ U U' _ h hg hr =>
  ⟨fun V hk hc => h.1 V ((k5_grown (by decide) hg fun r e => (hr r e).imp id fun h => h.2).trans hk) (fun k cur f hB e => hc k cur f hB ((hg.block k (blk_lt e) (fun h' => by
    rcases hr k h'.symm with ⟨rfl, _⟩ | ⟨_, o, e', c⟩
    · omega
    · rw [e] at e'; cases e'; cases c)).trans e)), h.2⟩
theorem isN_mono {base base' n c : Nat} {w : World} {a : Option Addr} {ls : List (List Int)} (h : IsN base w a n c ls) (hb : base' ≤ base) : IsN base' w a n c ls := fun U hk hc => h U hk (fun k cur f hB e => hc k cur f (by omega) e)
theorem ha_below {w w' : World} {B : Nat} (h : Ha w) (hb : Below B w w') (hB : 0 < B) : Ha w' :=
  ⟨Nat.lt_of_lt_of_le h.1 hb.size, fun i hi => (hb.cell (p := ⟨0, i, none⟩) hB).trans (h.2 i hi)⟩
theorem told_it (a : Option Addr) (len cap : Nat) (w : World) :
    Calls Tryd.prog 30 #[.slice a len cap] w fun e w' => e = .returned (.func (.func 50) #[] #[.pointer (some ⟨w.heap.size, 0, none⟩)]) ∧ w' = w.alloc (.cells #[.slice a len cap] 23) := by
  have hmf : ∀ (fn : Fn) (first cap : Array Value) (w : World), (Instr.makeFunc fn first cap).run Tryd.prog w = .ok (.func fn first cap) w := fun _ _ _ _ => rfl
  go_enter Tryd.func30, Tryd.ntmps30
  go_wp2
  go_ret
  exact ⟨rfl, rfl⟩

set_option maxRecDepth 100000 in
set_option maxHeartbeats 8000000 in
/-- The iterator: it tells the blocks that the bytes begin with. -/
theorem told_in (n n0 B : Nat) (a : Option Addr) (len cap : Nat) (z : List Int) (w : World) (hB : w.heap.size = B + 1) (hn0 : n0 ≤ B) (hbx : Boxed w B 23 (.slice a len cap)) (hS : ∀ U, Below n0 w U → IsI .u8 U a len cap z) (hz : Bytes z) (hH : Ha w) (hB0 : 0 < n0) (hlen : len ≤ 1000000) :
    SeqB B 23 (EB B) n Tryd.prog 50 #[.pointer (some ⟨B, 0, none⟩)] encB (fun U V => Below n0 U V ∧ V.heap[B]? = U.heap[B]?) (fun xs => xs.map (·.L) = tb (z.length + 1) z) (fun pre => ∃ t, pre.map (·.L) ++ t = tb (z.length + 1) z) w := by
  intro l J Jx W hW hJ hJx hY h0
  obtain ⟨T, hT⟩ : ∃ T, Hid (T = tb (z.length + 1) z) := ⟨_, rfl⟩
  rw [← hT.out]
  have hWB : Boxed W B 23 (.slice a len cap) := (hW.block _ (by omega)).trans hbx
  have HY := (show Hid _ from hY)
  have HJ : Hid (AbJ B 23 J) := hJ
  have H0 : Hid (J [] W ∧ Boxed W B 23 (.slice a len cap) ∧ Below w.heap.size w W ∧ (∀ U, Below n0 w U → IsI .u8 U a len cap z) ∧ Bytes z ∧ Ha w) := ⟨h0, hWB, hW, hS, hz, hH⟩
  clear hJ hJx hY h0 hWB hW hbx hS hz hH
  refine callsIn_of_wp Tryd.func50 rfl trivial ?_ rfl
  simp only [Tryd.ntmps50, List.size_toArray, List.length_cons, List.length_nil, Nat.reduceAdd, Nat.reduceSub, Array.replicate_succ, Array.replicate_zero, List.push_toArray, List.append_toArray, List.nil_append, List.cons_append]
  gi_wp2_with fail
  gi_loopw [3, 4, 5, 6, 7, 8] (fun _ _ _ _ _ _ wr => ∃ (q m c : Nat) (b : Option Addr) (zr : List Int) (pre : List Bk), Hid (J pre wr) ∧ Hid (Boxed wr B 23 (.slice b m c) ∧ Below n0 w wr ∧ (∀ U, Below n0 w U → IsI .u8 U b m c zr) ∧ Bytes zr ∧ pre.map (·.L) ++ tb q zr = T) ∧ m < q ∧ m ≤ len ∧ Hid (w.heap.size ≤ wr.heap.size) ∧ Hid (Below w.heap.size w wr ∨ True)) (fun _ _ _ _ _ _ wr => (match wr.cell? ⟨B, 0, none⟩ with | some (.slice _ m _) => m | _ => 0))
  case atStart =>
    refine ⟨len + 1, len, cap, a, z, [], H0.out.1, ⟨H0.out.2.1, H0.out.2.2.1.mono (by omega), H0.out.2.2.2.1, H0.out.2.2.2.2.1, ?_⟩, by omega, Nat.le_refl _, H0.out.2.2.1.size, .inr trivial⟩
    have hl := (H0.out.2.2.2.1 w (Below.refl _ _)).hl
    rw [hT.out, hl]; rfl
  case round =>
    obtain ⟨q, m, c, b, zr, pre, HJw, HW, hmq, hml, HSz, _⟩ := hrel
    have hc1 := HW.out.1.cell
    have hIb := HW.out.2.2.1 wr HW.out.2.1
    have hcc := hIb.hc
    have hcm := hIb.hm
    have hzl := hIb.hl
    unfold maxLen at hcm
    obtain ⟨M, hM⟩ : ∃ M, M = min m 3240 := ⟨_, rfl⟩
    have hmin : ∀ ts ty w', Sem.run Tryd.prog (Builtin.min_ ts ty #[.int .i64 (m : Int), .int .i64 3240]) w' = .ok (.int .i64 (M : Int)) w' := by
      intro ts ty w'
      rw [run_min_int2]
      congr 2
      split <;> omega
    have hM1 : (M : Int) ≤ (c : Int) := by omega
    have hM0 : (0 : Int) ≤ (M : Int) := by omega
    have hnear : ∀ U, Below n0 w U → IsI .u8 U b M c (zr.take M) := fun U hU => by
      have h := HW.out.2.2.1 U hU
      exact ⟨by rw [List.length_take, h.hl]; omega, by omega, h.hm, h.rd.take M, h.nil⟩
    have eM : zr.take M = zr.take 3240 := by
      rw [hM]
      by_cases h : m ≤ 3240
      · rw [Nat.min_eq_left h, List.take_of_length_le (by omega), List.take_of_length_le (by omega)]
      · rw [Nat.min_eq_right (by omega)]
    have hzt : Bytes (zr.take M) := bytes_take HW.out.2.2.2.1 _
    have hHr : Ha wr := ha_below H0.out.2.2.2.2.2 HW.out.2.1 hB0
    obtain ⟨k, x, z1, z2, hN, hNx⟩ := next_all b M c (zr.take M) wr (hnear wr HW.out.2.1) hzt hHr (by omega)
    have HNx : Hid _ := hNx
    have hqq : ∃ q', q = q' + 1 := ⟨q - 1, by omega⟩
    obtain ⟨q, rfl⟩ := hqq
    have hlen2 : (zr.take M).length = M := by rw [List.length_take]; omega
    have hsz := HSz.out
    -- the end: what was handed in is all
    have hend : ∀ W', J pre W' → tb (q + 1) zr = [] → (∃ v, Ending.returned (.tuple #[]) = Ending.returned v) ∧ ((∃ xs : List Bk, xs.map (·.L) = T ∧ J xs W') ∨ (∃ pre : List Bk, (∃ t, pre.map (·.L) ++ t = T) ∧ Jx pre W')) := fun W' h1 h2 =>
      ⟨⟨_, rfl⟩, .inl ⟨pre, by have := HW.out.2.2.2.2; rw [h2, List.append_nil] at this; exact this, h1⟩⟩
    have HEnd : Hid _ := hend
    have HJb : Hid (∀ W', Below wr.heap.size wr W' → J pre W') := fun W' hb => HJ.out pre wr W' none HJw.out ⟨hb.os, hb.tape, hb.output, hb.size, fun k hk _ => hb.block k hk⟩ (fun r e => by cases e)
    clear hend hIb hNx hnear hHr hzt
    rcases hN with ⟨rfl, kn, rfl, hd⟩ | ⟨hx, rfl, rfl, rfl, hnd⟩
    case inr =>
      have ht0 : tb (q + 1) zr = [] := tb_none (by rw [← eM]; exact nx_none hnd)
      have HT0 : Hid (tb (q + 1) zr = []) := ht0
      have hx2 : (x != 0) = true := by simp at hx ⊢; exact hx
      clear ht0 hnd eM hM
      gi_wp2_with (refine ⟨trivial, (fun h => (by cases h)), ?_⟩; gi_at_call 51; refine (callsIn_wide.2 HNx.out).mono ?_; rintro e w1 ⟨v1, v2, rfl, ho1, ho2, hb1⟩)
      refine bodyPost_ret (results_none rfl _ _ _) rfl ?_
      exact HEnd.out _ (HJb.out _ hb1) HT0.out
    case inl =>
      by_cases hk : kn = 1
      case neg =>
        have HT0 : Hid (tb (q + 1) zr = []) := tb_other (by rw [← eM]; exact nx_some hd) (fun h => hk h.1)
        have hk2 : (((kn : Nat) : Int) != 1) = true := by simp; omega
        clear eM hM hd
        gi_wp2_with (refine ⟨trivial, (fun h => (by cases h)), ?_⟩; gi_at_call 51; refine (callsIn_wide.2 HNx.out).mono ?_; rintro e w1 ⟨v1, v2, rfl, ho1, ho2, hb1⟩)
        refine bodyPost_ret (results_none rfl _ _ _) rfl ?_
        exact HEnd.out _ (HJb.out _ hb1) HT0.out
      case pos =>
        subst hk
        obtain ⟨hd1, hd2⟩ := dec_shorter hd
        rw [hlen2] at hd1 hd2
        have hb1 : Bytes z1 := fun y hy => HW.out.2.2.2.1 y (List.mem_of_mem_take (by rw [hd.2.2, frm_app]; simp [hy]))
        have hnx : nx (zr.take 3240) = some (1, z1, z2) := by rw [← eM]; exact nx_some hd
        obtain ⟨kk, hkk⟩ : ∃ kk, kk = (frm 1 z1).length := ⟨_, rfl⟩
        obtain ⟨n2, hn2⟩ : ∃ n2, n2 = z2.length := ⟨_, rfl⟩
        rw [← hkk, ← hn2] at hd2
        have hkp : 6 ≤ kk := by rw [hkk, frm_length]; have := bs_pos z1.length; omega
        have HZ : Hid (Bytes z1 ∧ z1.length ≤ 65535 ∧ nx (zr.take 3240) = some (1, z1, z2) ∧ kk = (frm 1 z1).length ∧ n2 = z2.length) := ⟨hb1, hd.2.1, hnx, hkk, hn2⟩
        have HQ : Hid (M = kk + n2 ∧ M = min m 3240 ∧ zr.length = m) := ⟨hd2, hM, hzl⟩
        have hkm : kk ≤ m := by omega
        have hkc : kk ≤ c := by omega
        have hsub : (M : Int) - (n2 : Int) = (kk : Int) := by omega
        have hkm' : (kk : Int) ≤ (m : Int) := by omega
        have hw1 : IntKind.i64.wrap (kk : Int) = (kk : Int) := by rw [IntKind.wrap_i64]; omega
        clear hb1 hnx hkk hn2 hd hd1 eM hM hd2 hzl hlen2
        have HU : Hid (∀ (a1 : Option Addr) (n1 c1 : Nat) (w1 : World), IsI .u8 w1 a1 n1 c1 z1 → Calls Tryd.prog 52 #[.slice a1 n1 c1] w1 (Upks w1 z1)) := fun a1 n1 c1 w1 hI => unpack_any a1 n1 c1 z1 w1 hI HZ.out.1 (by rw [← hI.hl]; have := HZ.out.2.1; omega)
        obtain ⟨x5, hx5⟩ : ∃ x5, Hid (x5 = (upk z1).2) := ⟨_, rfl⟩
        unfold Upks at HU
        rw [← hx5.out] at HU
        by_cases h5 : x5 = 0
        case neg =>
          have h52 : (x5 != 0) = true := by simpa using h5
          have HT0 : Hid (tb (q + 1) zr = []) := tb_other HZ.out.2.2.1 (fun h => h5 (hx5.out.trans h.2))
          clear h5
          gi_wp2_with (first
            | (refine ⟨trivial, (fun h => (by cases h)), ?_⟩; gi_at_call 51; refine (callsIn_wide.2 HNx.out).mono ?_; rintro e w1 ⟨v1, v2, rfl, ho1, ho2, hb1⟩
               obtain ⟨n1, hn1⟩ : ∃ n1, Hid (n1 = z1.length) := ⟨_, rfl⟩
               rw [← hn1.out] at ho1
               rw [← HZ.out.2.2.2.2] at ho2
               obtain ⟨a1, c1, rfl, hI1⟩ := own_isI ho1
               obtain ⟨a2, c2, rfl, hI2⟩ := own_isI ho2
               have HI1 : Hid (IsI .u8 w1 a1 n1 c1 z1 ∧ Below wr.heap.size wr w1) := ⟨hI1, hb1⟩
               clear hI1 hI2 ho1 ho2 hb1)
            | (refine ⟨trivial, (fun h => (by cases h)), ?_⟩; gi_at_call 52; refine (callsIn_wide.2 (HU.out _ _ _ _ HI1.out.1)).mono ?_; rintro e w2 ⟨⟨a3, n3, c3, rfl, hN3, hW3⟩, hb2⟩))
          refine ⟨(fun _ h => by cases h), ?_⟩
          gi_wp2_with fail
          refine bodyPost_ret (results_none rfl _ _ _) rfl ?_
          exact HEnd.out _ (HJb.out _ (HI1.out.2.trans (hb2.mono HI1.out.2.size))) HT0.out
        case pos =>
          subst h5
          gi_wp2_with (first
            | (refine ⟨trivial, (fun h => (by cases h)), ?_⟩; gi_at_call 51; refine (callsIn_wide.2 HNx.out).mono ?_; rintro e w1 ⟨v1, v2, rfl, ho1, ho2, hb1⟩
               obtain ⟨n1, hn1⟩ : ∃ n1, Hid (n1 = z1.length) := ⟨_, rfl⟩
               rw [← hn1.out] at ho1
               rw [← HZ.out.2.2.2.2] at ho2
               obtain ⟨a1, c1, rfl, hI1⟩ := own_isI ho1
               obtain ⟨a2, c2, rfl, hI2⟩ := own_isI ho2
               have HI1 : Hid (IsI .u8 w1 a1 n1 c1 z1 ∧ Below wr.heap.size wr w1) := ⟨hI1, hb1⟩
               clear hI1 hI2 ho1 ho2 hb1)
            | (refine ⟨trivial, (fun h => (by cases h)), ?_⟩; gi_at_call 52; refine (callsIn_wide.2 (HU.out _ _ _ _ HI1.out.1)).mono ?_; rintro e w2 ⟨⟨a3, n3, c3, rfl, hN3, hW3⟩, hb2⟩
               have hb2w : Below wr.heap.size wr w2 := HI1.out.2.trans (hb2.mono HI1.out.2.size)
               have hX2 : Boxed w2 B 23 (.slice b m c) := (hb2w.block _ HW.out.1.lt).trans HW.out.1
               obtain ⟨fn, tmps, assign, body, hy, hR⟩ := HY.out pre ⟨a3, n3, c3, (upk z1).1⟩ w2 (HJb.out _ hb2w) ⟨tb q (zr.drop kk), by
                 have h5 := HW.out.2.2.2.2
                 rw [tb_go HZ.out.2.2.1 hx5.out.symm, ← HZ.out.2.2.2.1] at h5
                 rw [List.map_append, List.append_assoc]
                 exact h5.trans hT.out⟩ ⟨isN_mono hN3 (Nat.lt_of_lt_of_le HW.out.1.lt HI1.out.2.size), hW3, (upk_ok hx5.out.symm).1⟩
               have HR : Hid _ := hR
               have H2 : Hid (Below wr.heap.size wr w2 ∧ Boxed w2 B 23 (.slice b m c)) := ⟨hb2w, hX2⟩
               simp only [encB] at hy
               clear hR hN3 hW3 hb2 hb2w hX2))
          refine ⟨(fun h => by cases h), RoundIn.mono HR.out ?_⟩
          clear hy
          rintro e W3 (⟨rfl, hJ3, hk3⟩ | ⟨rfl, hJx⟩)
          · have hs2 := H2.out.1.size
            have hX3 : Boxed W3 B 23 (.slice b m c) := hk3.2.trans H2.out.2
            have d3 := hX3.cell
            have z3 := hX3.frozen
            have H3 : Hid (J (pre ++ [⟨a3, n3, c3, (upk z1).1⟩]) W3 ∧ Below n0 w2 W3 ∧ Boxed W3 B 23 (.slice b m c)) := ⟨hJ3, hk3.1, hX3⟩
            clear hJ3 hk3 hX3
            have hbn : ∃ gb ob, b = some ⟨gb, ob, none⟩ := by
              have h := HW.out.2.2.1 wr HW.out.2.1
              obtain ⟨gb, ob, e, _⟩ := h.lt (by omega)
              exact ⟨gb, ob, e⟩
            obtain ⟨gb, ob, rfl⟩ := hbn
            have hrel : ∀ b' : Option Addr, b' = (if c = kk then some ⟨gb, ob, none⟩ else some ⟨gb, ob + kk, none⟩) → ∃ (q' m' c' : Nat) (b'' : Option Addr) (zr' : List Int) (pre' : List Bk), Value.slice b' (m - kk) (c - kk) = .slice b'' m' c' ∧ Hid (J pre' (W3.setCell ⟨B, 0, none⟩ (.slice b' (m - kk) (c - kk)))) ∧ Hid (Boxed (W3.setCell ⟨B, 0, none⟩ (.slice b' (m - kk) (c - kk))) B 23 (.slice b'' m' c') ∧ Below n0 w (W3.setCell ⟨B, 0, none⟩ (.slice b' (m - kk) (c - kk))) ∧ (∀ U, Below n0 w U → IsI .u8 U b'' m' c' zr') ∧ Bytes zr' ∧ pre'.map (·.L) ++ tb q' zr' = T) ∧ m' < q' ∧ m' ≤ len ∧ Hid (w.heap.size ≤ (W3.setCell ⟨B, 0, none⟩ (.slice b' (m - kk) (c - kk))).heap.size) := by
              intro b' hb'
              refine ⟨q, m - kk, c - kk, b', zr.drop kk, pre ++ [⟨a3, n3, c3, (upk z1).1⟩], rfl, ?_, ⟨H3.out.2.2.set _, ?_, ?_, bytes_drop HW.out.2.2.2.1 _, ?_⟩, by omega, by omega, ?_⟩
              · exact HJ.out _ W3 _ (some B) H3.out.1 (grownBy_setCell' W3 B _) (fun r e => by cases e; exact ⟨rfl, _, _, H3.out.2.2, H3.out.2.2.set _⟩)
              · exact (HW.out.2.1.trans ((H2.out.1.mono (by have := HW.out.1.lt; omega)).trans H3.out.2.1)).setCell (p := ⟨B, 0, none⟩) hn0 _
              · intro U hU
                have h := HW.out.2.2.1 U hU
                have hl := h.hl
                refine ⟨by rw [List.length_drop, hl], by omega, by have := h.hm; omega, ?_, ?_⟩
                · rw [hb']; exact h.rd.drop hl h.hc hkm
                · rw [hb']; intro e; split at e <;> cases e
              · have h5 := HW.out.2.2.2.2
                rw [tb_go HZ.out.2.2.1 hx5.out.symm, ← HZ.out.2.2.2.1] at h5
                rw [List.map_append, List.append_assoc]
                exact h5
              · have q1 := H3.out.2.1.size
                have q2 := HSz.out
                have q3 := H2.out.1.size
                show w.heap.size ≤ (W3.setCell _ _).heap.size
                rw [World.size_setCell]
                omega
            by_cases hck : c = kk
            · have hck' : ((c : Nat) : Int) = (kk : Int) := by omega
              have HRel := hrel (some ⟨gb, ob, none⟩) (by rw [if_pos hck])
              rw [show c - kk = 0 by omega] at HRel
              replace HRel := (show Hid _ from HRel)
              clear hrel
              gi_wp2_with fail
              obtain ⟨q', m', c', b'', zr', pre', e1, e2, e3, e4, e5, e6⟩ := HRel.out
              cases e1
              refine ⟨⟨q', _, _, _, zr', pre', e2, e3, e4, e5, e6, .inr trivial⟩, ?_⟩
              rw [e3.out.1.cell, HW.out.1.cell]
              show m - kk < m
              omega
            · have HRel := (show Hid _ from hrel (some ⟨gb, ob + kk, none⟩) (by rw [if_neg hck]))
              clear hrel
              gi_wp2_with fail
              obtain ⟨q', m', c', b'', zr', pre', e1, e2, e3, e4, e5, e6⟩ := HRel.out
              cases e1
              refine ⟨⟨q', _, _, _, zr', pre', e2, e3, e4, e5, e6, .inr trivial⟩, ?_⟩
              rw [e3.out.1.cell, HW.out.1.cell]
              show m - kk < m
              omega
          · have HJx : Hid (Jx (pre ++ [⟨a3, n3, c3, (upk z1).1⟩]) W3) := hJx
            clear hJx
            gi_wp2_with fail
            refine bodyPost_ret (results_none rfl _ _ _) rfl ?_
            refine ⟨⟨_, rfl⟩, .inr ⟨_, ⟨tb q (zr.drop kk), ?_⟩, HJx.out⟩⟩
            have h5 := HW.out.2.2.2.2
            rw [tb_go HZ.out.2.2.1 hx5.out.symm, ← HZ.out.2.2.2.1] at h5
            rw [List.map_append, List.append_assoc]
            exact h5
end Go.Proofs.YtocjmbhfpofoeaaDoor
