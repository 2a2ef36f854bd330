/- The contract of Marshal. Conditions: each text's length fits. -/
import Derived.Test.YthklkhdcmoonkaaH
import Derived.Test.YthklkhdcmoonkaaI
namespace Go.Proofs.Ythklkhdcmoonkaa
open Go.RowKit

/-- What Marshal tells. -/
def Mrd (w : World) (ls : List Lb) (e : Ending) (w' : World) : Prop :=
  ∃ v, e = .returned (.tuple #[v, .int .i64 (cne ls)]) ∧ w'.ownsRow w.heap.size 5 1 v (el (cnl ls)).length ((el (cnl ls)).map (Value.int .u8)) ∧ Below w.heap.size w w'
theorem el_take (ls : List Lb) (k : Nat) (h : k < ls.length) : el (ls.take (k + 1)) = el (ls.take k) ++ E (nums (ls.getD k l0).1) ++ E (nums (ls.getD k l0).2) := by
  rw [take_snocL ls k h, el_snoc, eb, List.append_assoc]
theorem el_take_len (ls : List Lb) (hs : ∀ x ∈ ls, x.1.size ≤ 12 ∧ x.2.size ≤ 16) (k : Nat) : (el (ls.take k)).length ≤ 60 * k := by
  have h1 := el_len (ls.take k) (fun x hx => hs x (List.mem_of_mem_take hx))
  have h2 : (ls.take k).length ≤ k := List.length_take_le _ _
  omega

set_option maxHeartbeats 3200000 in
theorem marshal_any (a : Option Addr) (len cap : Nat) (ls : List Lb) (w : World) (hI : IsL w a len cap ls) (hwf : WfL ls) : Calls Try.prog 18 #[.slice a len cap] w (Mrd w ls) := by
  have HI : Hid (IsL w a len cap ls ∧ WfL ls) := ⟨hI, hwf⟩
  clear hI hwf
  by_cases hm : May ls
  · have HM : Hid (May ls) := hm
    clear hm
    go_enter Try.func18, Try.ntmps18
    go_wp2_with fail
    refine (canon_any a len cap ls w HI.out.1 HI.out.2).mono ?_
    rintro e w1 ⟨v1, rfl, ⟨a1, c1, rfl, hI1, _⟩, hb1⟩
    rw [cne_may HM.out]
    have hsm := cnl_small ls
    have hn6 := cnl_len ls
    obtain ⟨cs, hcs⟩ : ∃ cs, Hid (cs = cnl ls) := ⟨_, rfl⟩
    rw [← hcs.out] at hI1 hsm hn6 ⊢
    obtain ⟨n, hn⟩ : ∃ n, n = cs.length := ⟨_, rfl⟩
    rw [← hn] at hI1 hn6 ⊢
    have hnil := hI1.hc
    have hmm := hI1.hm
    unfold maxLen at hmm
    have H1 : Hid (IsL w1 a1 n c1 cs ∧ (∀ x ∈ cs, x.1.size ≤ 12 ∧ x.2.size ≤ 16) ∧ n = cs.length ∧ Below w.heap.size w w1) := ⟨hI1, hsm, hn, hb1⟩
    clear hI1 hsm hn hb1
    go_wp2_with fail
    go_loopw [6, 8, 19] (fun b _ i wr => ∃ k m : Nat, i = .int .i64 (k : Int) ∧ k ≤ n ∧ Hid (m = (el (cs.take k)).length) ∧ Hid (wr.ownsRow w1.heap.size 5 1 b m ((el (cs.take k)).map (Value.int .u8))) ∧ Below w1.heap.size w1 wr) (fun _ _ i _ => n - (intOf i).toNat)
    case atStart => exact ⟨0, 0, rfl, Nat.zero_le _, (rfl : 0 = (el (cs.take 0)).length), World.ownsRow_nil _ _ _ _, Below.refl _ _⟩
    case round =>
      obtain ⟨k, m, rfl, hk, HMm, HR, hbel⟩ := hrel
      have hm60 : m ≤ 60 * k := by rw [HMm.out]; exact el_take_len cs H1.out.2.1 k
      have hbase := hbel.size
      by_cases hlt : k < n
      · have hlt' : (k : Int) < (n : Int) := by omega
        have hkl : k < cs.length := by rw [← H1.out.2.2.1]; exact hlt
        obtain ⟨g, off, rfl, hg, c0, c1'⟩ := (H1.out.1.rd.below hbel).at hkl
        have hsz := H1.out.2.1 _ (getD_memL hkl)
        have HT : Hid (el (cs.take (k + 1)) = el (cs.take k) ++ E (nums (cs.getD k l0).1) ++ E (nums (cs.getD k l0).2)) := el_take cs k hkl
        clear hkl
        obtain ⟨x, hx⟩ : ∃ x, Hid (x = cs.getD k l0) := ⟨_, rfl⟩
        rw [← hx.out] at c0 c1' hsz HT
        obtain ⟨nn, vv⟩ := x
        simp only at c0 c1' hsz HT
        have hE1 := E_len (nums nn)
        rw [nums_len] at hE1
        obtain ⟨q1, hq1⟩ : ∃ q, q = (E (nums nn)).length := ⟨_, rfl⟩
        rw [← hq1] at hE1
        have HQ1 : Hid (q1 = (E (nums nn)).length) := hq1
        clear hq1
        go_wp2_with fail
        refine (escaped_any w1.heap.size _ m _ nn _ (HR.out.alloc _) (by simp; omega) (by omega) (by omega)).mono ?_
        rintro e w2 ⟨v2, rfl, ho2, hb2, hnt2⟩
        rw [← HQ1.out] at ho2
        have hb2' : Below w1.heap.size w1 w2 := (hbel.alloc hbase _).trans hb2
        have hblk := hnt2 wr.heap.size (by simp) (fun cur m => by rw [heap_alloc_new]; simp)
        have nb1 : w2.cell? ⟨wr.heap.size, 1, none⟩ = some (.string vv) := by
          rw [World.cell?_of_block (w := wr.alloc (.cells #[.string nn, .string vv] 44)) hblk]; simp
        have HO2 : Hid (w2.ownsRow w1.heap.size 5 1 v2 (m + q1) ((el (cs.take k) ++ E (nums nn)).map (Value.int .u8))) := ho2
        have hs2 := hb2.size
        simp only [World.size_alloc] at hs2
        have hw2s : wr.heap.size < w2.heap.size := by omega
        clear ho2 hb2 hnt2 hblk
        go_wp2_with fail
        refine (escaped_any w1.heap.size _ (m + q1) _ vv _ HO2.out hb2'.size (by omega) (by omega)).mono ?_
        rintro e w3 ⟨v3, rfl, ho3, hb3, _⟩
        have HO3 : Hid (w3.ownsRow w1.heap.size 5 1 v3 (m + q1 + (E (nums vv)).length) ((el (cs.take k) ++ E (nums nn) ++ E (nums vv)).map (Value.int .u8))) := ho3
        clear ho3
        go_wp2_with fail
        go_roundw
        case rel =>
          refine ⟨k + 1, m + q1 + (E (nums vv)).length, by go_num, hlt, ?_, ?_, hb2'.trans hb3⟩
          · show _ = _
            rw [HT.out, List.length_append, List.length_append, ← HMm.out, ← HQ1.out]
          · show World.ownsRow _ _ _ _ _ _ _
            rw [HT.out]; exact HO3.out
        case measure => simp [intOf]; omega
      · have hlt' : ¬ (k : Int) < (n : Int) := by omega
        go_wp2_with fail
        go_ret2
        have hall : cs.take k = cs := List.take_of_length_le (by rw [← H1.out.2.2.1]; omega)
        refine ⟨_, by rw [cne_may HM.out]; rfl, ?_, H1.out.2.2.2.trans (hbel.mono H1.out.2.2.2.size)⟩
        have h1 := HR.out
        have h2 := HMm.out
        rw [hall] at h1 h2
        rw [← hcs.out, ← h2]
        exact own_mono h1 H1.out.2.2.2.size
  · have HM : Hid (¬ May ls) := hm
    clear hm
    go_enter Try.func18, Try.ntmps18
    go_wp2_with fail
    refine (canon_any a len cap ls w HI.out.1 HI.out.2).mono ?_
    rintro e w1 ⟨v1, rfl, _, hb1⟩
    rw [cne_not HM.out]
    go_wp2_with fail
    go_ret2
    refine ⟨_, by rw [cne_not HM.out]; rfl, ?_, hb1⟩
    rw [cnl_not HM.out]
    exact World.ownsRow_nil _ _ _ _
end Go.Proofs.Ythklkhdcmoonkaa
