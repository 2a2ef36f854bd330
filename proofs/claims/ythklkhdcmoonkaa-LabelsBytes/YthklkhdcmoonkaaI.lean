/- The contracts of escaped and Escape, and of the document's own Escape; of the library's Clone of bytes. Conditions: sizes. -/
import Derived.Test.YthklkhdcmoonkaaE
import Derived.WalkSpells
import Derived.Lib.SliceRun
namespace Go.Proofs.Ythklkhdcmoonkaa
open Go.RowKit

/-- Blocks that are no rows of bytes are as they were. -/
def NT (w w' : World) : Prop := ∀ k, k < w.heap.size → (∀ cur m, w.heap[k]? ≠ some (.cells cur 5 m)) → w'.heap[k]? = w.heap[k]?
theorem NT.refl (w : World) : NT w w := fun _ _ _ => rfl
theorem NT.trans {a b c : World} (h1 : NT a b) (hs : a.heap.size ≤ b.heap.size) (h2 : NT b c) : NT a c := fun k hk hn => by
  have e := h1 k hk hn
  rw [← e]
  exact h2 k (Nat.lt_of_lt_of_le hk hs) (fun cur m => by rw [e]; exact hn cur m)
theorem NT.alloc (w : World) (o : Obj) : NT w (w.alloc o) := fun k hk _ => Below.heap_alloc w o k hk
theorem NT.grown {w w' : World} {base n : Nat} {v : Value} {xs : List Value} (ho : w.ownsRow base 5 1 v n xs) (hg : w.grownBy w' v.ownBlock) : NT w w' := fun k hk hn => by
  refine hg.block k hk (fun e => ?_)
  rcases ho.2 with ⟨h1, _⟩ | ⟨g, cap, cur, h1, _, h3, _⟩
  · rw [h1] at e; cases e
  · rw [h1] at e
    cases e
    exact hn _ _ h3
theorem NT.below {B : Nat} {w w' : World} (h : Below B w w') (hB : w.heap.size ≤ B) : NT w w' := fun k hk _ => h.block k (by omega)
theorem e1_lt {c : Int} (h : c < 3) : e1 c = [2, c + 3] := if_pos h
theorem e1_ge {c : Int} (h : ¬ c < 3) : e1 c = [c] := if_neg h
theorem es_take_len (l : List Int) (k : Nat) : (es (l.take k)).length ≤ 2 * k := by
  have := es_len (l.take k)
  have h2 : (l.take k).length ≤ k := List.length_take_le _ _
  omega

set_option maxRecDepth 20000 in
set_option maxHeartbeats 3200000 in
theorem escaped_any (base : Nat) (v : Value) (n : Nat) (xs : List Int) (s : ByteArray) (w : World) (hown : w.ownsRow base 5 1 v n (xs.map (Value.int .u8))) (hb : base ≤ w.heap.size) (hn : n ≤ 1000000) (hs : s.size ≤ 100000) :
    Calls Try.prog 34 #[v, .string s] w fun e w' => ∃ v', e = .returned v' ∧ w'.ownsRow base 5 1 v' (n + (E (nums s)).length) ((xs ++ E (nums s)).map (Value.int .u8)) ∧ Below base w w' ∧ NT w w' := by
  obtain ⟨i0, hi, hz0, hz1, hz2⟩ := info_parts Try.info5
  have HL : Hid ((nums s).length = s.size) := nums_len s
  have HN : Hid (∀ k, (h : k < s.size) → (nums s).getD k 0 = (s[k].toNat : Int)) := nums_at s
  have HO : Hid (w.ownsRow base 5 1 v n (xs.map (Value.int .u8))) := hown
  clear hown
  go_enter Try.func34, Try.ntmps34
  go_wp2
  go_loopw [0, 5, 6, 9] (fun b _ _ i wr => ∃ k m : Nat, i = .int .i64 (k : Int) ∧ k ≤ s.size ∧ Hid (m = (es ((nums s).take k)).length) ∧ Hid (wr.ownsRow base 5 1 b (n + m) ((xs ++ es ((nums s).take k)).map (Value.int .u8))) ∧ Below base w wr ∧ NT w wr) (fun _ _ _ i _ => s.size - (intOf i).toNat)
  case atStart => exact ⟨0, 0, rfl, Nat.zero_le _, (by simp [es] : 0 = (es ((nums s).take 0)).length), (by simpa [es] using HO.out : w.ownsRow base 5 1 v (n + 0) ((xs ++ es ((nums s).take 0)).map (Value.int .u8))), Below.refl _ _, NT.refl _⟩
  case round =>
    obtain ⟨k, m, rfl, hk, HM, HR, hbel, hnt⟩ := hrel
    have hm : m ≤ 2 * k := by rw [HM.out]; exact es_take_len _ _
    have hbase : base ≤ wr.heap.size := Nat.le_trans hb hbel.size
    by_cases hlt : k < s.size
    · have hlt' : (k : Int) < (s.size : Int) := by omega
      have HT : Hid (es ((nums s).take (k + 1)) = es ((nums s).take k) ++ e1 (s[k].toNat : Int)) := by
        show _ = _
        rw [take_snocI _ k (by rw [HL.out]; exact hlt), es_snoc, HN.out k hlt]
      by_cases h3 : (s[k].toNat : Int) < 3
      · have key : Hid (∀ c : Int, (s[k].toNat : Int) = c → c < 3 → es ((nums s).take (k + 1)) = es ((nums s).take k) ++ [2, c + 3]) := fun c hc h => by rw [HT.out, hc, e1_lt h]
        have h012 : (s[k].toNat : Int) = 0 ∨ (s[k].toNat : Int) = 1 ∨ (s[k].toNat : Int) = 2 := by omega
        rcases h012 with hc | hc | hc
        · have K := key.out _ hc (by decide)
          clear key HT h3
          have HK : Hid _ := K
          clear K
          go_wp2_with (first
            | (at_builtin; refine wpList_append_own _ rfl (.tmp 20) (.tmp 21) 32 rfl base 5 i0 (.int .u8 0) 1 1 Try.underlying32 hi hz0 hz1 hz2 rfl (by decide) _ (n + m) _ rfl (HR.out.alloc _) ⟨wr.heap.size, 0, none⟩ 1 1 [.int .u8 2] rfl rfl (one_at wr _ _) (one_one _) (by unfold maxLen; omega) (by omega) (by simp; omega) ?_; intro v1 w1 ho1 hg1 _
               have hb1 : Below base w w1 := (hbel.alloc hbase _).grown hg1 (by simp; omega) (fun j hj => (HR.out.lt j hj).1)
               have hnt1 : NT w w1 := hnt.trans hbel.size ((NT.alloc wr _).trans (by simp) (NT.grown (HR.out.alloc _) hg1))
               have hbase1 : base ≤ w1.heap.size := Nat.le_trans hb hb1.size
               have HO1 : Hid (w1.ownsRow base 5 1 v1 (n + m + 1) ((xs ++ es ((nums s).take k)).map (Value.int .u8) ++ [.int .u8 2])) := ho1
               clear ho1 hg1)
            | (at_builtin; refine wpList_append_own _ rfl (.tmp 25) (.tmp 27) 32 rfl base 5 i0 (.int .u8 0) 1 1 Try.underlying32 hi hz0 hz1 hz2 rfl (by decide) _ (n + m + 1) _ rfl (HO1.out.alloc _) ⟨w1.heap.size, 0, none⟩ 1 1 [.int .u8 3] rfl rfl (one_at w1 _ _) (one_one 3) (by unfold maxLen; omega) (by omega) (by simp; omega) ?_; intro v2 w2 ho2 hg2 _))
          go_roundw
          case rel =>
            refine ⟨k + 1, m + 2, by go_num, by omega, ?_, ?_, (hb1.alloc hbase1 _).grown hg2 (by simp; omega) (fun j hj => (HO1.out.lt j hj).1), hnt1.trans hb1.size ((NT.alloc w1 _).trans (by simp) (NT.grown (HO1.out.alloc _) hg2))⟩
            · show m + 2 = _
              rw [HK.out, List.length_append, ← HM.out]; rfl
            · show World.ownsRow _ _ _ _ _ _ _
              rw [HK.out, ← List.append_assoc, List.map_append]
              simpa [Nat.add_assoc] using ho2
          case measure => simp [intOf]; omega
        · have K := key.out _ hc (by decide)
          clear key HT h3
          have HK : Hid _ := K
          clear K
          go_wp2_with (first
            | (at_builtin; refine wpList_append_own _ rfl (.tmp 20) (.tmp 21) 32 rfl base 5 i0 (.int .u8 0) 1 1 Try.underlying32 hi hz0 hz1 hz2 rfl (by decide) _ (n + m) _ rfl (HR.out.alloc _) ⟨wr.heap.size, 0, none⟩ 1 1 [.int .u8 2] rfl rfl (one_at wr _ _) (one_one _) (by unfold maxLen; omega) (by omega) (by simp; omega) ?_; intro v1 w1 ho1 hg1 _
               have hb1 : Below base w w1 := (hbel.alloc hbase _).grown hg1 (by simp; omega) (fun j hj => (HR.out.lt j hj).1)
               have hnt1 : NT w w1 := hnt.trans hbel.size ((NT.alloc wr _).trans (by simp) (NT.grown (HR.out.alloc _) hg1))
               have hbase1 : base ≤ w1.heap.size := Nat.le_trans hb hb1.size
               have HO1 : Hid (w1.ownsRow base 5 1 v1 (n + m + 1) ((xs ++ es ((nums s).take k)).map (Value.int .u8) ++ [.int .u8 2])) := ho1
               clear ho1 hg1)
            | (at_builtin; refine wpList_append_own _ rfl (.tmp 25) (.tmp 27) 32 rfl base 5 i0 (.int .u8 0) 1 1 Try.underlying32 hi hz0 hz1 hz2 rfl (by decide) _ (n + m + 1) _ rfl (HO1.out.alloc _) ⟨w1.heap.size, 0, none⟩ 1 1 [.int .u8 4] rfl rfl (one_at w1 _ _) (one_one 4) (by unfold maxLen; omega) (by omega) (by simp; omega) ?_; intro v2 w2 ho2 hg2 _))
          go_roundw
          case rel =>
            refine ⟨k + 1, m + 2, by go_num, by omega, ?_, ?_, (hb1.alloc hbase1 _).grown hg2 (by simp; omega) (fun j hj => (HO1.out.lt j hj).1), hnt1.trans hb1.size ((NT.alloc w1 _).trans (by simp) (NT.grown (HO1.out.alloc _) hg2))⟩
            · show m + 2 = _
              rw [HK.out, List.length_append, ← HM.out]; rfl
            · show World.ownsRow _ _ _ _ _ _ _
              rw [HK.out, ← List.append_assoc, List.map_append]
              simpa [Nat.add_assoc] using ho2
          case measure => simp [intOf]; omega
        · have K := key.out _ hc (by decide)
          clear key HT h3
          have HK : Hid _ := K
          clear K
          go_wp2_with (first
            | (at_builtin; refine wpList_append_own _ rfl (.tmp 20) (.tmp 21) 32 rfl base 5 i0 (.int .u8 0) 1 1 Try.underlying32 hi hz0 hz1 hz2 rfl (by decide) _ (n + m) _ rfl (HR.out.alloc _) ⟨wr.heap.size, 0, none⟩ 1 1 [.int .u8 2] rfl rfl (one_at wr _ _) (one_one _) (by unfold maxLen; omega) (by omega) (by simp; omega) ?_; intro v1 w1 ho1 hg1 _
               have hb1 : Below base w w1 := (hbel.alloc hbase _).grown hg1 (by simp; omega) (fun j hj => (HR.out.lt j hj).1)
               have hnt1 : NT w w1 := hnt.trans hbel.size ((NT.alloc wr _).trans (by simp) (NT.grown (HR.out.alloc _) hg1))
               have hbase1 : base ≤ w1.heap.size := Nat.le_trans hb hb1.size
               have HO1 : Hid (w1.ownsRow base 5 1 v1 (n + m + 1) ((xs ++ es ((nums s).take k)).map (Value.int .u8) ++ [.int .u8 2])) := ho1
               clear ho1 hg1)
            | (at_builtin; refine wpList_append_own _ rfl (.tmp 25) (.tmp 27) 32 rfl base 5 i0 (.int .u8 0) 1 1 Try.underlying32 hi hz0 hz1 hz2 rfl (by decide) _ (n + m + 1) _ rfl (HO1.out.alloc _) ⟨w1.heap.size, 0, none⟩ 1 1 [.int .u8 5] rfl rfl (one_at w1 _ _) (one_one 5) (by unfold maxLen; omega) (by omega) (by simp; omega) ?_; intro v2 w2 ho2 hg2 _))
          go_roundw
          case rel =>
            refine ⟨k + 1, m + 2, by go_num, by omega, ?_, ?_, (hb1.alloc hbase1 _).grown hg2 (by simp; omega) (fun j hj => (HO1.out.lt j hj).1), hnt1.trans hb1.size ((NT.alloc w1 _).trans (by simp) (NT.grown (HO1.out.alloc _) hg2))⟩
            · show m + 2 = _
              rw [HK.out, List.length_append, ← HM.out]; rfl
            · show World.ownsRow _ _ _ _ _ _ _
              rw [HK.out, ← List.append_assoc, List.map_append]
              simpa [Nat.add_assoc] using ho2
          case measure => simp [intOf]; omega
      · have K : es ((nums s).take (k + 1)) = es ((nums s).take k) ++ [(s[k].toNat : Int)] := by rw [HT.out, e1_ge h3]
        have HK : Hid _ := K
        clear K HT
        have n0 : ((s[k].toNat : Int) == 0) = false := by simp; omega
        have n1 : ((s[k].toNat : Int) == 1) = false := by simp; omega
        have n2 : ((s[k].toNat : Int) == 2) = false := by simp; omega
        go_wp2_with (at_builtin; refine wpList_append_own _ rfl (.tmp 25) (.tmp 27) 32 rfl base 5 i0 (.int .u8 0) 1 1 Try.underlying32 hi hz0 hz1 hz2 rfl (by decide) _ (n + m) _ rfl (HR.out.alloc _) ⟨wr.heap.size, 0, none⟩ 1 1 [_] rfl rfl (one_at wr _ _) (one_one _) (by unfold maxLen; omega) (by omega) (by simp; omega) ?_; intro v2 w2 ho2 hg2 _)
        go_roundw
        case rel =>
          refine ⟨k + 1, m + 1, by go_num, by omega, ?_, ?_, (hbel.alloc hbase _).grown hg2 (by simp; omega) (fun j hj => (HR.out.lt j hj).1), hnt.trans hbel.size ((NT.alloc wr _).trans (by simp) (NT.grown (HR.out.alloc _) hg2))⟩
          · show m + 1 = _
            rw [HK.out, List.length_append, ← HM.out]; rfl
          · show World.ownsRow _ _ _ _ _ _ _
            rw [HK.out, ← List.append_assoc, List.map_append]
            simpa [Nat.add_assoc] using ho2
        case measure => simp [intOf]; omega
    · have hlt' : ¬ (k : Int) < (s.size : Int) := by omega
      go_wp2_with (at_builtin; refine wpList_append_own _ rfl (.tmp 30) (.tmp 31) 32 rfl base 5 i0 (.int .u8 0) 1 1 Try.underlying32 hi hz0 hz1 hz2 rfl (by decide) _ (n + m) _ rfl (HR.out.alloc _) ⟨wr.heap.size, 0, none⟩ 1 1 [.int .u8 1] rfl rfl (one_at wr _ _) (one_one _) (by unfold maxLen; omega) (by omega) (by simp; omega) ?_; intro v2 w2 ho2 hg2 _)
      go_ret
      have hall : (nums s).take k = nums s := List.take_of_length_le (by rw [HL.out]; omega)
      refine ⟨v2, rfl, ?_, (hbel.alloc hbase _).grown hg2 (by simp; omega) (fun j hj => (HR.out.lt j hj).1), hnt.trans hbel.size ((NT.alloc wr _).trans (by simp) (NT.grown (HR.out.alloc _) hg2))⟩
      have hmm := HM.out
      rw [hall] at hmm ho2
      have e1 : (E (nums s)).length = m + 1 := by rw [E, List.length_append, ← hmm]; rfl
      rw [e1, E]
      simpa [List.map_append, Nat.add_assoc] using ho2

theorem escape_any (s : ByteArray) (w : World) (hs : s.size ≤ 100000) :
    Calls Try.prog 24 #[.string s] w fun e w' => ∃ v', e = .returned v' ∧ w'.ownsRow w.heap.size 5 1 v' (E (nums s)).length ((E (nums s)).map (Value.int .u8)) ∧ Below w.heap.size w w' := by
  have h := escaped_any w.heap.size (.slice none 0 0) 0 [] s w (World.ownsRow_nil _ _ _ _) (Nat.le_refl _) (by omega) hs
  rw [Nat.zero_add, List.nil_append] at h
  have H : Hid _ := h
  clear h
  go_enter Try.func24, Try.ntmps24
  go_wp2_with fail
  refine Calls.mono H.out ?_
  rintro e w1 ⟨v', rfl, ho, hb, _⟩
  go_wp2_with fail
  go_ret
  exact ⟨v', rfl, ho, hb⟩

set_option maxHeartbeats 3200000 in
theorem refescape_any (s : ByteArray) (w : World) (hs : s.size ≤ 100000) :
    Calls Try.prog 25 #[.string s] w fun e w' => ∃ v', e = .returned v' ∧ w'.ownsRow w.heap.size 5 1 v' (E (nums s)).length ((E (nums s)).map (Value.int .u8)) ∧ Below w.heap.size w w' := by
  obtain ⟨i0, hi, hz0, hz1, hz2⟩ := info_parts Try.info5
  have HL : Hid ((nums s).length = s.size) := nums_len s
  have HN : Hid (∀ k, (h : k < s.size) → (nums s).getD k 0 = (s[k].toNat : Int)) := nums_at s
  go_enter Try.func25, Try.ntmps25
  go_wp2
  go_loopw [3, 4] (fun b i wr => ∃ k m : Nat, i = .int .i64 (k : Int) ∧ k ≤ s.size ∧ Hid (m = (es ((nums s).take k)).length) ∧ Hid (wr.ownsRow w.heap.size 5 1 b m ((es ((nums s).take k)).map (Value.int .u8))) ∧ Below w.heap.size w wr) (fun _ i _ => s.size - (intOf i).toNat)
  case atStart => exact ⟨0, 0, rfl, Nat.zero_le _, (by simp [es] : 0 = (es ((nums s).take 0)).length), (by simpa [es] using World.ownsRow_nil w _ 5 1 : w.ownsRow w.heap.size 5 1 (.slice none 0 0) 0 ((es ((nums s).take 0)).map (Value.int .u8))), Below.refl _ _⟩
  case round =>
    obtain ⟨k, m, rfl, hk, HM, HR, hbel⟩ := hrel
    have hm : m ≤ 2 * k := by rw [HM.out]; exact es_take_len _ _
    have hbase := hbel.size
    by_cases hlt : k < s.size
    · have hlt' : (k : Int) < (s.size : Int) := by omega
      have HT : Hid (es ((nums s).take (k + 1)) = es ((nums s).take k) ++ e1 (s[k].toNat : Int)) := by
        show _ = _
        rw [take_snocI _ k (by rw [HL.out]; exact hlt), es_snoc, HN.out k hlt]
      have hnn : (0 : Int) ≤ (s[k].toNat : Int) := by omega
      by_cases h3 : (s[k].toNat : Int) < 3
      · have K : es ((nums s).take (k + 1)) = es ((nums s).take k) ++ [2, (s[k].toNat : Int) + 3] := by rw [HT.out, e1_lt h3]
        have HK : Hid _ := K
        clear K HT
        go_wp2_with (at_builtin; refine wpList_append_own _ rfl (.tmp 15) (.tmp 20) 32 rfl w.heap.size 5 i0 (.int .u8 0) 1 1 Try.underlying32 hi hz0 hz1 hz2 rfl (by decide) _ m _ rfl (HR.out.alloc _) ⟨wr.heap.size, 0, none⟩ 2 2 [.int .u8 2, .int .u8 ((s[k].toNat : Int) + 3)] rfl rfl (two_at wr _ _ _) (ints_oneCell .u8 [2, (s[k].toNat : Int) + 3]) (by unfold maxLen; omega) (by omega) (by simp; omega) ?_; intro v2 w2 ho2 hg2 _)
        go_roundw
        case rel =>
          refine ⟨k + 1, m + 2, by go_num, by omega, ?_, ?_, (hbel.alloc hbase _).grown hg2 (by simp; omega) (fun j hj => (HR.out.lt j hj).1)⟩
          · show m + 2 = _
            rw [HK.out, List.length_append, ← HM.out]; rfl
          · show World.ownsRow _ _ _ _ _ _ _
            rw [HK.out, List.map_append]
            exact ho2
        case measure => simp [intOf]; omega
      · have K : es ((nums s).take (k + 1)) = es ((nums s).take k) ++ [(s[k].toNat : Int)] := by rw [HT.out, e1_ge h3]
        have HK : Hid _ := K
        clear K HT
        go_wp2_with (at_builtin; refine wpList_append_own _ rfl (.tmp 22) (.tmp 26) 32 rfl w.heap.size 5 i0 (.int .u8 0) 1 1 Try.underlying32 hi hz0 hz1 hz2 rfl (by decide) _ m _ rfl (HR.out.alloc _) ⟨wr.heap.size, 0, none⟩ 1 1 [_] rfl rfl (one_at wr _ _) (one_one _) (by unfold maxLen; omega) (by omega) (by simp; omega) ?_; intro v2 w2 ho2 hg2 _)
        go_roundw
        case rel =>
          refine ⟨k + 1, m + 1, by go_num, by omega, ?_, ?_, (hbel.alloc hbase _).grown hg2 (by simp; omega) (fun j hj => (HR.out.lt j hj).1)⟩
          · show m + 1 = _
            rw [HK.out, List.length_append, ← HM.out]; rfl
          · show World.ownsRow _ _ _ _ _ _ _
            rw [HK.out, List.map_append]
            exact ho2
        case measure => simp [intOf]; omega
    · have hlt' : ¬ (k : Int) < (s.size : Int) := by omega
      go_wp2_with (at_builtin; refine wpList_append_own _ rfl (.tmp 28) (.tmp 29) 32 rfl w.heap.size 5 i0 (.int .u8 0) 1 1 Try.underlying32 hi hz0 hz1 hz2 rfl (by decide) _ m _ rfl (HR.out.alloc _) ⟨wr.heap.size, 0, none⟩ 1 1 [.int .u8 1] rfl rfl (one_at wr _ _) (one_one _) (by unfold maxLen; omega) (by omega) (by simp; omega) ?_; intro v2 w2 ho2 hg2 _)
      go_ret
      have hall : (nums s).take k = nums s := List.take_of_length_le (by rw [HL.out]; omega)
      refine ⟨v2, rfl, ?_, (hbel.alloc hbase _).grown hg2 (by simp; omega) (fun j hj => (HR.out.lt j hj).1)⟩
      have hmm := HM.out
      rw [hall] at hmm ho2
      have e1 : (E (nums s)).length = m + 1 := by rw [E, List.length_append, ← hmm]; rfl
      rw [e1, E, List.map_append]
      exact ho2

set_option maxHeartbeats 1600000 in
theorem cloneb_any (a : Option Addr) (len cap : Nat) (zs : List Int) (w : World) (hI : IsI .u8 w a len cap zs) (hlen : len ≤ 100000000) :
    Calls Try.prog 38 #[.slice a len cap] w fun e w' => ∃ v', e = .returned v' ∧ w'.ownsRow w.heap.size 5 1 v' len (zs.map (Value.int .u8)) ∧ Below w.heap.size w w' := by
  obtain ⟨i0, hi, hz0, hz1, hz2⟩ := info_parts Try.info5
  have HI : Hid (IsI .u8 w a len cap zs) := hI
  clear hI
  cases a with
  | none =>
    obtain ⟨rfl, rfl⟩ := HI.out.none rfl
    have hnil : ∀ W, (binOp .eql 32 (.slice none 0 0) (.slice none 0 0)).run Try.prog W = .ok (.bool true) W := fun W => run_eql_nil_slice W _ _ none 0 0 0 0 Try.underlying32
    go_enter Try.func38, Try.ntmps38
    go_wp2
    go_ret
    refine ⟨_, rfl, ?_, Below.refl _ _⟩
    have : zs = [] := List.eq_nil_of_length_eq_zero HI.out.hl
    subst this
    exact World.ownsRow_nil _ _ _ _
  | some ad =>
    have hnil : ∀ W, (binOp .eql 32 (.slice (some ad) len cap) (.slice none 0 0)).run Try.prog W = .ok (.bool false) W := fun W => by
      simp only [binOp]
      simp [Op.equal, Op.maxDepth, Lib.run_equalIn_slice_nil W 9999 32 5 (some ad) len cap 0 0 Try.underlying32]
    go_enter Try.func38, Try.ntmps38
    go_wp2_with (at_builtin; refine wpList_append_any _ rfl (.tmp 5) (.tmp 6) 32 rfl w.heap.size 5 i0 (.int .u8 0) 1 1 Try.underlying32 hi hz0 hz1 hz2 rfl (by decide) _ 0 _ rfl (own_empty5 w _ (Nat.le_refl _)) (some ad) len cap (zs.map (Value.int .u8)) rfl (by rw [List.length_map, HI.out.hl, Nat.mul_one]) HI.out.none (rd_any (HI.out.rd.below ((Below.refl _ _).alloc (Nat.le_refl _) _))) (ints_oneCell _ _) (by unfold maxLen; omega) (by omega) (by simp) ?_; intro v' w1 hown' hgrow)
    go_ret
    refine ⟨v', rfl, ?_, ?_⟩
    · rw [Nat.zero_add] at hown'; exact hown'
    · exact ((Below.refl w.heap.size w).alloc (Nat.le_refl _) _).grown hgrow (by simp) (fun j hj => ((own_empty5 w _ (Nat.le_refl _)).lt j hj).1)
end Go.Proofs.Ythklkhdcmoonkaa
