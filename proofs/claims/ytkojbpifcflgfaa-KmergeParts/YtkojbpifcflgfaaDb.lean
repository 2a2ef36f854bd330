/- The document's own Put: one more in its place. Conditions: how the row lies; sizes. -/
import Derived.Test.YtkojbpifcflgfaaSets
namespace Go.Proofs.Ytkojbpifcflgfaa
open Go.RowKit Go.Shelf

theorem ins_at {z : Int} : ∀ (xs : List Int) (k : Nat), k ≤ xs.length → (∀ i, i < k → xs.getD i 0 < z) → (k = xs.length ∨ ¬ xs.getD k 0 < z) → ins ltI z xs = if k < xs.length ∧ xs.getD k 0 = z then xs else xs.take k ++ z :: xs.drop k
  | [], k, hk, _, _ => by
    have : k = 0 := by simpa using hk
    subst this; rfl
  | y :: r, 0, _, _, h => by
    have h1 : ¬ y < z := by simpa using h
    unfold ins
    rw [if_neg (by simpa [ltI] using h1)]
    by_cases e : y = z
    · rw [if_pos e, if_pos ⟨by simp, by simpa using e⟩]
    · rw [if_neg e, if_neg (fun h => e (by simpa using h.2))]; rfl
  | y :: r, k + 1, hk, ha, h => by
    have h1 : y < z := by simpa using ha 0 (by omega)
    have ih := ins_at (z := z) r k (by simpa using hk) (fun i hi => by simpa using ha (i + 1) (by omega)) (by simpa using h)
    unfold ins
    rw [if_pos (by simpa [ltI] using h1), ih]
    by_cases c : k < r.length ∧ r.getD k 0 = z
    · rw [if_pos c, if_pos (by simpa using c)]
    · rw [if_neg c, if_neg (by simpa using c)]; rfl

/-- Numbers handed back: new, or as they were. -/
def New0 (w : World) (ys : List Int) (e : Ending) (w' : World) : Prop := ∃ a n c, e = .returned (.slice a n c) ∧ IsI .i64 w' a n c ys ∧ Below w.heap.size w w'
theorem own_new0 {w w' : World} {v : Value} {ys : List Int} {n : Nat} (h : w'.ownsRow w.heap.size 3 1 v n (ys.map (Value.int .i64))) (hb : Below w.heap.size w w') : New0 w ys (.returned v) w' := by
  obtain ⟨a, c, rfl, hi⟩ := own_isI (k := .i64) h
  exact ⟨a, n, c, rfl, hi, hb⟩
theorem grown1 {w0 w w' : World} {v : Value} {n : Nat} {xs : List Value} (hb : Below w0.heap.size w0 w) (ho : w.ownsRow w0.heap.size 3 1 v n xs) (hg : w.grownBy w' v.ownBlock) : Below w0.heap.size w0 w' := hb.grown hg hb.size (fun k hk => (ho.lt k hk).1)
theorem al0 {w0 w : World} (hb : Below w0.heap.size w0 w) (o : Obj) : Below w0.heap.size w0 (w.alloc o) := hb.alloc hb.size o
theorem ins_pos {κ : Type} [DecidableEq κ] (lt : κ → κ → Bool) (x : κ) : ∀ l : List κ, 0 < (ins lt x l).length
  | [] => by simp [ins]
  | y :: r => by
    unfold ins
    split
    · simp
    · split <;> simp

set_option maxRecDepth 20000 in
set_option maxHeartbeats 4000000 in
theorem put_any (a : Option Addr) (n c : Nat) (z : Int) (xs : List Int) (w : World) (h : IsI .i64 w a n c xs) (hn : n ≤ 100000) (hz : n = 0 → a = none) :
    Calls Try.prog 30 #[.slice a n c, .int .i64 z] w (New0 w (ins ltI z xs)) := by
  obtain ⟨i0, hi0, hz0, hz1, hz2⟩ := info_parts (show (Try.prog.info? 3).map (fun i => (i.zero, i.size, i.bytes)) = some (some (.int .i64 0), 1, 8) by kernel_rfl)
  have H : Hid (IsI .i64 w a n c xs) := h
  have HL : Hid (xs.length = n) := h.hl
  have hc := h.hc
  have hmx := h.hm
  clear h
  go_enter Try.func30, Try.ntmps30
  go_wp2
  go_loopg [5] n (fun gg s5 wr => ∃ k : Nat, s5 = .int .i64 k ∧ k ≤ n ∧ n - k ≤ gg ∧ wr = w ∧ Hid (∀ i, i < k → xs.getD i 0 < z))
  case atStart => exact ⟨0, rfl, Nat.zero_le _, Nat.le_refl _, rfl, fun i hi => by omega⟩
  case round =>
    obtain ⟨k, rfl, hk, hg, rfl, HT⟩ := hrel
    -- what is found is put
    have fin : (k = n ∨ ¬ xs.getD k 0 < z) → ins ltI z xs = if k < n ∧ xs.getD k 0 = z then xs else xs.take k ++ z :: xs.drop k := fun h => by
      have := ins_at (z := z) xs k (by rw [HL.out]; exact hk) HT.out (by rw [HL.out]; exact h)
      rwa [HL.out] at this
    by_cases hlt : k < n
    · obtain ⟨g1, o1, rfl, _, c1⟩ := H.out.lt (by omega)
      have hk0 : (k : Int) < (n : Int) := by omega
      have d1 := c1 k hlt
      by_cases he : xs.getD k 0 < z
      · have HE : Hid (∀ i, i < k + 1 → xs.getD i 0 < z) := fun i hi => by
          by_cases e : i = k
          · rw [e]; exact he
          · exact HT.out i (by omega)
        obtain ⟨y, hy⟩ : ∃ y, y = xs.getD k 0 := ⟨_, rfl⟩
        rw [← hy] at d1 he
        clear c1 hy fin
        go_wp2
        go_roundg (n - (k + 1))
        case measure => omega
        case rel => exact ⟨k + 1, by go_num, by omega, Nat.le_refl _, rfl, HE.out⟩
      · have HF : Hid _ := fin (.inr he)
        by_cases hq : xs.getD k 0 = z
        · have HR : Hid (ins ltI z xs = xs) := by have := HF.out; rwa [if_pos ⟨hlt, hq⟩] at this
          rw [hq] at d1
          clear c1 fin hq he
          go_wp2
          go_ret
          rw [HR.out]
          exact ⟨some ⟨g1, o1, none⟩, n, c, rfl, H.out, Below.refl _ _⟩
        · have HR : Hid (ins ltI z xs = xs.take k ++ z :: xs.drop k) := by have := HF.out; rwa [if_neg (fun h => hq h.2)] at this
          obtain ⟨y, hy⟩ : ∃ y, y = xs.getD k 0 := ⟨_, rfl⟩
          rw [← hy] at d1 he hq
          clear c1 hy fin
          have HT1 : Hid (Rd .i64 wr (some ⟨g1, o1, none⟩) (xs.take k) ∧ (xs.take k).length = k ∧ (xs.drop k).length = n - k) := ⟨Rd.take (show Rd .i64 wr (some ⟨g1, o1, none⟩) xs from H.out.rd) k, by rw [List.length_take, HL.out]; omega, by rw [List.length_drop, HL.out]⟩
          have HT2 : Hid (Rd .i64 wr (some ⟨g1, o1 + k, none⟩) (xs.drop k)) := by have := Rd.drop (show Rd .i64 wr (some ⟨g1, o1, none⟩) xs from H.out.rd) HL.out hc hk; rwa [if_neg (by omega)] at this
          go_wp2_with (first
            | (at_builtin; refine wpList_append_any _ rfl (.tmp 34) (.tmp 37) 30 rfl wr.heap.size 3 i0 (.int .i64 0) 1 8 Try.underlying30 hi0 hz0 hz1 hz2 rfl (by decide) (.slice none 0 0) 0 [] rfl (World.ownsRow_nil _ _ _ _) (some ⟨g1, o1, none⟩) k c ((xs.take k).map (Value.int .i64)) rfl (by rw [List.length_map, HT1.out.2.1, Nat.mul_one]) (fun h => by cases h) (rd_any HT1.out.1) (ints_oneCell _ _) (by unfold maxLen; omega) (by omega) (Nat.le_refl _) ?_
               intro v1 w1 ho1 hg1
               have H1 : Hid (w1.ownsRow wr.heap.size 3 1 v1 k ((xs.take k).map (Value.int .i64)) ∧ Below wr.heap.size wr w1) := ⟨by simpa using ho1, grown1 (Below.refl _ _) (World.ownsRow_nil _ _ _ _) hg1⟩
               clear ho1 hg1)
            | (at_builtin; refine wpList_append_any _ rfl (.tmp 39) (.tmp 41) 30 rfl wr.heap.size 3 i0 (.int .i64 0) 1 8 Try.underlying30 hi0 hz0 hz1 hz2 rfl (by decide) v1 k _ rfl (H1.out.1.alloc _) (some ⟨w1.heap.size, 0, none⟩) 1 1 [.int .i64 z] rfl rfl (fun h => by cases h) (fun ad e j u hu => by cases e; exact I.at_one (by simp) j u hu) (by intro u hu; simp at hu; subst hu; rfl) (by unfold maxLen; omega) (by omega) (al0 H1.out.2 _).size ?_
               intro v2 w2 ho2 hg2
               have H2 : Hid (w2.ownsRow wr.heap.size 3 1 v2 (k + 1) ((xs.take k ++ [z]).map (Value.int .i64)) ∧ Below wr.heap.size wr w2) := ⟨by simpa using ho2, grown1 (al0 H1.out.2 _) (H1.out.1.alloc _) hg2⟩
               clear ho2 hg2)
            | (at_builtin; refine wpList_append_any _ rfl (.tmp 43) (.tmp 46) 30 rfl wr.heap.size 3 i0 (.int .i64 0) 1 8 Try.underlying30 hi0 hz0 hz1 hz2 rfl (by decide) v2 (k + 1) _ rfl H2.out.1 (some ⟨g1, o1 + k, none⟩) (n - k) (c - k) ((xs.drop k).map (Value.int .i64)) rfl (by rw [List.length_map]; have := HT1.out.2.2; omega) (fun h => by cases h) (rd_any (HT2.out.below H2.out.2)) (ints_oneCell _ _) (by unfold maxLen; omega) (by omega) H2.out.2.size ?_
               intro v3 w3 ho3 hg3
               have H3 : Hid (w3.ownsRow wr.heap.size 3 1 v3 _ ((xs.take k ++ z :: xs.drop k).map (Value.int .i64)) ∧ Below wr.heap.size wr w3) := ⟨by simpa using ho3, grown1 H2.out.2 H2.out.1 hg3⟩
               clear ho3 hg3))
          all_goals (go_ret; rw [HR.out]; exact own_new0 H3.out.1 H3.out.2)
    · have e : k = n := by omega
      subst e
      have HR : Hid (ins ltI z xs = xs.take k ++ z :: xs.drop k) := by have := fin (.inl rfl); rwa [if_neg (fun h => hlt h.1)] at this
      clear fin
      have hd0 : Hid (xs.drop k = []) := List.drop_eq_nil_of_le (by rw [HL.out]; omega)
      by_cases hk1 : 0 < k
      · obtain ⟨g1, o1, rfl, _, _⟩ := H.out.lt hk1
        have p1 : (0 : Int) < (k : Int) := by omega
        have p2 : (k : Int) ≤ (c : Int) := by omega
        have HT1 : Hid (Rd .i64 wr (some ⟨g1, o1, none⟩) (xs.take k) ∧ (xs.take k).length = k ∧ (xs.drop k).length = k - k) := ⟨Rd.take (show Rd .i64 wr (some ⟨g1, o1, none⟩) xs from H.out.rd) k, by rw [List.length_take, HL.out]; omega, by rw [List.length_drop, HL.out]⟩
        
        go_wp2_with (first
          | (at_builtin; refine wpList_append_any _ rfl (.tmp 34) (.tmp 37) 30 rfl wr.heap.size 3 i0 (.int .i64 0) 1 8 Try.underlying30 hi0 hz0 hz1 hz2 rfl (by decide) (.slice none 0 0) 0 [] rfl (World.ownsRow_nil _ _ _ _) (some ⟨g1, o1, none⟩) k c ((xs.take k).map (Value.int .i64)) rfl (by rw [List.length_map, HT1.out.2.1, Nat.mul_one]) (fun h => by cases h) (rd_any HT1.out.1) (ints_oneCell _ _) (by unfold maxLen; omega) (by omega) (Nat.le_refl _) ?_
             intro v1 w1 ho1 hg1
             have H1 : Hid (w1.ownsRow wr.heap.size 3 1 v1 k ((xs.take k).map (Value.int .i64)) ∧ Below wr.heap.size wr w1) := ⟨by simpa using ho1, grown1 (Below.refl _ _) (World.ownsRow_nil _ _ _ _) hg1⟩
             clear ho1 hg1)
          | (at_builtin; refine wpList_append_any _ rfl (.tmp 39) (.tmp 41) 30 rfl wr.heap.size 3 i0 (.int .i64 0) 1 8 Try.underlying30 hi0 hz0 hz1 hz2 rfl (by decide) v1 k _ rfl (H1.out.1.alloc _) (some ⟨w1.heap.size, 0, none⟩) 1 1 [.int .i64 z] rfl rfl (fun h => by cases h) (fun ad e j u hu => by cases e; exact I.at_one (by simp) j u hu) (by intro u hu; simp at hu; subst hu; rfl) (by unfold maxLen; omega) (by omega) (al0 H1.out.2 _).size ?_
             intro v2 w2 ho2 hg2
             have H2 : Hid (w2.ownsRow wr.heap.size 3 1 v2 (k + 1) ((xs.take k ++ [z]).map (Value.int .i64)) ∧ Below wr.heap.size wr w2) := ⟨by simpa using ho2, grown1 (al0 H1.out.2 _) (H1.out.1.alloc _) hg2⟩
             clear ho2 hg2)
          | (at_builtin; refine wpList_append_any _ rfl (.tmp 43) (.tmp 46) 30 rfl wr.heap.size 3 i0 (.int .i64 0) 1 8 Try.underlying30 hi0 hz0 hz1 hz2 rfl (by decide) v2 (k + 1) _ rfl H2.out.1 _ _ _ ((xs.drop k).map (Value.int .i64)) rfl (by rw [List.length_map]; have := HT1.out.2.2; omega) (by intro h; split at h <;> cases h) (rd_any (show Rd .i64 w2 _ (xs.drop k) from .inl hd0.out)) (ints_oneCell _ _) (by unfold maxLen; omega) (by omega) H2.out.2.size ?_
             intro v3 w3 ho3 hg3
             have H3 : Hid (w3.ownsRow wr.heap.size 3 1 v3 _ ((xs.take k ++ z :: xs.drop k).map (Value.int .i64)) ∧ Below wr.heap.size wr w3) := ⟨by simpa using ho3, grown1 H2.out.2 H2.out.1 hg3⟩
             clear ho3 hg3))
        all_goals (go_ret; rw [HR.out]; exact own_new0 H3.out.1 H3.out.2)
      · have hk2 : k = 0 := by omega
        obtain rfl : a = none := hz hk2
        have hc0 : c = 0 := H.out.nil rfl
        subst hk2
        subst hc0
        have HT1 : Hid (Rd .i64 wr none (xs.take 0) ∧ (xs.take 0).length = 0 ∧ (xs.drop 0).length = 0 - 0) := ⟨Rd.take (show Rd .i64 wr none xs from H.out.rd) 0, by rw [List.length_take, HL.out]; omega, by rw [List.length_drop, HL.out]⟩
        
        go_wp2_with (first
          | (at_builtin; refine wpList_append_any _ rfl (.tmp 34) (.tmp 37) 30 rfl wr.heap.size 3 i0 (.int .i64 0) 1 8 Try.underlying30 hi0 hz0 hz1 hz2 rfl (by decide) (.slice none 0 0) 0 [] rfl (World.ownsRow_nil _ _ _ _) none 0 0 ((xs.take 0).map (Value.int .i64)) rfl (by rw [List.length_map, HT1.out.2.1, Nat.mul_one]) (fun _ => ⟨rfl, rfl⟩) (rd_any HT1.out.1) (ints_oneCell _ _) (by unfold maxLen; omega) (by omega) (Nat.le_refl _) ?_
             intro v1 w1 ho1 hg1
             have H1 : Hid (w1.ownsRow wr.heap.size 3 1 v1 0 ((xs.take 0).map (Value.int .i64)) ∧ Below wr.heap.size wr w1) := ⟨by simpa using ho1, grown1 (Below.refl _ _) (World.ownsRow_nil _ _ _ _) hg1⟩
             clear ho1 hg1)
          | (at_builtin; refine wpList_append_any _ rfl (.tmp 39) (.tmp 41) 30 rfl wr.heap.size 3 i0 (.int .i64 0) 1 8 Try.underlying30 hi0 hz0 hz1 hz2 rfl (by decide) v1 0 _ rfl (H1.out.1.alloc _) (some ⟨w1.heap.size, 0, none⟩) 1 1 [.int .i64 z] rfl rfl (fun h => by cases h) (fun ad e j u hu => by cases e; exact I.at_one (by simp) j u hu) (by intro u hu; simp at hu; subst hu; rfl) (by unfold maxLen; omega) (by omega) (al0 H1.out.2 _).size ?_
             intro v2 w2 ho2 hg2
             have H2 : Hid (w2.ownsRow wr.heap.size 3 1 v2 (0 + 1) ((xs.take 0 ++ [z]).map (Value.int .i64)) ∧ Below wr.heap.size wr w2) := ⟨by simpa using ho2, grown1 (al0 H1.out.2 _) (H1.out.1.alloc _) hg2⟩
             clear ho2 hg2)
          | (at_builtin; refine wpList_append_any _ rfl (.tmp 43) (.tmp 46) 30 rfl wr.heap.size 3 i0 (.int .i64 0) 1 8 Try.underlying30 hi0 hz0 hz1 hz2 rfl (by decide) v2 (0 + 1) _ rfl H2.out.1 none 0 0 ((xs.drop 0).map (Value.int .i64)) rfl (by rw [List.length_map]; have := HT1.out.2.2; omega) (fun _ => ⟨rfl, rfl⟩) (rd_any (show Rd .i64 w2 _ (xs.drop 0) from .inl hd0.out)) (ints_oneCell _ _) (by unfold maxLen; omega) (by omega) H2.out.2.size ?_
             intro v3 w3 ho3 hg3
             have H3 : Hid (w3.ownsRow wr.heap.size 3 1 v3 _ ((xs.take 0 ++ z :: xs.drop 0).map (Value.int .i64)) ∧ Below wr.heap.size wr w3) := ⟨by simpa using ho3, grown1 H2.out.2 H2.out.1 hg3⟩
             clear ho3 hg3))
        all_goals (go_ret; rw [HR.out]; exact own_new0 H3.out.1 H3.out.2)
end Go.Proofs.Ytkojbpifcflgfaa
