/- Items in rows of the call's own; the document's own put (items); two rows of items the same. Conditions: how the rows lie; sizes. -/
import Derived.Test.YtkojbpifcflgfaaIu
import Derived.Test.YtkojbpifcflgfaaDc
namespace Go.Proofs.Ytkojbpifcflgfaa
open Go.RowKit Go.Shelf

/-- A value that is a slice of these bytes. -/
def SlB (W : World) (v : Value) (l : List Int) : Prop := ∃ a n c, v = .slice a n c ∧ IsI .u8 W a n c l
def Fo (W : World) : List Value → List (List Int) → Prop
  | [], [] => True
  | v :: vs, l :: ls => SlB W v l ∧ Fo W vs ls
  | _, _ => False
theorem Fo.len {W : World} : ∀ {vs : List Value} {ls : List (List Int)}, Fo W vs ls → vs.length = ls.length
  | [], [], _ => rfl
  | _ :: _, _ :: _, h => by have := Fo.len h.2; simp [this]
theorem Fo.below {W W' : World} (hb : Below W.heap.size W W') : ∀ {vs : List Value} {ls : List (List Int)}, Fo W vs ls → Fo W' vs ls
  | [], [], _ => trivial
  | _ :: _, _ :: _, h => by
    obtain ⟨⟨a, n, c, e, hi⟩, h2⟩ := h
    exact ⟨⟨a, n, c, e, hi.below hb⟩, Fo.below hb h2⟩
theorem Fo.app {W : World} : ∀ {vs us : List Value} {ls ms : List (List Int)}, Fo W vs ls → Fo W us ms → Fo W (vs ++ us) (ls ++ ms)
  | [], _, [], _, _, h => h
  | _ :: _, _, _ :: _, _, h1, h2 => ⟨h1.1, Fo.app h1.2 h2⟩
theorem Fo.take {W : World} : ∀ {vs : List Value} {ls : List (List Int)} (k : Nat), Fo W vs ls → Fo W (vs.take k) (ls.take k)
  | [], [], k, _ => by simp; trivial
  | _ :: _, _ :: _, 0, _ => trivial
  | _ :: _, _ :: _, k + 1, h => ⟨h.1, Fo.take k h.2⟩
theorem Fo.drop {W : World} : ∀ {vs : List Value} {ls : List (List Int)} (k : Nat), Fo W vs ls → Fo W (vs.drop k) (ls.drop k)
  | [], [], k, _ => by simp; trivial
  | _ :: _, _ :: _, 0, h => h
  | _ :: _, _ :: _, k + 1, h => Fo.drop k h.2
theorem Fo.get {W : World} : ∀ {vs : List Value} {ls : List (List Int)} {i : Nat}, Fo W vs ls → i < ls.length → ∃ u, vs[i]? = some u ∧ SlB W u (ls.getD i [])
  | [], [], i, _, hi => by simp at hi
  | v :: _, _ :: _, 0, h, _ => ⟨v, rfl, h.1⟩
  | _ :: _, _ :: _, i + 1, h, hi => by
    obtain ⟨u, h1, h2⟩ := Fo.get (i := i) h.2 (by simpa using hi)
    exact ⟨u, by simpa using h1, by simpa using h2⟩
theorem Fo.one' {W : World} : ∀ {vs : List Value} {ls : List (List Int)}, Fo W vs ls → ∀ u ∈ vs, u.oneCell' = true
  | [], [], _, u, hu => by simp at hu
  | v :: vs, _ :: _, h, u, hu => by
    rcases List.mem_cons.1 hu with e | e
    · obtain ⟨a, n, c, e2, _⟩ := h.1
      rw [e, e2]; rfl
    · exact Fo.one' h.2 u e
theorem fo_of {W : World} : ∀ (vs : List Value) (ls : List (List Int)), vs.length = ls.length → (∀ i v, vs[i]? = some v → SlB W v (ls.getD i [])) → Fo W vs ls
  | [], [], _, _ => trivial
  | [], _ :: _, h, _ => by simp at h
  | _ :: _, [], h, _ => by simp at h
  | v :: vs, l :: ls, h, hp => ⟨by simpa using hp 0 v rfl, fo_of vs ls (by simpa using h) (fun i u hu => by simpa using hp (i + 1) u (by simpa using hu))⟩
/-- A slice of items as values. -/
theorem isR_fo {W : World} {a : Option Addr} {n c : Nat} {ls : List (List Int)} (h : IsR W a n c ls) : ∃ vs, Fo W vs ls ∧ vs.length = n ∧ ∀ b off, a = some ⟨b, off, none⟩ → ∀ j u, vs[j]? = some u → W.cell? ⟨b, off + j, none⟩ = some u := by
  obtain ⟨vs, h1, h2⟩ := exists_list n (fun i (v : Value) => SlB W v (ls.getD i []) ∧ ∀ b off, a = some ⟨b, off, none⟩ → W.cell? ⟨b, off + i, none⟩ = some v) (fun i hi => by
    obtain ⟨b, off, ai, ni, ci', e1, e2, e3, e4⟩ := h.rd.at (k := i) (by rw [h.hl]; exact hi)
    exact ⟨.slice ai ni ci', ⟨ai, ni, ci', rfl, e4⟩, fun b' off' e => by rw [e1] at e; cases e; exact e3⟩)
  exact ⟨vs, fo_of vs ls (by rw [h1, h.hl]) (fun i v hv => (h2 i v hv).1), h1, fun b off e j u hu => (h2 j u hu).2 b off e⟩
theorem own_isR {W : World} {D n : Nat} {v : Value} {vs : List Value} {ls : List (List Int)} (h : W.ownsRow D 41 1 v n vs) (hf : Fo W vs ls) : ∃ a c, v = .slice a n c ∧ IsR W a n c ls := by
  have hl := h.1
  have hle := hf.len
  by_cases hn : 0 < n
  · obtain ⟨g, cap, h1, h2, h3, h4, h5, h6, _⟩ := own_cell h hn
    refine ⟨_, cap, h1, ⟨by omega, h4, h5, .inr ⟨g, 0, rfl, h3, fun i hi => ?_⟩, fun h => by cases h⟩⟩
    obtain ⟨u, hu, ai, ni, ci, rfl, hii⟩ := hf.get hi
    rw [Nat.zero_add]
    exact ⟨ai, ni, ci, h6 _ _ hu, hii⟩
  · obtain rfl : n = 0 := by omega
    have hv : ls = [] := List.eq_nil_of_length_eq_zero (by omega)
    subst hv
    rcases h.2 with ⟨h1, _⟩ | ⟨g, cap, cur, h1, _, _, h4, h5, _⟩
    · exact ⟨none, 0, h1, isR_nil _⟩
    · exact ⟨_, cap, h1, ⟨rfl, h4, h5, .inl rfl, fun h => by cases h⟩⟩
/-- Items handed back: new, or as they were. -/
def NewO (w : World) (ys : List (List Int)) (e : Ending) (w' : World) : Prop := ∃ a n c, e = .returned (.slice a n c) ∧ IsR w' a n c ys ∧ Below w.heap.size w w'
theorem own_newO {w w' : World} {v : Value} {vs : List Value} {ls : List (List Int)} {n : Nat} (h : w'.ownsRow w.heap.size 41 1 v n vs) (hf : Fo w' vs ls) (hb : Below w.heap.size w w') : NewO w ls (.returned v) w' := by
  obtain ⟨a, c, rfl, hi⟩ := own_isR h hf
  exact ⟨a, n, c, rfl, hi, hb⟩
theorem grown41 {B : Nat} {w0 w w' : World} {v : Value} {n : Nat} {xs : List Value} (hb : Below B w0 w) (hB : B ≤ w.heap.size) (ho : w.ownsRow B 41 1 v n xs) (hg : w.grownBy w' v.ownBlock) : Below B w0 w' := hb.grown hg hB (fun k hk => (ho.lt k hk).1)
theorem below_d (w : World) (q n m : Nat) : Below w.heap.size w (((w.drewN q).drewN n).drewN m) := ⟨rfl, rfl, rfl, Nat.le_refl _, fun _ _ => rfl⟩
theorem take_get {vs : List Value} {k j : Nat} {u : Value} (h : (vs.take k)[j]? = some u) : vs[j]? = some u := by
  rw [List.getElem?_take] at h
  split at h
  · exact h
  · cases h
theorem drop_get {vs : List Value} {k j : Nat} {u : Value} (h : (vs.drop k)[j]? = some u) : vs[k + j]? = some u := by
  rwa [List.getElem?_drop] at h

theorem ins_atL {z : List Int} : ∀ (xs : List (List Int)) (k : Nat), k ≤ xs.length → (∀ i, i < k → li (xs.getD i []) z = true) → (k = xs.length ∨ li (xs.getD k []) z = false) → ins li z xs = if k < xs.length ∧ xs.getD k [] = z then xs else xs.take k ++ z :: xs.drop k
  | [], k, hk, _, _ => by
    have : k = 0 := by simpa using hk
    subst this; rfl
  | y :: r, 0, _, _, h => by
    have h1 : li y z = false := by simpa using h
    unfold ins
    rw [if_neg (by rw [h1]; simp)]
    by_cases e : y = z
    · rw [if_pos e, if_pos ⟨by simp, by simpa using e⟩]
    · rw [if_neg e, if_neg (fun h => e (by simpa using h.2))]; rfl
  | y :: r, k + 1, hk, ha, h => by
    have h1 : li y z = true := by simpa using ha 0 (by omega)
    have ih := ins_atL (z := z) r k (by simpa using hk) (fun i hi => by simpa using ha (i + 1) (by omega)) (by simpa using h)
    unfold ins
    rw [if_pos h1, ih]
    by_cases c : k < r.length ∧ r.getD k [] = z
    · rw [if_pos c, if_pos (by simpa using c)]
    · rw [if_neg c, if_neg (by simpa using c)]; rfl

theorem drewN_add (w : World) (q n : Nat) : w.drewN (q + n) = (w.drewN q).drewN n := by
  simp [World.drewN, Nat.add_assoc]
theorem rows_ne {us vs : List (List Int)} {k : Nat} (h : us.getD k [] ≠ vs.getD k []) : us ≠ vs := by
  rintro rfl; exact h rfl
theorem rows_eq {us vs : List (List Int)} (hl : us.length = vs.length) (h : ∀ j, j < us.length → us.getD j [] = vs.getD j []) : us = vs := by
  apply List.ext_getElem hl
  intro j h1 h2
  have := h j h1
  rwa [getD_eqR h1, getD_eqR h2] at this

set_option maxHeartbeats 1600000 in
theorem same_any (a1 : Option Addr) (n1 c1 : Nat) (us : List (List Int)) (a2 : Option Addr) (n2 c2 : Nat) (vs : List (List Int)) (w : World) (h1 : IsR w a1 n1 c1 us) (wf1 : WfR us) (h2 : IsR w a2 n2 c2 vs) (wf2 : WfR vs) :
    Calls Try.prog 11 #[.slice a1 n1 c1, .slice a2 n2 c2] w fun e w' => e = .returned (.bool (decide (us = vs))) ∧ Below w.heap.size w w' := by
  have hm1 := h1.hm
  have hc1 := h1.hc
  have hm2 := h2.hm
  have hc2 := h2.hc
  unfold maxLen at hm1 hm2
  obtain ⟨b, hb⟩ : ∃ b, Hid (b = decide (us = vs)) := ⟨_, rfl⟩
  rw [← hb.out]
  have HI : Hid ((IsR w a1 n1 c1 us ∧ WfR us) ∧ IsR w a2 n2 c2 vs ∧ WfR vs) := ⟨⟨h1, wf1⟩, h2, wf2⟩
  clear h1 wf1 h2 wf2
  by_cases hn : n1 = n2
  · subst hn
    go_enter Try.func11, Try.ntmps11
    go_wp2
    go_loopw [5] (fun i wr => ∃ k q : Nat, i = .int .i64 (k : Int) ∧ k ≤ n1 ∧ Hid (∀ j, j < k → us.getD j [] = vs.getD j []) ∧ wr = w.drewN q) (fun i _ => n1 - (intOf i).toNat)
    case atStart => exact ⟨0, 0, rfl, Nat.zero_le _, (fun j hj => by omega), rfl⟩
    case round =>
      obtain ⟨k, q, rfl, hk, HA, rfl⟩ := hrel
      by_cases hlt : k < n1
      · have hlt' : (k : Int) < (n1 : Int) := by omega
        have hk0 : (0 : Int) ≤ (k : Int) := by omega
        have hkl : k < us.length := by rw [HI.out.1.1.hl]; omega
        have hkl1 : k < vs.length := by rw [HI.out.2.1.hl]; omega
        obtain ⟨g, off, ai, ni, ci, rfl, hg, c0, hi⟩ := HI.out.1.1.rd.at hkl
        obtain ⟨g', off', aj, nj, cj, rfl, hg', c1', hj⟩ := HI.out.2.1.rd.at hkl1
        have v0 := conv_drew w ai ci ni _ hi
        have v1 := conv_drew w aj cj nj _ hj
        have hl := str_same (HI.out.1.2 _ (getD_memR hkl)) (HI.out.2.2 _ (getD_memR hkl1))
        obtain ⟨r, hr⟩ : ∃ r, Hid (r = decide (us.getD k [] = vs.getD k [])) := ⟨_, rfl⟩
        rw [← hr.out] at hl
        have HN : Hid (r = false → decide (us = vs) = false) := fun h => decide_eq_false (rows_ne (of_decide_eq_false (by rw [← hr.out]; exact h)))
        have HT : Hid (r = true → ∀ j, j < k + 1 → us.getD j [] = vs.getD j []) := fun h j h1 => by
          rcases Nat.lt_succ_iff_lt_or_eq.1 h1 with h3 | h3
          · exact HA.out j h3
          · subst h3; exact of_decide_eq_true (by rw [← hr.out]; exact h)
        generalize strOfNums (us.getD k []) = M at *
        generalize strOfNums (vs.getD k []) = E at *
        clear hi hj hkl hkl1 hr
        cases r with
        | false =>
          go_wp2
          go_quiet (fail)
          go_wp2
          go_ret
          exact ⟨ret_bool (by rw [hb.out, HN.out trivial]), below_dr2 _ _ _⟩
        | true =>
          go_wp2
          go_quiet (fail)
          go_wp2
          go_roundw
          case rel => exact ⟨k + 1, _, by go_num, by omega, HT.out trivial, rfl⟩
          case measure => simp [intOf]; omega
      · have hlt' : ¬ (k : Int) < (n1 : Int) := by omega
        go_wp2
        go_ret
        refine ⟨ret_bool ?_, below_dr _ _⟩
        rw [hb.out, decide_eq_true (rows_eq (by rw [HI.out.1.1.hl, HI.out.2.1.hl]) fun j hj => HA.out j (by rw [HI.out.1.1.hl] at hj; omega))]
  · have hn' : ((n1 : Int) == (n2 : Int)) = false := by simp; omega
    go_enter Try.func11, Try.ntmps11
    go_wp2
    go_ret
    refine ⟨ret_bool ?_, Below.refl _ _⟩
    rw [hb.out, decide_eq_false]
    rintro rfl
    exact hn (by rw [← HI.out.1.1.hl, ← HI.out.2.1.hl])

set_option maxRecDepth 20000 in
set_option maxHeartbeats 8000000 in
theorem putB_any (a : Option Addr) (n c : Nat) (ls : List (List Int)) (ax : Option Addr) (nx cx : Nat) (x : List Int) (w : World) (hI : IsR w a n c ls) (hwf : WfR ls) (hX : IsI .u8 w ax nx cx x) (hbx : Bytes x) (hn : n ≤ 100000) (hz : n = 0 → a = none) :
    Calls Try.prog 27 #[.slice a n c, .slice ax nx cx] w (NewO w (ins li x ls)) := by
  obtain ⟨i0, hi0, hz0, hz1, hz2⟩ := info_parts Try.info41'
  have hm := hI.hm
  have hc := hI.hc
  unfold maxLen at hm
  have HL : Hid (ls.length = n) := hI.hl
  obtain ⟨vs, f1, f2, f3⟩ := isR_fo hI
  have HF : Hid (Fo w vs ls ∧ vs.length = n ∧ (∀ b off, a = some ⟨b, off, none⟩ → ∀ j u, vs[j]? = some u → w.cell? ⟨b, off + j, none⟩ = some u) ∧ Fo w [.slice ax nx cx] [x]) := ⟨f1, f2, f3, ⟨ax, nx, cx, rfl, hX⟩, trivial⟩
  have HI : Hid ((IsR w a n c ls ∧ WfR ls) ∧ IsI .u8 w ax nx cx x ∧ Bytes x) := ⟨⟨hI, hwf⟩, hX, hbx⟩
  have HW : Hid (∀ k, Fo w (vs.take k ++ [.slice ax nx cx] ++ vs.drop k) (ls.take k ++ x :: ls.drop k)) := fun k => by
    have := ((f1.take k).app (show Fo w [.slice ax nx cx] [x] from ⟨⟨ax, nx, cx, rfl, hX⟩, trivial⟩)).app (f1.drop k)
    rwa [List.append_assoc (ls.take k), List.singleton_append] at this
  clear hI hwf hX hbx f1 f2 f3
  go_enter Try.func27, Try.ntmps27
  go_wp2
  go_loopg [5] n (fun gg s5 wr => ∃ k q : Nat, s5 = .int .i64 k ∧ k ≤ n ∧ n - k ≤ gg ∧ wr = w.drewN q ∧ Hid (∀ i, i < k → li (ls.getD i []) x = true))
  case atStart => exact ⟨0, 0, rfl, Nat.zero_le _, Nat.le_refl _, rfl, fun i hi => by omega⟩
  case round =>
    obtain ⟨k, q, rfl, hk, hg, rfl, HT⟩ := hrel
    have fin : (k = n ∨ li (ls.getD k []) x = false) → ins li x ls = if k < n ∧ ls.getD k [] = x then ls else ls.take k ++ x :: ls.drop k := fun h => by
      have := ins_atL (z := x) ls k (by rw [HL.out]; exact hk) HT.out (by rw [HL.out]; exact h)
      rwa [HL.out] at this
    by_cases hlt : k < n
    · have hlt' : decide ((k : Int) < (n : Int)) = true := by simp; omega
      have hlt2 : (k : Int) < (n : Int) := by omega
      have hk0 : (0 : Int) ≤ (k : Int) := by omega
      have hkl : k < ls.length := by rw [HL.out]; omega
      obtain ⟨g1, o1, ai, ni, ci, rfl, hgs, d0, hi⟩ := HI.out.1.1.rd.at hkl
      have v0 := conv_drew w ai ci ni _ hi
      have v1 := conv_drew w ax cx nx x HI.out.2.1
      have hl := str_less (HI.out.1.2 _ (getD_memR hkl)) HI.out.2.2
      have he := str_same (HI.out.1.2 _ (getD_memR hkl)) HI.out.2.2
      obtain ⟨r, hr⟩ : ∃ r, Hid (r = li (ls.getD k []) x) := ⟨_, rfl⟩
      obtain ⟨s, hs⟩ : ∃ s, Hid (s = decide (ls.getD k [] = x)) := ⟨_, rfl⟩
      rw [← hr.out] at hl
      rw [← hs.out] at he
      have HN : Hid (r = false → s = true → ins li x ls = ls) := fun h1 h2 => by
        have := fin (.inr (by rw [← hr.out]; exact h1))
        rwa [if_pos ⟨hlt, of_decide_eq_true (by rw [← hs.out]; exact h2)⟩] at this
      have HM : Hid (r = false → s = false → ins li x ls = ls.take k ++ x :: ls.drop k) := fun h1 h2 => by
        have := fin (.inr (by rw [← hr.out]; exact h1))
        rwa [if_neg (fun h => of_decide_eq_false (by rw [← hs.out]; exact h2) h.2)] at this
      have HA : Hid (r = true → ∀ j, j < k + 1 → li (ls.getD j []) x = true) := fun h j h1 => by
        rcases Nat.lt_succ_iff_lt_or_eq.1 h1 with h3 | h3
        · exact HT.out j h3
        · subst h3; rw [← hr.out]; exact h
      generalize strOfNums (ls.getD k []) = M at *
      generalize strOfNums x = E at *
      clear hi hkl hr hs fin
      cases r with
      | true =>
        clear he
        go_wp2
        go_quiet (fail)
        go_wp2
        go_roundg (n - (k + 1))
        case measure => omega
        case rel => exact ⟨k + 1, q + nq, by go_num, by omega, Nat.le_refl _, rfl, HA.out trivial⟩
      | false =>
        cases s with
        | true =>
          go_wp2
          go_quiet (fail)
          go_wp2
          go_quiet (fail)
          go_wp2
          go_ret
          have hR := HN.out trivial trivial
          rw [hR]
          exact ⟨_, _, _, rfl, HI.out.1.1.below (below_d _ _ _ _), below_d _ _ _ _⟩
        | false =>
          have HR : Hid (ins li x ls = ls.take k ++ x :: ls.drop k) := HM.out rfl rfl
          clear HN HM HA
          go_wp2
          go_quiet (fail)
          go_wp2
          go_quiet (fail)
          have HG : Hid (g1 < w.heap.size) := hgs
          go_wp2_with (first
            | (at_builtin; refine wpList_append_any _ rfl (.tmp 38) (.tmp 41) 26 rfl w.heap.size 41 i0 (.slice none 0 0) 1 24 Try.underlying26 hi0 hz0 hz1 hz2 rfl (by decide) (.slice none 0 0) 0 [] rfl (World.ownsRow_nil _ _ _ _) (some ⟨g1, o1, none⟩) k c (vs.take k) rfl (by have h1 := HF.out.2.1; have h2 : (vs.take k).length = min k vs.length := List.length_take; omega) (fun h => by cases h) (fun ad e j u hu => by cases e; rw [Addr.add_lit]; exact HF.out.2.2.1 _ _ rfl j u (take_get hu)) ((HF.out.1.take k).one') (by unfold maxLen; omega) (by omega) (Nat.le_refl _) ?_
               intro v1 w1 ho1 hg1
               have H1 : Hid (w1.ownsRow w.heap.size 41 1 v1 k (vs.take k) ∧ Below w.heap.size w w1) := ⟨by simpa using ho1, grown41 (below_dr w _) (Nat.le_refl _) (World.ownsRow_nil _ _ _ _) hg1⟩
               clear ho1 hg1)
            | (at_builtin; refine wpList_append_any _ rfl (.tmp 43) (.tmp 45) 26 rfl w.heap.size 41 i0 (.slice none 0 0) 1 24 Try.underlying26 hi0 hz0 hz1 hz2 rfl (by decide) v1 k _ rfl (H1.out.1.alloc _) (some ⟨w1.heap.size, 0, none⟩) 1 1 [.slice ax nx cx] rfl rfl (fun h => by cases h) (fun ad e j u hu => by cases e; exact I.at_one (by simp) j u hu) (by intro u hu; simp at hu; subst hu; rfl) (by unfold maxLen; omega) (by omega) (al0 H1.out.2 _).size ?_
               intro v2 w2 ho2 hg2
               have H2 : Hid (w2.ownsRow w.heap.size 41 1 v2 (k + 1) (vs.take k ++ [.slice ax nx cx]) ∧ Below w.heap.size w w2) := ⟨by simpa using ho2, grown41 (al0 H1.out.2 _) (al0 H1.out.2 _).size (H1.out.1.alloc _) hg2⟩
               clear ho2 hg2)
            | (at_builtin; refine wpList_append_any _ rfl (.tmp 47) (.tmp 50) 26 rfl w.heap.size 41 i0 (.slice none 0 0) 1 24 Try.underlying26 hi0 hz0 hz1 hz2 rfl (by decide) v2 (k + 1) _ rfl H2.out.1 (some ⟨g1, o1 + k, none⟩) (n - k) (c - k) (vs.drop k) rfl (by have h1 := HF.out.2.1; have h2 : (vs.drop k).length = vs.length - k := List.length_drop; omega) (fun h => by cases h) (fun ad e j u hu => by cases e; rw [Addr.add_lit, Nat.add_assoc]; exact (H2.out.2.cell (p := ⟨g1, o1 + (k + j), none⟩) HG.out).trans (HF.out.2.2.1 _ _ rfl (k + j) u (drop_get hu))) ((HF.out.1.drop k).one') (by unfold maxLen; omega) (by omega) H2.out.2.size ?_
               intro v3 w3 ho3 hg3
               have H3 : Hid (w3.ownsRow w.heap.size 41 1 v3 _ (vs.take k ++ [.slice ax nx cx] ++ vs.drop k) ∧ Below w.heap.size w w3) := ⟨ho3, grown41 H2.out.2 H2.out.2.size H2.out.1 hg3⟩
               clear ho3 hg3))
          all_goals (go_ret; rw [HR.out]; exact own_newO H3.out.1 ((HW.out k).below H3.out.2) H3.out.2)
    · have e : k = n := by omega
      subst e
      have HR : Hid (ins li x ls = ls.take k ++ x :: ls.drop k) := by have := fin (.inl rfl); rwa [if_neg (fun h => hlt h.1)] at this
      have hlt' : decide ((k : Int) < (k : Int)) = false := by simp
      have hlt2 : ¬ (k : Int) < (k : Int) := by omega
      clear fin
      have hd0 : Hid (vs.drop k = []) := List.drop_eq_nil_of_le (by rw [HF.out.2.1]; omega)
      by_cases hk1 : 0 < k
      · obtain ⟨g1, o1, ai, ni, ci, rfl, hgs, _, _⟩ := HI.out.1.1.rd.at (k := 0) (by rw [HL.out]; exact hk1)
        have p1 : (0 : Int) < (k : Int) := by omega
        have p2 : (k : Int) ≤ (c : Int) := by omega
        go_wp2
        go_quiet (fail)
        go_wp2
        go_quiet (fail)
        go_wp2_with (first
          | (at_builtin; refine wpList_append_any _ rfl (.tmp 38) (.tmp 41) 26 rfl w.heap.size 41 i0 (.slice none 0 0) 1 24 Try.underlying26 hi0 hz0 hz1 hz2 rfl (by decide) (.slice none 0 0) 0 [] rfl (World.ownsRow_nil _ _ _ _) (some ⟨g1, o1, none⟩) k c (vs.take k) rfl (by have h1 := HF.out.2.1; have h2 : (vs.take k).length = min k vs.length := List.length_take; omega) (fun h => by cases h) (fun ad e j u hu => by cases e; rw [Addr.add_lit]; exact HF.out.2.2.1 _ _ rfl j u (take_get hu)) ((HF.out.1.take k).one') (by unfold maxLen; omega) (by omega) (Nat.le_refl _) ?_
             intro v1 w1 ho1 hg1
             have H1 : Hid (w1.ownsRow w.heap.size 41 1 v1 k (vs.take k) ∧ Below w.heap.size w w1) := ⟨by simpa using ho1, grown41 (below_dr w _) (Nat.le_refl _) (World.ownsRow_nil _ _ _ _) hg1⟩
             clear ho1 hg1)
          | (at_builtin; refine wpList_append_any _ rfl (.tmp 43) (.tmp 45) 26 rfl w.heap.size 41 i0 (.slice none 0 0) 1 24 Try.underlying26 hi0 hz0 hz1 hz2 rfl (by decide) v1 k _ rfl (H1.out.1.alloc _) (some ⟨w1.heap.size, 0, none⟩) 1 1 [.slice ax nx cx] rfl rfl (fun h => by cases h) (fun ad e j u hu => by cases e; exact I.at_one (by simp) j u hu) (by intro u hu; simp at hu; subst hu; rfl) (by unfold maxLen; omega) (by omega) (al0 H1.out.2 _).size ?_
             intro v2 w2 ho2 hg2
             have H2 : Hid (w2.ownsRow w.heap.size 41 1 v2 (k + 1) (vs.take k ++ [.slice ax nx cx]) ∧ Below w.heap.size w w2) := ⟨by simpa using ho2, grown41 (al0 H1.out.2 _) (al0 H1.out.2 _).size (H1.out.1.alloc _) hg2⟩
             clear ho2 hg2)
          | (at_builtin; refine wpList_append_any _ rfl (.tmp 47) (.tmp 50) 26 rfl w.heap.size 41 i0 (.slice none 0 0) 1 24 Try.underlying26 hi0 hz0 hz1 hz2 rfl (by decide) v2 (k + 1) _ rfl H2.out.1 _ _ _ (vs.drop k) rfl (by have h1 := HF.out.2.1; have h2 : (vs.drop k).length = vs.length - k := List.length_drop; omega) (by intro h; split at h <;> cases h) (fun ad e j u hu => by rw [hd0.out] at hu; simp at hu) ((HF.out.1.drop k).one') (by unfold maxLen; omega) (by omega) H2.out.2.size ?_
             intro v3 w3 ho3 hg3
             have H3 : Hid (w3.ownsRow w.heap.size 41 1 v3 _ (vs.take k ++ [.slice ax nx cx] ++ vs.drop k) ∧ Below w.heap.size w w3) := ⟨ho3, grown41 H2.out.2 H2.out.2.size H2.out.1 hg3⟩
             clear ho3 hg3))
        all_goals (go_ret; rw [HR.out]; exact own_newO H3.out.1 ((HW.out k).below H3.out.2) H3.out.2)
      · have hk2 : k = 0 := by omega
        obtain rfl : a = none := hz hk2
        have hc0 : c = 0 := HI.out.1.1.nil rfl
        subst hk2
        subst hc0
        go_wp2
        go_quiet (fail)
        go_wp2
        go_quiet (fail)
        go_wp2_with (first
          | (at_builtin; refine wpList_append_any _ rfl (.tmp 38) (.tmp 41) 26 rfl w.heap.size 41 i0 (.slice none 0 0) 1 24 Try.underlying26 hi0 hz0 hz1 hz2 rfl (by decide) (.slice none 0 0) 0 [] rfl (World.ownsRow_nil _ _ _ _) none 0 0 (vs.take 0) rfl (by have h1 := HF.out.2.1; have h2 : (vs.take 0).length = min 0 vs.length := List.length_take; omega) (fun _ => ⟨rfl, rfl⟩) (fun ad e => by cases e) ((HF.out.1.take 0).one') (by unfold maxLen; omega) (by omega) (Nat.le_refl _) ?_
             intro v1 w1 ho1 hg1
             have H1 : Hid (w1.ownsRow w.heap.size 41 1 v1 0 (vs.take 0) ∧ Below w.heap.size w w1) := ⟨by simpa using ho1, grown41 (below_dr w _) (Nat.le_refl _) (World.ownsRow_nil _ _ _ _) hg1⟩
             clear ho1 hg1)
          | (at_builtin; refine wpList_append_any _ rfl (.tmp 43) (.tmp 45) 26 rfl w.heap.size 41 i0 (.slice none 0 0) 1 24 Try.underlying26 hi0 hz0 hz1 hz2 rfl (by decide) v1 0 _ rfl (H1.out.1.alloc _) (some ⟨w1.heap.size, 0, none⟩) 1 1 [.slice ax nx cx] rfl rfl (fun h => by cases h) (fun ad e j u hu => by cases e; exact I.at_one (by simp) j u hu) (by intro u hu; simp at hu; subst hu; rfl) (by unfold maxLen; omega) (by omega) (al0 H1.out.2 _).size ?_
             intro v2 w2 ho2 hg2
             have H2 : Hid (w2.ownsRow w.heap.size 41 1 v2 (0 + 1) (vs.take 0 ++ [.slice ax nx cx]) ∧ Below w.heap.size w w2) := ⟨by simpa using ho2, grown41 (al0 H1.out.2 _) (al0 H1.out.2 _).size (H1.out.1.alloc _) hg2⟩
             clear ho2 hg2)
          | (at_builtin; refine wpList_append_any _ rfl (.tmp 47) (.tmp 50) 26 rfl w.heap.size 41 i0 (.slice none 0 0) 1 24 Try.underlying26 hi0 hz0 hz1 hz2 rfl (by decide) v2 (0 + 1) _ rfl H2.out.1 none 0 0 (vs.drop 0) rfl (by have h1 := HF.out.2.1; have h2 : (vs.drop 0).length = vs.length - 0 := List.length_drop; omega) (fun _ => ⟨rfl, rfl⟩) (fun ad e => by cases e) ((HF.out.1.drop 0).one') (by unfold maxLen; omega) (by omega) H2.out.2.size ?_
             intro v3 w3 ho3 hg3
             have H3 : Hid (w3.ownsRow w.heap.size 41 1 v3 _ (vs.take 0 ++ [.slice ax nx cx] ++ vs.drop 0) ∧ Below w.heap.size w w3) := ⟨ho3, grown41 H2.out.2 H2.out.2.size H2.out.1 hg3⟩
             clear ho3 hg3))
        all_goals (go_ret; rw [HR.out]; exact own_newO H3.out.1 ((HW.out 0).below H3.out.2) H3.out.2)
end Go.Proofs.Ytkojbpifcflgfaa
