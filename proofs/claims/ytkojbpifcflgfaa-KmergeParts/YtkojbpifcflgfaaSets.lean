/- The law KmergeSets: what two rows have in common, and what one has alone, are that one; what all have is in each. Conditions: none beyond the statement's own. -/
import Derived.Test.YtkojbpifcflgfaaSr
namespace Go.Proofs.Ytkojbpifcflgfaa
open Go.ChangeShapes Go.WideShapes Go.ChangeAt Go.RowKit Go.Lib

theorem rows2 (W : World) {a b : Option Addr} {n c m d : Nat} {xs ys : List Int} (h1 : IsI .i64 W a n c xs) (h2 : IsI .i64 W b m d ys) : I.IsSS (kI (W.alloc (.cells #[.slice a n c, .slice b m d] 30))) (W.alloc (.cells #[.slice a n c, .slice b m d] 30)) (some ⟨W.heap.size, 0, none⟩) 2 2 [xs, ys] := by
  have hb : Below W.heap.size W (W.alloc (.cells #[.slice a n c, .slice b m d] 30)) := (Below.refl _ _).alloc (Nat.le_refl _) _
  exact isSS_two (isS_of_isI (h1.below hb)) (isS_of_isI (h2.below hb)) (World.alloc_heap_new W _)
theorem len2 {xs ys : List Int} (hx : xs.length ≤ 10000) (hy : ys.length ≤ 10000) : I.tot [xs, ys] ≤ 1000000 ∧ ∀ i, (([xs, ys] : List (List Int)).getD i []).length ≤ 1000000 := ⟨by simp [I.tot]; omega, fun i => by match i with | 0 => (simp; omega) | 1 => (simp; omega) | k + 2 => simp⟩
/-- Rows handed back: new, or as they were. -/
def NewI (w : World) (ys : List Int) (e : Ending) (w' : World) : Prop := ∃ a n c, e = .returned (.slice a n c) ∧ IsI .i64 w' a n c ys ∧ Below w.heap.size w w'
theorem newI_of {w w0 : World} {ys : List Int} (hb : Below w0.heap.size w0 w) {e : Ending} {w' : World} (h : NewR w ys e w') : NewI w0 ys e w' := by
  obtain ⟨v, rfl, ho, h2⟩ := h
  obtain ⟨a, c, rfl, hi⟩ := isI_of_own ho
  exact ⟨a, _, c, rfl, hi, hb.trans (h2.mono hb.size)⟩
theorem al1 (W : World) (o : Obj) : Below W.heap.size W (W.alloc o) := (Below.refl _ _).alloc (Nat.le_refl _) _
theorem ints2 (W : World) {a b : Option Addr} {n c m d : Nat} {xs ys : List Int} (h1 : IsI .i64 W a n c xs) (h2 : IsI .i64 W b m d ys) (hn : n ≤ 10000) (hm : m ≤ 10000) : Calls Try.prog 16 #[.slice (some ⟨W.heap.size, 0, none⟩) 2 2] (W.alloc (.cells #[.slice a n c, .slice b m d] 30)) (NewI W (inss ltI (xs ++ ys))) := by
  have hl := len2 (xs := xs) (ys := ys) (by rw [h1.hl]; exact hn) (by rw [h2.hl]; exact hm)
  have h := ints_any _ 2 2 [xs, ys] _ (rows2 W h1 h2) (by omega) hl.1 hl.2
  simp only [List.flatten_cons, List.flatten_nil, List.append_nil] at h
  exact Calls.mono h (fun _ _ h => newI_of (al1 W _) h)
theorem meet2 (W : World) {a b : Option Addr} {n c m d : Nat} {xs ys : List Int} (h1 : IsI .i64 W a n c xs) (h2 : IsI .i64 W b m d ys) (hn : n ≤ 10000) (hm : m ≤ 10000) : Calls Try.prog 18 #[.slice (some ⟨W.heap.size, 0, none⟩) 2 2] (W.alloc (.cells #[.slice a n c, .slice b m d] 30)) (NewI W (hads 2 [xs, ys])) := by
  have hl := len2 (xs := xs) (ys := ys) (by rw [h1.hl]; exact hn) (by rw [h2.hl]; exact hm)
  exact Calls.mono (meet_any _ 2 2 [xs, ys] _ (rows2 W h1 h2) (by omega) hl.1 hl.2) (fun _ _ h => newI_of (al1 W _) h)
theorem less2 (W : World) {a b : Option Addr} {n c m d : Nat} {xs ys : List Int} (h1 : IsI .i64 W a n c xs) (h2 : IsI .i64 W b m d ys) (hn : n ≤ 10000) (hm : m ≤ 10000) : Calls Try.prog 20 #[.slice a n c, .slice b m d] W (NewI W (lss xs ys)) :=
  Calls.mono (less_any a b n c m d xs ys W (isS_of_isI h1) (isS_of_isI h2) hn hm) (fun _ _ h => newI_of (Below.refl _ _) h)
theorem ints1 (W : World) {a : Option Addr} {n c : Nat} {xs : List Int} (h1 : IsI .i64 W a n c xs) (hn : n ≤ 10000) : Calls Try.prog 16 #[.slice (some ⟨W.heap.size, 0, none⟩) 1 1] (W.alloc (.cells #[.slice a n c] 30)) (NewI W (inss ltI xs)) := by
  have hl := h1.hl
  have hS : I.IsSS (kI (W.alloc (.cells #[.slice a n c] 30))) (W.alloc (.cells #[.slice a n c] 30)) (some ⟨W.heap.size, 0, none⟩) 1 1 [xs] := ⟨rfl, Nat.le_refl _, fun i hi => by
    obtain rfl : i = 0 := by omega
    exact ⟨_, 0, a, n, c, rfl, by rw [I.cell_of (World.alloc_heap_new W _)]; rfl, isS_of_isI (h1.below (al1 W _))⟩⟩
  have h := ints_any _ 1 1 [xs] _ hS (by omega) (by simp [I.tot]; omega) (fun i => by match i with | 0 => (simp; omega) | k + 1 => simp)
  simp only [List.flatten_cons, List.flatten_nil, List.append_nil] at h
  exact Calls.mono h (fun _ _ h => newI_of (al1 W _) h)
theorem meet3 (W : World) {a b g : Option Addr} {n c m d k e : Nat} {xs ys zs : List Int} (h1 : IsI .i64 W a n c xs) (h2 : IsI .i64 W b m d ys) (h3 : IsI .i64 W g k e zs) (hn : n ≤ 10000) (hm : m ≤ 10000) (hk : k ≤ 10000) : Calls Try.prog 18 #[.slice (some ⟨W.heap.size, 0, none⟩) 3 3] (W.alloc (.cells #[.slice a n c, .slice b m d, .slice g k e] 30)) (NewI W (hads 3 [xs, ys, zs])) := by
  have l1 := h1.hl
  have l2 := h2.hl
  have l3 := h3.hl
  have hb := al1 W (.cells #[.slice a n c, .slice b m d, .slice g k e] 30)
  have hS : I.IsSS (kI (W.alloc (.cells #[.slice a n c, .slice b m d, .slice g k e] 30))) (W.alloc (.cells #[.slice a n c, .slice b m d, .slice g k e] 30)) (some ⟨W.heap.size, 0, none⟩) 3 3 [xs, ys, zs] := ⟨rfl, Nat.le_refl _, fun i hi => by
    match i, hi with
    | 0, _ => exact ⟨_, 0, a, n, c, rfl, by rw [I.cell_of (World.alloc_heap_new W _)]; rfl, isS_of_isI (h1.below hb)⟩
    | 1, _ => exact ⟨_, 0, b, m, d, rfl, by rw [I.cell_of (World.alloc_heap_new W _)]; rfl, isS_of_isI (h2.below hb)⟩
    | 2, _ => exact ⟨_, 0, g, k, e, rfl, by rw [I.cell_of (World.alloc_heap_new W _)]; rfl, isS_of_isI (h3.below hb)⟩⟩
  exact Calls.mono (meet_any _ 3 3 [xs, ys, zs] _ hS (by omega) (by simp [I.tot]; omega) (fun i => by match i with | 0 => (simp; omega) | 1 => (simp; omega) | 2 => (simp; omega) | k + 3 => simp)) (fun _ _ h => newI_of hb h)
theorem meet0 (W : World) : Calls Try.prog 18 #[.slice none 0 0] W (NewI W []) := by
  have hS : I.IsSS (kI W) W none 0 0 [] := ⟨rfl, Nat.le_refl _, fun i hi => by omega⟩
  exact Calls.mono (meet_any none 0 0 [] W hS (by omega) (by simp [I.tot]) (fun i => by simp)) (fun _ _ h => newI_of (Below.refl _ _) h)
theorem hads_le (n : Nat) (rows : List (List Int)) {k : Nat} (h : rows.flatten.length ≤ k) : (hads n rows).length ≤ k := Nat.le_trans (hads_len n rows) h
theorem inss_le (xs : List Int) : (inss ltI xs).length ≤ xs.length := by
  have h : (inss ltI xs).length ≤ xs.length + 0 := inss_len ltI xs []
  exact h

set_option maxRecDepth 100000 in
set_option maxHeartbeats 8000000 in
theorem kmergeSets_walk {w0 : World} (a0 : Option Addr) (n0 c0 : Nat) (xs : List Int) (h0 : IsI .i64 w0 a0 n0 c0 xs) (a1 : Option Addr) (n1 c1 : Nat) (ys : List Int) (h1 : IsI .i64 w0 a1 n1 c1 ys) (a2 : Option Addr) (n2 c2 : Nat) (zs : List Int) (h2 : IsI .i64 w0 a2 n2 c2 zs) {w : World} (hw : w = w0) :
    Calls Try.prog 6 #[.slice a0 n0 c0, .slice a1 n1 c1, .slice a2 n2 c2] w fun e w' => e = .returned (.bool true) ∧ Below w.heap.size w w' := by
  subst hw
  have l0 := h0.hl
  have l1 := h1.hl
  have l2 := h2.hl
  have H : Hid (∀ U, Below w.heap.size w U → IsI .i64 U a0 n0 c0 xs ∧ IsI .i64 U a1 n1 c1 ys ∧ IsI .i64 U a2 n2 c2 zs) := fun U hU => ⟨h0.below hU, h1.below hU, h2.below hU⟩
  have HL : Hid (xs.length = n0 ∧ ys.length = n1 ∧ zs.length = n2) := ⟨l0, l1, l2⟩
  have HA : Hid _ := awake_any w
  clear h0 h1 h2 l0 l1 l2
  go_enter Try.func6, Try.ntmps6
  go_wp2_with fail
  refine Calls.mono HA.out ?_
  rintro e w1 ⟨rfl, hb1⟩
  have B1 : Hid (Below w.heap.size w w1) := hb1
  clear hb1 HA
  by_cases g0 : 100 < n0
  · have g0' : (100 : Int) < (n0 : Int) := by omega
    go_wp2
    go_ret
    exact ⟨rfl, B1.out⟩
  · have g0' : ¬ (100 : Int) < (n0 : Int) := by omega
    by_cases g1 : 100 < n1
    · have g1' : (100 : Int) < (n1 : Int) := by omega
      go_wp2
      go_ret
      exact ⟨rfl, B1.out⟩
    · have g1' : ¬ (100 : Int) < (n1 : Int) := by omega
      by_cases g2 : 100 < n2
      · have g2' : (100 : Int) < (n2 : Int) := by omega
        go_wp2
        go_ret
        exact ⟨rfl, B1.out⟩
      · have g2' : ¬ (100 : Int) < (n2 : Int) := by omega
        have HG : Hid (n0 ≤ 100 ∧ n1 ≤ 100 ∧ n2 ≤ 100) := ⟨by omega, by omega, by omega⟩
        have HB : Hid (IsI .i64 w1 a0 n0 c0 (xs) ∧ IsI .i64 w1 a1 n1 c1 (ys) ∧ IsI .i64 w1 a2 n2 c2 (zs)) := H.out w1 B1.out
        have K : Hid _ := ints1 w1 (HB.out.1) (by omega)
        go_wp2_with fail
        refine Calls.mono K.out ?_
        rintro e v1 ⟨ao, no, co, rfl, hi, hb⟩
        have No : no ≤ 100 := by rw [← hi.hl]; exact Nat.le_trans (inss_le _) (by have := HL.out; have := HG.out; omega)
        have HB' : Hid (IsI .i64 v1 a0 n0 c0 (xs) ∧ IsI .i64 v1 a1 n1 c1 (ys) ∧ IsI .i64 v1 a2 n2 c2 (zs) ∧ IsI .i64 v1 ao no co (inss ltI xs)) := ⟨(HB.out.1).below hb, (HB.out.2.1).below hb, (HB.out.2.2).below hb, hi⟩
        have B1' : Hid (Below w.heap.size w v1) := B1.out.trans (hb.mono B1.out.size)
        clear hi hb K HB B1
        have HB : Hid _ := HB'
        have B1 : Hid _ := B1'
        clear HB' B1'
        have K : Hid _ := meet2 v1 (HB.out.1) (HB.out.2.1) (by omega) (by omega)
        go_wp2_with fail
        refine Calls.mono K.out ?_
        rintro e v2 ⟨am, nm, cm, rfl, hi, hb⟩
        have Nm : nm ≤ 200 := by rw [← hi.hl]; exact hads_le _ _ (by have := HL.out; have := HG.out; simp; omega)
        have HB' : Hid (IsI .i64 v2 a0 n0 c0 (xs) ∧ IsI .i64 v2 a1 n1 c1 (ys) ∧ IsI .i64 v2 a2 n2 c2 (zs) ∧ IsI .i64 v2 ao no co (inss ltI xs) ∧ IsI .i64 v2 am nm cm (hads 2 [xs, ys])) := ⟨(HB.out.1).below hb, (HB.out.2.1).below hb, (HB.out.2.2.1).below hb, (HB.out.2.2.2).below hb, hi⟩
        have B1' : Hid (Below w.heap.size w v2) := B1.out.trans (hb.mono B1.out.size)
        clear hi hb K HB B1
        have HB : Hid _ := HB'
        have B1 : Hid _ := B1'
        clear HB' B1'
        have K : Hid _ := less2 v2 (HB.out.1) (HB.out.2.1) (by omega) (by omega)
        go_wp2_with fail
        refine Calls.mono K.out ?_
        rintro e v3 ⟨al, nl, cl, rfl, hi, hb⟩
        have Nl : nl ≤ 300 := by rw [← hi.hl]; exact hads_le _ _ (by have := HL.out; have := HG.out; have := hads_le 2 [xs, ys] (k := 200) (by simp; omega); simp; omega)
        have HB' : Hid (IsI .i64 v3 a0 n0 c0 (xs) ∧ IsI .i64 v3 a1 n1 c1 (ys) ∧ IsI .i64 v3 a2 n2 c2 (zs) ∧ IsI .i64 v3 ao no co (inss ltI xs) ∧ IsI .i64 v3 am nm cm (hads 2 [xs, ys]) ∧ IsI .i64 v3 al nl cl (lss xs ys)) := ⟨(HB.out.1).below hb, (HB.out.2.1).below hb, (HB.out.2.2.1).below hb, (HB.out.2.2.2.1).below hb, (HB.out.2.2.2.2).below hb, hi⟩
        have B1' : Hid (Below w.heap.size w v3) := B1.out.trans (hb.mono B1.out.size)
        clear hi hb K HB B1
        have HB : Hid _ := HB'
        have B1 : Hid _ := B1'
        clear HB' B1'
        have K : Hid _ := meet3 v3 (HB.out.1) (HB.out.2.1) (HB.out.2.2.1) (by omega) (by omega) (by omega)
        go_wp2_with fail
        refine Calls.mono K.out ?_
        rintro e v4 ⟨aw, nw, cw, rfl, hi, hb⟩
        have Nw : nw ≤ 300 := by rw [← hi.hl]; exact hads_le _ _ (by have := HL.out; have := HG.out; simp; omega)
        have HB' : Hid (IsI .i64 v4 a0 n0 c0 (xs) ∧ IsI .i64 v4 a1 n1 c1 (ys) ∧ IsI .i64 v4 a2 n2 c2 (zs) ∧ IsI .i64 v4 ao no co (inss ltI xs) ∧ IsI .i64 v4 am nm cm (hads 2 [xs, ys]) ∧ IsI .i64 v4 al nl cl (lss xs ys) ∧ IsI .i64 v4 aw nw cw (hads 3 [xs, ys, zs])) := ⟨(HB.out.1).below hb, (HB.out.2.1).below hb, (HB.out.2.2.1).below hb, (HB.out.2.2.2.1).below hb, (HB.out.2.2.2.2.1).below hb, (HB.out.2.2.2.2.2).below hb, hi⟩
        have B1' : Hid (Below w.heap.size w v4) := B1.out.trans (hb.mono B1.out.size)
        clear hi hb K HB B1
        have HB : Hid _ := HB'
        have B1 : Hid _ := B1'
        clear HB' B1'
        have K : Hid _ := ints2 v4 (HB.out.2.2.2.2.1) (HB.out.2.2.2.2.2.1) (by omega) (by omega)
        go_wp2_with fail
        refine Calls.mono K.out ?_
        rintro e v5 ⟨ap, np, cp, rfl, hi, hb⟩
        have Np : np ≤ 500 := by rw [← hi.hl]; exact Nat.le_trans (inss_le _) (by have e1 := (HB.out.2.2.2.2.1).hl; have e2 := (HB.out.2.2.2.2.2.1).hl; rw [List.length_append]; omega)
        have HB' : Hid (IsI .i64 v5 a0 n0 c0 (xs) ∧ IsI .i64 v5 a1 n1 c1 (ys) ∧ IsI .i64 v5 a2 n2 c2 (zs) ∧ IsI .i64 v5 ao no co (inss ltI xs) ∧ IsI .i64 v5 am nm cm (hads 2 [xs, ys]) ∧ IsI .i64 v5 al nl cl (lss xs ys) ∧ IsI .i64 v5 aw nw cw (hads 3 [xs, ys, zs]) ∧ IsI .i64 v5 ap np cp (inss ltI (hads 2 [xs, ys] ++ lss xs ys))) := ⟨(HB.out.1).below hb, (HB.out.2.1).below hb, (HB.out.2.2.1).below hb, (HB.out.2.2.2.1).below hb, (HB.out.2.2.2.2.1).below hb, (HB.out.2.2.2.2.2.1).below hb, (HB.out.2.2.2.2.2.2).below hb, hi⟩
        have B1' : Hid (Below w.heap.size w v5) := B1.out.trans (hb.mono B1.out.size)
        clear hi hb K HB B1
        have HB : Hid _ := HB'
        have B1 : Hid _ := B1'
        clear HB' B1'
        have K : Hid _ := sameI_any _ _ _ _ _ _ _ _ v5 (HB.out.2.2.2.2.2.2.2) (HB.out.2.2.2.1) (by omega) (by omega)
        go_wp2_with fail
        refine Calls.mono K.out ?_
        rintro e v6 ⟨he, qq, hq⟩
        rw [decide_eq_true (set1 xs ys)] at he
        subst he
        have hb : Below v5.heap.size v5 v6 := by rw [hq]; exact below_dr' _ _ qq
        have HB' : Hid (IsI .i64 v6 a0 n0 c0 (xs) ∧ IsI .i64 v6 a1 n1 c1 (ys) ∧ IsI .i64 v6 a2 n2 c2 (zs) ∧ IsI .i64 v6 ao no co (inss ltI xs) ∧ IsI .i64 v6 am nm cm (hads 2 [xs, ys]) ∧ IsI .i64 v6 al nl cl (lss xs ys) ∧ IsI .i64 v6 aw nw cw (hads 3 [xs, ys, zs]) ∧ IsI .i64 v6 ap np cp (inss ltI (hads 2 [xs, ys] ++ lss xs ys))) := ⟨(HB.out.1).below hb, (HB.out.2.1).below hb, (HB.out.2.2.1).below hb, (HB.out.2.2.2.1).below hb, (HB.out.2.2.2.2.1).below hb, (HB.out.2.2.2.2.2.1).below hb, (HB.out.2.2.2.2.2.2.1).below hb, (HB.out.2.2.2.2.2.2.2).below hb⟩
        have B1' : Hid (Below w.heap.size w v6) := B1.out.trans (hb.mono B1.out.size)
        clear hb hq qq K HB B1
        have HB : Hid _ := HB'
        have B1 : Hid _ := B1'
        clear HB' B1'
        have K : Hid _ := meet2 v6 (HB.out.2.2.2.2.1) (HB.out.2.2.2.2.2.1) (by omega) (by omega)
        go_wp2_with fail
        refine Calls.mono K.out ?_
        rintro e v7 ⟨aq, nq, cq, rfl, hi, hb⟩
        have Nq : nq ≤ 500 := by rw [← hi.hl]; rw [set2]; exact Nat.zero_le _
        have HB' : Hid (IsI .i64 v7 a0 n0 c0 (xs) ∧ IsI .i64 v7 a1 n1 c1 (ys) ∧ IsI .i64 v7 a2 n2 c2 (zs) ∧ IsI .i64 v7 ao no co (inss ltI xs) ∧ IsI .i64 v7 am nm cm (hads 2 [xs, ys]) ∧ IsI .i64 v7 al nl cl (lss xs ys) ∧ IsI .i64 v7 aw nw cw (hads 3 [xs, ys, zs]) ∧ IsI .i64 v7 ap np cp (inss ltI (hads 2 [xs, ys] ++ lss xs ys)) ∧ IsI .i64 v7 aq nq cq (hads 2 [hads 2 [xs, ys], lss xs ys])) := ⟨(HB.out.1).below hb, (HB.out.2.1).below hb, (HB.out.2.2.1).below hb, (HB.out.2.2.2.1).below hb, (HB.out.2.2.2.2.1).below hb, (HB.out.2.2.2.2.2.1).below hb, (HB.out.2.2.2.2.2.2.1).below hb, (HB.out.2.2.2.2.2.2.2).below hb, hi⟩
        have B1' : Hid (Below w.heap.size w v7) := B1.out.trans (hb.mono B1.out.size)
        clear hi hb K HB B1
        have HB : Hid _ := HB'
        have B1 : Hid _ := B1'
        clear HB' B1'
        have hz : nq = 0 := by
          have := (HB.out.2.2.2.2.2.2.2.2).hl
          rw [set2] at this
          exact this.symm
        subst hz
        have hsum : no = nm + nl := by
          have e1 := (HB.out.2.2.2.2.1).hl
          have e2 := (HB.out.2.2.2.2.2.1).hl
          have e3 := (HB.out.2.2.2.1).hl
          have := set3 xs ys
          omega
        subst hsum
        have K : Hid _ := less2 v7 (HB.out.2.2.2.2.2.2.1) (HB.out.2.2.1) (by omega) (by omega)
        go_wp2_with fail
        refine Calls.mono K.out ?_
        rintro e v8 ⟨ar, nr, cr, rfl, hi, hb⟩
        have Nr : nr ≤ 500 := by rw [← hi.hl]; rw [set4]; exact Nat.zero_le _
        have HB' : Hid (IsI .i64 v8 a0 n0 c0 (xs) ∧ IsI .i64 v8 a1 n1 c1 (ys) ∧ IsI .i64 v8 a2 n2 c2 (zs) ∧ IsI .i64 v8 ao (nm + nl) co (inss ltI xs) ∧ IsI .i64 v8 am nm cm (hads 2 [xs, ys]) ∧ IsI .i64 v8 al nl cl (lss xs ys) ∧ IsI .i64 v8 aw nw cw (hads 3 [xs, ys, zs]) ∧ IsI .i64 v8 ap np cp (inss ltI (hads 2 [xs, ys] ++ lss xs ys)) ∧ IsI .i64 v8 aq 0 cq (hads 2 [hads 2 [xs, ys], lss xs ys]) ∧ IsI .i64 v8 ar nr cr (lss (hads 3 [xs, ys, zs]) zs)) := ⟨(HB.out.1).below hb, (HB.out.2.1).below hb, (HB.out.2.2.1).below hb, (HB.out.2.2.2.1).below hb, (HB.out.2.2.2.2.1).below hb, (HB.out.2.2.2.2.2.1).below hb, (HB.out.2.2.2.2.2.2.1).below hb, (HB.out.2.2.2.2.2.2.2.1).below hb, (HB.out.2.2.2.2.2.2.2.2).below hb, hi⟩
        have B1' : Hid (Below w.heap.size w v8) := B1.out.trans (hb.mono B1.out.size)
        clear hi hb K HB B1
        have HB : Hid _ := HB'
        have B1 : Hid _ := B1'
        clear HB' B1'
        have hz : nr = 0 := by
          have := (HB.out.2.2.2.2.2.2.2.2.2).hl
          rw [set4] at this
          exact this.symm
        subst hz
        have K : Hid _ := meet2 v8 (HB.out.2.2.2.2.1) (HB.out.2.2.1) (by omega) (by omega)
        go_wp2_with fail
        refine Calls.mono K.out ?_
        rintro e v9 ⟨au, nu, cu, rfl, hi, hb⟩
        have Nu : nu ≤ 500 := by rw [← hi.hl]; rw [set5]; have e1 := (HB.out.2.2.2.2.2.2.1).hl; omega
        have HB' : Hid (IsI .i64 v9 a0 n0 c0 (xs) ∧ IsI .i64 v9 a1 n1 c1 (ys) ∧ IsI .i64 v9 a2 n2 c2 (zs) ∧ IsI .i64 v9 ao (nm + nl) co (inss ltI xs) ∧ IsI .i64 v9 am nm cm (hads 2 [xs, ys]) ∧ IsI .i64 v9 al nl cl (lss xs ys) ∧ IsI .i64 v9 aw nw cw (hads 3 [xs, ys, zs]) ∧ IsI .i64 v9 ap np cp (inss ltI (hads 2 [xs, ys] ++ lss xs ys)) ∧ IsI .i64 v9 aq 0 cq (hads 2 [hads 2 [xs, ys], lss xs ys]) ∧ IsI .i64 v9 ar 0 cr (lss (hads 3 [xs, ys, zs]) zs) ∧ IsI .i64 v9 au nu cu (hads 2 [hads 2 [xs, ys], zs])) := ⟨(HB.out.1).below hb, (HB.out.2.1).below hb, (HB.out.2.2.1).below hb, (HB.out.2.2.2.1).below hb, (HB.out.2.2.2.2.1).below hb, (HB.out.2.2.2.2.2.1).below hb, (HB.out.2.2.2.2.2.2.1).below hb, (HB.out.2.2.2.2.2.2.2.1).below hb, (HB.out.2.2.2.2.2.2.2.2.1).below hb, (HB.out.2.2.2.2.2.2.2.2.2).below hb, hi⟩
        have B1' : Hid (Below w.heap.size w v9) := B1.out.trans (hb.mono B1.out.size)
        clear hi hb K HB B1
        have HB : Hid _ := HB'
        have B1 : Hid _ := B1'
        clear HB' B1'
        have K : Hid _ := sameI_any _ _ _ _ _ _ _ _ v9 (HB.out.2.2.2.2.2.2.2.2.2.2) (HB.out.2.2.2.2.2.2.1) (by omega) (by omega)
        go_wp2_with fail
        refine Calls.mono K.out ?_
        rintro e v10 ⟨he, qq, hq⟩
        rw [decide_eq_true (set5 xs ys zs)] at he
        subst he
        have hb : Below v9.heap.size v9 v10 := by rw [hq]; exact below_dr' _ _ qq
        have HB' : Hid (IsI .i64 v10 a0 n0 c0 (xs) ∧ IsI .i64 v10 a1 n1 c1 (ys) ∧ IsI .i64 v10 a2 n2 c2 (zs) ∧ IsI .i64 v10 ao (nm + nl) co (inss ltI xs) ∧ IsI .i64 v10 am nm cm (hads 2 [xs, ys]) ∧ IsI .i64 v10 al nl cl (lss xs ys) ∧ IsI .i64 v10 aw nw cw (hads 3 [xs, ys, zs]) ∧ IsI .i64 v10 ap np cp (inss ltI (hads 2 [xs, ys] ++ lss xs ys)) ∧ IsI .i64 v10 aq 0 cq (hads 2 [hads 2 [xs, ys], lss xs ys]) ∧ IsI .i64 v10 ar 0 cr (lss (hads 3 [xs, ys, zs]) zs) ∧ IsI .i64 v10 au nu cu (hads 2 [hads 2 [xs, ys], zs])) := ⟨(HB.out.1).below hb, (HB.out.2.1).below hb, (HB.out.2.2.1).below hb, (HB.out.2.2.2.1).below hb, (HB.out.2.2.2.2.1).below hb, (HB.out.2.2.2.2.2.1).below hb, (HB.out.2.2.2.2.2.2.1).below hb, (HB.out.2.2.2.2.2.2.2.1).below hb, (HB.out.2.2.2.2.2.2.2.2.1).below hb, (HB.out.2.2.2.2.2.2.2.2.2.1).below hb, (HB.out.2.2.2.2.2.2.2.2.2.2).below hb⟩
        have B1' : Hid (Below w.heap.size w v10) := B1.out.trans (hb.mono B1.out.size)
        clear hb hq qq K HB B1
        have HB : Hid _ := HB'
        have B1 : Hid _ := B1'
        clear HB' B1'
        have K : Hid _ := meet2 v10 (HB.out.2.1) (HB.out.1) (by omega) (by omega)
        go_wp2_with fail
        refine Calls.mono K.out ?_
        rintro e v11 ⟨ay, ny, cy, rfl, hi, hb⟩
        have Ny : ny ≤ 500 := by rw [← hi.hl]; rw [set6]; have e1 := (HB.out.2.2.2.2.1).hl; omega
        have HB' : Hid (IsI .i64 v11 a0 n0 c0 (xs) ∧ IsI .i64 v11 a1 n1 c1 (ys) ∧ IsI .i64 v11 a2 n2 c2 (zs) ∧ IsI .i64 v11 ao (nm + nl) co (inss ltI xs) ∧ IsI .i64 v11 am nm cm (hads 2 [xs, ys]) ∧ IsI .i64 v11 al nl cl (lss xs ys) ∧ IsI .i64 v11 aw nw cw (hads 3 [xs, ys, zs]) ∧ IsI .i64 v11 ap np cp (inss ltI (hads 2 [xs, ys] ++ lss xs ys)) ∧ IsI .i64 v11 aq 0 cq (hads 2 [hads 2 [xs, ys], lss xs ys]) ∧ IsI .i64 v11 ar 0 cr (lss (hads 3 [xs, ys, zs]) zs) ∧ IsI .i64 v11 au nu cu (hads 2 [hads 2 [xs, ys], zs]) ∧ IsI .i64 v11 ay ny cy (hads 2 [ys, xs])) := ⟨(HB.out.1).below hb, (HB.out.2.1).below hb, (HB.out.2.2.1).below hb, (HB.out.2.2.2.1).below hb, (HB.out.2.2.2.2.1).below hb, (HB.out.2.2.2.2.2.1).below hb, (HB.out.2.2.2.2.2.2.1).below hb, (HB.out.2.2.2.2.2.2.2.1).below hb, (HB.out.2.2.2.2.2.2.2.2.1).below hb, (HB.out.2.2.2.2.2.2.2.2.2.1).below hb, (HB.out.2.2.2.2.2.2.2.2.2.2).below hb, hi⟩
        have B1' : Hid (Below w.heap.size w v11) := B1.out.trans (hb.mono B1.out.size)
        clear hi hb K HB B1
        have HB : Hid _ := HB'
        have B1 : Hid _ := B1'
        clear HB' B1'
        have K : Hid _ := sameI_any _ _ _ _ _ _ _ _ v11 (HB.out.2.2.2.2.2.2.2.2.2.2.2) (HB.out.2.2.2.2.1) (by omega) (by omega)
        go_wp2_with fail
        refine Calls.mono K.out ?_
        rintro e v12 ⟨he, qq, hq⟩
        rw [decide_eq_true (set6 xs ys)] at he
        subst he
        have hb : Below v11.heap.size v11 v12 := by rw [hq]; exact below_dr' _ _ qq
        have HB' : Hid (IsI .i64 v12 a0 n0 c0 (xs) ∧ IsI .i64 v12 a1 n1 c1 (ys) ∧ IsI .i64 v12 a2 n2 c2 (zs) ∧ IsI .i64 v12 ao (nm + nl) co (inss ltI xs) ∧ IsI .i64 v12 am nm cm (hads 2 [xs, ys]) ∧ IsI .i64 v12 al nl cl (lss xs ys) ∧ IsI .i64 v12 aw nw cw (hads 3 [xs, ys, zs]) ∧ IsI .i64 v12 ap np cp (inss ltI (hads 2 [xs, ys] ++ lss xs ys)) ∧ IsI .i64 v12 aq 0 cq (hads 2 [hads 2 [xs, ys], lss xs ys]) ∧ IsI .i64 v12 ar 0 cr (lss (hads 3 [xs, ys, zs]) zs) ∧ IsI .i64 v12 au nu cu (hads 2 [hads 2 [xs, ys], zs]) ∧ IsI .i64 v12 ay ny cy (hads 2 [ys, xs])) := ⟨(HB.out.1).below hb, (HB.out.2.1).below hb, (HB.out.2.2.1).below hb, (HB.out.2.2.2.1).below hb, (HB.out.2.2.2.2.1).below hb, (HB.out.2.2.2.2.2.1).below hb, (HB.out.2.2.2.2.2.2.1).below hb, (HB.out.2.2.2.2.2.2.2.1).below hb, (HB.out.2.2.2.2.2.2.2.2.1).below hb, (HB.out.2.2.2.2.2.2.2.2.2.1).below hb, (HB.out.2.2.2.2.2.2.2.2.2.2.1).below hb, (HB.out.2.2.2.2.2.2.2.2.2.2.2).below hb⟩
        have B1' : Hid (Below w.heap.size w v12) := B1.out.trans (hb.mono B1.out.size)
        clear hb hq qq K HB B1
        have HB : Hid _ := HB'
        have B1 : Hid _ := B1'
        clear HB' B1'
        have K : Hid _ := meet0 v12
        go_wp2_with fail
        refine Calls.mono K.out ?_
        rintro e v13 ⟨az, nz, cz, rfl, hi, hb⟩
        have Nz : nz ≤ 500 := by rw [← hi.hl]; exact Nat.zero_le _
        have HB' : Hid (IsI .i64 v13 a0 n0 c0 (xs) ∧ IsI .i64 v13 a1 n1 c1 (ys) ∧ IsI .i64 v13 a2 n2 c2 (zs) ∧ IsI .i64 v13 ao (nm + nl) co (inss ltI xs) ∧ IsI .i64 v13 am nm cm (hads 2 [xs, ys]) ∧ IsI .i64 v13 al nl cl (lss xs ys) ∧ IsI .i64 v13 aw nw cw (hads 3 [xs, ys, zs]) ∧ IsI .i64 v13 ap np cp (inss ltI (hads 2 [xs, ys] ++ lss xs ys)) ∧ IsI .i64 v13 aq 0 cq (hads 2 [hads 2 [xs, ys], lss xs ys]) ∧ IsI .i64 v13 ar 0 cr (lss (hads 3 [xs, ys, zs]) zs) ∧ IsI .i64 v13 au nu cu (hads 2 [hads 2 [xs, ys], zs]) ∧ IsI .i64 v13 ay ny cy (hads 2 [ys, xs]) ∧ IsI .i64 v13 az nz cz (([] : List Int))) := ⟨(HB.out.1).below hb, (HB.out.2.1).below hb, (HB.out.2.2.1).below hb, (HB.out.2.2.2.1).below hb, (HB.out.2.2.2.2.1).below hb, (HB.out.2.2.2.2.2.1).below hb, (HB.out.2.2.2.2.2.2.1).below hb, (HB.out.2.2.2.2.2.2.2.1).below hb, (HB.out.2.2.2.2.2.2.2.2.1).below hb, (HB.out.2.2.2.2.2.2.2.2.2.1).below hb, (HB.out.2.2.2.2.2.2.2.2.2.2.1).below hb, (HB.out.2.2.2.2.2.2.2.2.2.2.2).below hb, hi⟩
        have B1' : Hid (Below w.heap.size w v13) := B1.out.trans (hb.mono B1.out.size)
        clear hi hb K HB B1
        have HB : Hid _ := HB'
        have B1 : Hid _ := B1'
        clear HB' B1'
        have hz : nz = 0 := (HB.out.2.2.2.2.2.2.2.2.2.2.2.2).hl.symm
        subst hz
        go_wp2_with fail
        go_ret
        exact ⟨rfl, B1.out⟩
set_option maxRecDepth 100000 in
theorem kmergeSets_lifted (os : Os) (started : os.Started) (H : Type) (enc : TypeId × Value → H) :
    ReturnsInHanded {} Try.checked os 6 .any (Rows.kmergeSetsSpec.pre6 enc Try.prog Try.f6 Rows.kmergeSetsRow.domain false) (Rows.kmergeSetsSpec.post enc Try.prog Try.f6 false true false false) := by
  refine returnsInHanded_of_change (C := Try.checked) own started (by kernel_rfl) Try.func6
    (ChangeSpec.witness6 (enc := enc) (C := Try.checked) false ⟨#[], #[.slice none 0 0, .slice none 0 0, .slice none 0 0], []⟩ 8 (by kernel_rfl) (by kernel_rfl) (by kernel_rfl) (by kernel_rfl)) ?_
  intro W base args ds gs before hval0 hW hcnd _
  have hval : ∀ (j : Nat) t v, Try.f6.params[j]? = some t → args[j]? = some v → Value.okWide Try.prog W .any base t v := hval0
  have hW' := hW
  obtain ⟨p, q, hA0, hV, rfl, hfz, hnd⟩ := hW
  have hA : DataW.TrodAll enc Try.prog W 0 (fun _ => true) true Try.f6.params.toList args.toList ds p := hA0
  rw [Try.params6] at hA hval
  obtain ⟨v0, vs0, d0, ds0, p0, q0, hargs, rfl, rfl, h0, r0⟩ := trodAll_cons hA
  obtain ⟨v1, vs1, d1, ds1, p1, q1, rfl, rfl, rfl, h1, r1⟩ := trodAll_cons r0
  obtain ⟨v2, vs2, d2, ds2, p2, q2, rfl, rfl, rfl, h2, r2⟩ := trodAll_cons r1
  obtain ⟨rfl, rfl, rfl⟩ := trodAll_nil r2
  obtain rfl : args = #[v0, v1, v2] := by cases args; simp_all
  obtain ⟨rfl, rfl⟩ := trodVars_none hV
  obtain ⟨a0, len0, cap0, rfl⟩ := okWide_slice Try.underlying30 (hval 0 30 v0 rfl rfl)
  have k0 := h0
  have lt0 : ∀ x ∈ p0, x.block < W.heap.size := by obtain ⟨m, hm⟩ := k0; exact DataW.trod_lt m _ _ _ hm
  obtain ⟨vl0, w0⟩ : ∃ ms, IsI .i64 W a0 len0 cap0 ms := by obtain ⟨fuel, hf⟩ := h0; exact isN_of hf
  obtain ⟨a1, len1, cap1, rfl⟩ := okWide_slice Try.underlying30 (hval 1 30 v1 rfl rfl)
  have k1 := h1
  have lt1 : ∀ x ∈ p1, x.block < W.heap.size := by obtain ⟨m, hm⟩ := k1; exact DataW.trod_lt m _ _ _ hm
  obtain ⟨vl1, w1⟩ : ∃ ms, IsI .i64 W a1 len1 cap1 ms := by obtain ⟨fuel, hf⟩ := h1; exact isN_of hf
  obtain ⟨a2, len2, cap2, rfl⟩ := okWide_slice Try.underlying30 (hval 2 30 v2 rfl rfl)
  have k2 := h2
  have lt2 : ∀ x ∈ p2, x.block < W.heap.size := by obtain ⟨m, hm⟩ := k2; exact DataW.trod_lt m _ _ _ hm
  obtain ⟨vl2, w2⟩ : ∃ ms, IsI .i64 W a2 len2 cap2 ms := by obtain ⟨fuel, hf⟩ := h2; exact isN_of hf
  clear hA0 hval0
  refine (kmergeSets_walk a0 len0 cap0 vl0 w0 a1 len1 cap1 vl1 w1 a2 len2 cap2 vl2 w2 rfl).mono fun e W' ⟨he, hb⟩ => ?_
  subst he
  exact ⟨_, rfl, _, _, _, [], _, [], hW', trodAll_mk1 (shut_bool Try.underlying4 _), (trodAll_cons_mk (Below.trod laidOut (by kernel_rfl) (of_decide_eq_true (by kernel_rfl)) k0 hb lt0) (trodAll_cons_mk (Below.trod laidOut (by kernel_rfl) (of_decide_eq_true (by kernel_rfl)) k1 hb lt1) (trodAll_cons_mk (Below.trod laidOut (by kernel_rfl) (of_decide_eq_true (by kernel_rfl)) k2 hb lt2) trodAll_mk0))), rfl, hb.frame _, fun h => by cases h⟩

theorem kmergeSets_holds : Rows.KmergeSetsSaid :=
  OpenClaim.holds_of_wide 6 Try.f6 rfl rfl rfl rfl rfl rfl rfl ⟨rfl, rfl, rfl, rfl, rfl⟩ rfl rfl rfl rfl rfl (by kernel_rfl) Try.func6 (by kernel_rfl)
    (of_decide_eq_true (by kernel_rfl)) (by unfold Func.isWrapper; first | (rw [if_pos (by decide +kernel)]; kernel_rfl) | (rw [if_neg (by decide +kernel)]; exact ⟨rfl, rfl⟩))
    (fun os started H enc _ => kmergeSets_lifted os started H enc)
#print axioms kmergeSets_holds
end Go.Proofs.Ytkojbpifcflgfaa
