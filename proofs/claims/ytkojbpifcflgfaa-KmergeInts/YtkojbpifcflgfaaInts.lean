/- The law KmergeInts: Ints, Meet and Less are the document's. Conditions: none beyond the statement's own. -/
import Derived.Test.YtkojbpifcflgfaaDe
namespace Go.Proofs.Ytkojbpifcflgfaa
open Go.ChangeShapes Go.WideShapes Go.ChangeAt Go.RowKit Go.Lib

theorem isM_of {H : Type} {enc : TypeId × Value → H} {W : World} {base : Nat} {held : Bool} {a : Option Addr} {len cap fuel : Nat} {x : DataW H × List MemPlace}
    (h : DataW.trod enc Try.prog W base (fun _ => true) held fuel 29 [.slice a len cap] = some x) : ∃ rows, IsM W a len cap rows := by
  rcases Go.Deep.open_int_rows Try.underlying29 Try.underlying30 Try.underlying3 (by kernel_rfl) (by kernel_rfl) h with ⟨hcs, _⟩ | ⟨ad, l, c, A, L, C, Z, hcs, _, hl, hm, _, hr⟩
  · simp at hcs
    obtain ⟨rfl, rfl, rfl⟩ := hcs
    exact ⟨[], rfl, Nat.le_refl _, Nat.zero_le _, fun _ => rfl, fun i hi => by omega⟩
  · simp at hcs
    obtain ⟨rfl, rfl, rfl⟩ := hcs
    refine ⟨(List.range len).map (fun r => (Z r).take (L r)), by simp, hl, hm, (fun h => by cases h), fun i hi => ?_⟩
    obtain ⟨c1, r1, r2, r3, _, r5, r6⟩ := hr i (by omega)
    obtain ⟨b, off, spot⟩ := ad
    have cz := (hr 0 (by omega)).1
    have hspot : spot = none := by simpa [Addr.add] using World.cell?_spot cz
    subst hspot
    have hb : b < W.heap.size := by
      have := World.block_lt_of_cell? W _ cz
      simpa [Addr.add] using this
    rw [Addr.add_lit] at c1
    refine ⟨b, off, A i, L i, C i, rfl, hb, c1, ?_⟩
    rw [show ((List.range len).map (fun r => (Z r).take (L r))).getD i [] = (Z i).take (L i) by simp [List.getD, hi]]
    refine ⟨by rw [List.length_take, r3]; omega, r1, r2, ?_, r5⟩
    by_cases h0 : L i = 0
    · rw [h0]; exact .inl rfl
    · cases hA : A i with
      | none => have := r5 hA; omega
      | some a' =>
        have r7 := (r6 a' hA).2
        obtain ⟨b', off', spot'⟩ := a'
        have hc0 := r7 0 (by omega)
        have hspot : spot' = none := by simpa [Addr.add] using World.cell?_spot hc0
        subst hspot
        have hb' : b' < W.heap.size := by
          have := World.block_lt_of_cell? W _ hc0
          simpa [Addr.add] using this
        refine .inr ⟨b', off', rfl, hb', fun j hj => ?_⟩
        simp only [List.length_take] at hj
        have := r7 j (by omega)
        rw [Addr.add_lit] at this
        rw [this]
        congr 2
        simp [List.getD, show j < L i by omega]

theorem flat_le (m : Nat) : ∀ rows : List (List Int), (∀ i, i < rows.length → (rows.getD i []).length ≤ m) → rows.flatten.length ≤ rows.length * m
  | [], _ => by simp
  | r :: rows, h => by
    have h1 := flat_le m rows (fun i hi => by simpa using h (i + 1) (by simp; omega))
    have h2 : r.length ≤ m := by simpa using h 0 (by simp)
    rw [List.flatten_cons, List.length_append, List.length_cons, Nat.add_mul]
    omega
theorem tot_flat (rows : List (List Int)) : I.tot rows = rows.flatten.length := by simp [I.tot, List.length_flatten]

set_option maxRecDepth 100000 in
set_option maxHeartbeats 8000000 in
theorem kmergeInts_walk {w0 : World} (a0 : Option Addr) (n0 c0 : Nat) (rows : List (List Int)) (h0 : IsM w0 a0 n0 c0 rows) (a1 : Option Addr) (n1 c1 : Nat) (xs : List Int) (h1 : IsI .i64 w0 a1 n1 c1 xs) (a2 : Option Addr) (n2 c2 : Nat) (ys : List Int) (h2 : IsI .i64 w0 a2 n2 c2 ys) {w : World} (hw : w = w0) :
    Calls Try.prog 4 #[.slice a0 n0 c0, .slice a1 n1 c1, .slice a2 n2 c2] w fun e w' => e = .returned (.bool true) ∧ Below w.heap.size w w' := by
  subst hw
  have H : Hid (∀ U, Below w.heap.size w U → IsM U a0 n0 c0 rows ∧ IsI .i64 U a1 n1 c1 xs ∧ IsI .i64 U a2 n2 c2 ys) := fun U hU => ⟨h0.below hU, h1.below hU, h2.below hU⟩
  have HL : Hid (rows.length = n0 ∧ xs.length = n1 ∧ ys.length = n2) := ⟨h0.hl, h1.hl, h2.hl⟩
  have HA : Hid _ := awake_any w
  clear h0 h1 h2
  go_enter Try.func4, Try.ntmps4
  go_wp2_with fail
  refine Calls.mono HA.out ?_
  rintro e w1 ⟨rfl, hb1⟩
  have B1 : Hid (Below w.heap.size w w1) := hb1
  have K : Hid _ := short_any a0 n0 c0 rows w1 (H.out w1 hb1).1
  clear hb1 HA
  go_wp2_with fail
  refine Calls.mono K.out ?_
  rintro e w1 ⟨sh, rfl, rfl, hsh⟩
  have HSh : Hid _ := hsh
  clear K hsh
  cases sh with
  | false =>
    go_wp2
    go_ret
    exact ⟨rfl, B1.out⟩
  | true =>
    have hsm := HSh.out rfl
    have HR : Hid (n0 ≤ 10 ∧ (∀ i, i < n0 → (rows.getD i []).length ≤ 100) ∧ rows.flatten.length ≤ 1000 ∧ ∀ i, (rows.getD i []).length ≤ 100) := by
      refine ⟨hsm.1, hsm.2, ?_, fun i => ?_⟩
      · have := flat_le 100 rows (fun i hi => hsm.2 i (by rw [← HL.out.1]; exact hi))
        have := HL.out.1
        omega
      · by_cases hi : i < n0
        · exact hsm.2 i hi
        · rw [show rows.getD i [] = [] by simp [List.getD, List.getElem?_eq_none (show rows.length ≤ i by rw [HL.out.1]; omega)]]
          exact Nat.zero_le _
    clear hsm HSh
    by_cases g1 : 100 < n1
    · have g1' : (100 : Int) < (n1 : Int) := by omega
      go_wp2
      go_ret
      exact ⟨rfl, B1.out⟩
    · have g1' : ¬ (100 : Int) < (n1 : Int) := by omega
      by_cases g2 : 100 < n2
      · have g2' : (100 : Int) < (n2 : Int) := by omega
        go_wp2
        go_ret
        exact ⟨rfl, B1.out⟩
      · have g2' : ¬ (100 : Int) < (n2 : Int) := by omega
        have HG : Hid (n1 ≤ 100 ∧ n2 ≤ 100) := ⟨by omega, by omega⟩
        have HB : Hid (IsM w1 a0 n0 c0 rows ∧ IsI .i64 w1 a1 n1 c1 xs ∧ IsI .i64 w1 a2 n2 c2 ys) := H.out w1 B1.out
        have hn0 : n0 ≤ 10 := HR.out.1
        have K : Hid _ := Calls.mono (ints_any a0 n0 c0 rows w1 (IsM.isSS (HB.out.1)) (by omega) (by rw [tot_flat]; have := HR.out.2.2.1; omega) (fun i => Nat.le_trans (HR.out.2.2.2 i) (by omega))) (fun _ _ h => newI_of (Below.refl _ _) h)
        go_wp2_with fail
        refine Calls.mono K.out ?_
        rintro e v1 ⟨ao, no, co, rfl, hi, hb⟩
        have No : no ≤ 1000 := by rw [← hi.hl]; exact Nat.le_trans (inss_le _) (by have := HR.out.2.2.1; omega)
        have HB' : Hid (IsM v1 a0 n0 c0 rows ∧ IsI .i64 v1 a1 n1 c1 (xs) ∧ IsI .i64 v1 a2 n2 c2 (ys) ∧ IsI .i64 v1 ao no co (inss ltI rows.flatten)) := ⟨(HB.out.1).below hb, (HB.out.2.1).below hb, (HB.out.2.2).below hb, hi⟩
        have B1' : Hid (Below w.heap.size w v1) := B1.out.trans (hb.mono B1.out.size)
        clear hi hb K HB B1
        have HB : Hid _ := HB'
        have B1 : Hid _ := B1'
        clear HB' B1'
        have K : Hid _ := rints_any a0 n0 c0 rows v1 (HB.out.1) (by omega) (by have := HR.out.2.2.1; omega)
        go_wp2_with fail
        refine Calls.mono K.out ?_
        rintro e v2 ⟨ap, np, cp, rfl, hi, hb⟩
        have Np : np ≤ 1000 := by rw [← hi.hl]; exact Nat.le_trans (inss_le _) (by have := HR.out.2.2.1; omega)
        have HB' : Hid (IsM v2 a0 n0 c0 rows ∧ IsI .i64 v2 a1 n1 c1 (xs) ∧ IsI .i64 v2 a2 n2 c2 (ys) ∧ IsI .i64 v2 ao no co (inss ltI rows.flatten) ∧ IsI .i64 v2 ap np cp (inss ltI rows.flatten)) := ⟨(HB.out.1).below hb, (HB.out.2.1).below hb, (HB.out.2.2.1).below hb, (HB.out.2.2.2).below hb, hi⟩
        have B1' : Hid (Below w.heap.size w v2) := B1.out.trans (hb.mono B1.out.size)
        clear hi hb K HB B1
        have HB : Hid _ := HB'
        have B1 : Hid _ := B1'
        clear HB' B1'
        have K : Hid _ := sameI_any _ _ _ _ _ _ _ _ v2 (HB.out.2.2.2.1) (HB.out.2.2.2.2) (by omega) (by omega)
        go_wp2_with fail
        refine Calls.mono K.out ?_
        rintro e v3 ⟨he, qq, hq⟩
        have he2 : e = .returned (.bool true) := by rw [he]; simp
        clear he
        subst he2
        have hb : Below v2.heap.size v2 v3 := by rw [hq]; exact below_dr' _ _ qq
        have HB' : Hid (IsM v3 a0 n0 c0 rows ∧ IsI .i64 v3 a1 n1 c1 (xs) ∧ IsI .i64 v3 a2 n2 c2 (ys) ∧ IsI .i64 v3 ao no co (inss ltI rows.flatten) ∧ IsI .i64 v3 ap np cp (inss ltI rows.flatten)) := ⟨(HB.out.1).below hb, (HB.out.2.1).below hb, (HB.out.2.2.1).below hb, (HB.out.2.2.2.1).below hb, (HB.out.2.2.2.2).below hb⟩
        have B1' : Hid (Below w.heap.size w v3) := B1.out.trans (hb.mono B1.out.size)
        clear hb hq qq K HB B1
        have HB : Hid _ := HB'
        have B1 : Hid _ := B1'
        clear HB' B1'
        have K : Hid _ := Calls.mono (meet_any a0 n0 c0 rows v3 (IsM.isSS (HB.out.1)) (by omega) (by rw [tot_flat]; have := HR.out.2.2.1; omega) (fun i => Nat.le_trans (HR.out.2.2.2 i) (by omega))) (fun _ _ h => newI_of (Below.refl _ _) h)
        go_wp2_with fail
        refine Calls.mono K.out ?_
        rintro e v4 ⟨aq, nq, cq, rfl, hi, hb⟩
        have Nq : nq ≤ 1000 := by rw [← hi.hl]; exact hads_le _ _ (by have := HR.out.2.2.1; omega)
        have HB' : Hid (IsM v4 a0 n0 c0 rows ∧ IsI .i64 v4 a1 n1 c1 (xs) ∧ IsI .i64 v4 a2 n2 c2 (ys) ∧ IsI .i64 v4 ao no co (inss ltI rows.flatten) ∧ IsI .i64 v4 ap np cp (inss ltI rows.flatten) ∧ IsI .i64 v4 aq nq cq (hads n0 rows)) := ⟨(HB.out.1).below hb, (HB.out.2.1).below hb, (HB.out.2.2.1).below hb, (HB.out.2.2.2.1).below hb, (HB.out.2.2.2.2).below hb, hi⟩
        have B1' : Hid (Below w.heap.size w v4) := B1.out.trans (hb.mono B1.out.size)
        clear hi hb K HB B1
        have HB : Hid _ := HB'
        have B1 : Hid _ := B1'
        clear HB' B1'
        have K : Hid _ := rmeet_any a0 n0 c0 rows v4 (HB.out.1) (by omega) (by have := HR.out.2.2.1; omega) (fun i _ => Nat.le_trans (HR.out.2.2.2 i) (by omega))
        go_wp2_with fail
        refine Calls.mono K.out ?_
        rintro e v5 ⟨ar, nr, cr, rfl, hi, hb⟩
        have Nr : nr ≤ 1000 := by rw [← hi.hl]; rw [mts_hads]; exact hads_le _ _ (by have := HR.out.2.2.1; omega)
        have HB' : Hid (IsM v5 a0 n0 c0 rows ∧ IsI .i64 v5 a1 n1 c1 (xs) ∧ IsI .i64 v5 a2 n2 c2 (ys) ∧ IsI .i64 v5 ao no co (inss ltI rows.flatten) ∧ IsI .i64 v5 ap np cp (inss ltI rows.flatten) ∧ IsI .i64 v5 aq nq cq (hads n0 rows) ∧ IsI .i64 v5 ar nr cr (mts rows)) := ⟨(HB.out.1).below hb, (HB.out.2.1).below hb, (HB.out.2.2.1).below hb, (HB.out.2.2.2.1).below hb, (HB.out.2.2.2.2.1).below hb, (HB.out.2.2.2.2.2).below hb, hi⟩
        have B1' : Hid (Below w.heap.size w v5) := B1.out.trans (hb.mono B1.out.size)
        clear hi hb K HB B1
        have HB : Hid _ := HB'
        have B1 : Hid _ := B1'
        clear HB' B1'
        have K : Hid _ := sameI_any _ _ _ _ _ _ _ _ v5 (HB.out.2.2.2.2.2.1) (HB.out.2.2.2.2.2.2) (by omega) (by omega)
        go_wp2_with fail
        refine Calls.mono K.out ?_
        rintro e v6 ⟨he, qq, hq⟩
        rw [decide_eq_true (by rw [mts_hads, HL.out.1] : hads n0 rows = mts rows)] at he
        subst he
        have hb : Below v5.heap.size v5 v6 := by rw [hq]; exact below_dr' _ _ qq
        have HB' : Hid (IsM v6 a0 n0 c0 rows ∧ IsI .i64 v6 a1 n1 c1 (xs) ∧ IsI .i64 v6 a2 n2 c2 (ys) ∧ IsI .i64 v6 ao no co (inss ltI rows.flatten) ∧ IsI .i64 v6 ap np cp (inss ltI rows.flatten) ∧ IsI .i64 v6 aq nq cq (hads n0 rows) ∧ IsI .i64 v6 ar nr cr (mts rows)) := ⟨(HB.out.1).below hb, (HB.out.2.1).below hb, (HB.out.2.2.1).below hb, (HB.out.2.2.2.1).below hb, (HB.out.2.2.2.2.1).below hb, (HB.out.2.2.2.2.2.1).below hb, (HB.out.2.2.2.2.2.2).below hb⟩
        have B1' : Hid (Below w.heap.size w v6) := B1.out.trans (hb.mono B1.out.size)
        clear hb hq qq K HB B1
        have HB : Hid _ := HB'
        have B1 : Hid _ := B1'
        clear HB' B1'
        have K : Hid _ := less2 v6 (HB.out.2.1) (HB.out.2.2.1) (by omega) (by omega)
        go_wp2_with fail
        refine Calls.mono K.out ?_
        rintro e v7 ⟨au, nu, cu, rfl, hi, hb⟩
        have Nu : nu ≤ 1000 := by rw [← hi.hl]; rw [← rls_lss]; exact Nat.le_trans (inss_le _) (Nat.le_trans (List.length_filter_le _ _) (by have := HL.out; have := HG.out; omega))
        have HB' : Hid (IsM v7 a0 n0 c0 rows ∧ IsI .i64 v7 a1 n1 c1 (xs) ∧ IsI .i64 v7 a2 n2 c2 (ys) ∧ IsI .i64 v7 ao no co (inss ltI rows.flatten) ∧ IsI .i64 v7 ap np cp (inss ltI rows.flatten) ∧ IsI .i64 v7 aq nq cq (hads n0 rows) ∧ IsI .i64 v7 ar nr cr (mts rows) ∧ IsI .i64 v7 au nu cu (lss xs ys)) := ⟨(HB.out.1).below hb, (HB.out.2.1).below hb, (HB.out.2.2.1).below hb, (HB.out.2.2.2.1).below hb, (HB.out.2.2.2.2.1).below hb, (HB.out.2.2.2.2.2.1).below hb, (HB.out.2.2.2.2.2.2).below hb, hi⟩
        have B1' : Hid (Below w.heap.size w v7) := B1.out.trans (hb.mono B1.out.size)
        clear hi hb K HB B1
        have HB : Hid _ := HB'
        have B1 : Hid _ := B1'
        clear HB' B1'
        have K : Hid _ := rless_any a1 a2 n1 c1 n2 c2 xs ys v7 (HB.out.2.1) (HB.out.2.2.1) (by omega) (by omega)
        go_wp2_with fail
        refine Calls.mono K.out ?_
        rintro e v8 ⟨ay, ny, cy, rfl, hi, hb⟩
        have Ny : ny ≤ 1000 := by rw [← hi.hl]; exact Nat.le_trans (inss_le _) (Nat.le_trans (List.length_filter_le _ _) (by have := HL.out; have := HG.out; omega))
        have HB' : Hid (IsM v8 a0 n0 c0 rows ∧ IsI .i64 v8 a1 n1 c1 (xs) ∧ IsI .i64 v8 a2 n2 c2 (ys) ∧ IsI .i64 v8 ao no co (inss ltI rows.flatten) ∧ IsI .i64 v8 ap np cp (inss ltI rows.flatten) ∧ IsI .i64 v8 aq nq cq (hads n0 rows) ∧ IsI .i64 v8 ar nr cr (mts rows) ∧ IsI .i64 v8 au nu cu (lss xs ys) ∧ IsI .i64 v8 ay ny cy (rls xs ys)) := ⟨(HB.out.1).below hb, (HB.out.2.1).below hb, (HB.out.2.2.1).below hb, (HB.out.2.2.2.1).below hb, (HB.out.2.2.2.2.1).below hb, (HB.out.2.2.2.2.2.1).below hb, (HB.out.2.2.2.2.2.2.1).below hb, (HB.out.2.2.2.2.2.2.2).below hb, hi⟩
        have B1' : Hid (Below w.heap.size w v8) := B1.out.trans (hb.mono B1.out.size)
        clear hi hb K HB B1
        have HB : Hid _ := HB'
        have B1 : Hid _ := B1'
        clear HB' B1'
        have K : Hid _ := sameI_any _ _ _ _ _ _ _ _ v8 (HB.out.2.2.2.2.2.2.2.1) (HB.out.2.2.2.2.2.2.2.2) (by omega) (by omega)
        go_wp2_with fail
        refine Calls.mono K.out ?_
        rintro e v9 ⟨he, qq, hq⟩
        rw [decide_eq_true ((rls_lss xs ys).symm : lss xs ys = rls xs ys)] at he
        subst he
        have hb : Below v8.heap.size v8 v9 := by rw [hq]; exact below_dr' _ _ qq
        have HB' : Hid (IsM v9 a0 n0 c0 rows ∧ IsI .i64 v9 a1 n1 c1 (xs) ∧ IsI .i64 v9 a2 n2 c2 (ys) ∧ IsI .i64 v9 ao no co (inss ltI rows.flatten) ∧ IsI .i64 v9 ap np cp (inss ltI rows.flatten) ∧ IsI .i64 v9 aq nq cq (hads n0 rows) ∧ IsI .i64 v9 ar nr cr (mts rows) ∧ IsI .i64 v9 au nu cu (lss xs ys) ∧ IsI .i64 v9 ay ny cy (rls xs ys)) := ⟨(HB.out.1).below hb, (HB.out.2.1).below hb, (HB.out.2.2.1).below hb, (HB.out.2.2.2.1).below hb, (HB.out.2.2.2.2.1).below hb, (HB.out.2.2.2.2.2.1).below hb, (HB.out.2.2.2.2.2.2.1).below hb, (HB.out.2.2.2.2.2.2.2.1).below hb, (HB.out.2.2.2.2.2.2.2.2).below hb⟩
        have B1' : Hid (Below w.heap.size w v9) := B1.out.trans (hb.mono B1.out.size)
        clear hb hq qq K HB B1
        have HB : Hid _ := HB'
        have B1 : Hid _ := B1'
        clear HB' B1'
        go_wp2_with fail
        go_ret
        exact ⟨rfl, B1.out⟩
set_option maxRecDepth 100000 in
theorem kmergeInts_lifted (os : Os) (started : os.Started) (H : Type) (enc : TypeId × Value → H) :
    ReturnsInHanded {} Try.checked os 4 .any (Rows.kmergeIntsSpec.pre6 enc Try.prog Try.f4 Rows.kmergeIntsRow.domain false) (Rows.kmergeIntsSpec.post enc Try.prog Try.f4 false true false false) := by
  refine returnsInHanded_of_change (C := Try.checked) own started (by kernel_rfl) Try.func4
    (ChangeSpec.witness6 (enc := enc) (C := Try.checked) false ⟨#[], #[.slice none 0 0, .slice none 0 0, .slice none 0 0], []⟩ 8 (by kernel_rfl) (by kernel_rfl) (by kernel_rfl) (by kernel_rfl)) ?_
  intro W base args ds gs before hval0 hW hcnd _
  have hval : ∀ (j : Nat) t v, Try.f4.params[j]? = some t → args[j]? = some v → Value.okWide Try.prog W .any base t v := hval0
  have hW' := hW
  obtain ⟨p, q, hA0, hV, rfl, hfz, hnd⟩ := hW
  have hA : DataW.TrodAll enc Try.prog W 0 (fun _ => true) true Try.f4.params.toList args.toList ds p := hA0
  rw [Try.params4] at hA hval
  obtain ⟨v0, vs0, d0, ds0, p0, q0, hargs, rfl, rfl, h0, r0⟩ := trodAll_cons hA
  obtain ⟨v1, vs1, d1, ds1, p1, q1, rfl, rfl, rfl, h1, r1⟩ := trodAll_cons r0
  obtain ⟨v2, vs2, d2, ds2, p2, q2, rfl, rfl, rfl, h2, r2⟩ := trodAll_cons r1
  obtain ⟨rfl, rfl, rfl⟩ := trodAll_nil r2
  obtain rfl : args = #[v0, v1, v2] := by cases args; simp_all
  obtain ⟨rfl, rfl⟩ := trodVars_none hV
  obtain ⟨a0, len0, cap0, rfl⟩ := okWide_slice Try.underlying29 (hval 0 29 v0 rfl rfl)
  have k0 := h0
  have lt0 : ∀ x ∈ p0, x.block < W.heap.size := by obtain ⟨m, hm⟩ := k0; exact DataW.trod_lt m _ _ _ hm
  obtain ⟨vl0, w0⟩ : ∃ rows, IsM W a0 len0 cap0 rows := by obtain ⟨fuel, hf⟩ := h0; exact isM_of hf
  obtain ⟨a1, len1, cap1, rfl⟩ := okWide_slice Try.underlying30 (hval 1 30 v1 rfl rfl)
  have k1 := h1
  have lt1 : ∀ x ∈ p1, x.block < W.heap.size := by obtain ⟨m, hm⟩ := k1; exact DataW.trod_lt m _ _ _ hm
  obtain ⟨vl1, w1⟩ : ∃ ms, IsI .i64 W a1 len1 cap1 ms := by obtain ⟨fuel, hf⟩ := h1; exact isN_of hf
  obtain ⟨a2, len2, cap2, rfl⟩ := okWide_slice Try.underlying30 (hval 2 30 v2 rfl rfl)
  have k2 := h2
  have lt2 : ∀ x ∈ p2, x.block < W.heap.size := by obtain ⟨m, hm⟩ := k2; exact DataW.trod_lt m _ _ _ hm
  obtain ⟨vl2, w2⟩ : ∃ ms, IsI .i64 W a2 len2 cap2 ms := by obtain ⟨fuel, hf⟩ := h2; exact isN_of hf
  clear hA0 hval0
  refine (kmergeInts_walk a0 len0 cap0 vl0 w0 a1 len1 cap1 vl1 w1 a2 len2 cap2 vl2 w2 rfl).mono fun e W' ⟨he, hb⟩ => ?_
  subst he
  exact ⟨_, rfl, _, _, _, [], _, [], hW', trodAll_mk1 (shut_bool Try.underlying4 _), (trodAll_cons_mk (Below.trod laidOut (by kernel_rfl) (of_decide_eq_true (by kernel_rfl)) k0 hb lt0) (trodAll_cons_mk (Below.trod laidOut (by kernel_rfl) (of_decide_eq_true (by kernel_rfl)) k1 hb lt1) (trodAll_cons_mk (Below.trod laidOut (by kernel_rfl) (of_decide_eq_true (by kernel_rfl)) k2 hb lt2) trodAll_mk0))), rfl, hb.frame _, fun h => by cases h⟩

theorem kmergeInts_holds : Rows.KmergeIntsSaid :=
  OpenClaim.holds_of_wide 4 Try.f4 rfl rfl rfl rfl rfl rfl rfl ⟨rfl, rfl, rfl, rfl, rfl⟩ rfl rfl rfl rfl rfl (by kernel_rfl) Try.func4 (by kernel_rfl)
    (of_decide_eq_true (by kernel_rfl)) (by unfold Func.isWrapper; first | (rw [if_pos (by decide +kernel)]; kernel_rfl) | (rw [if_neg (by decide +kernel)]; exact ⟨rfl, rfl⟩))
    (fun os started H enc _ => kmergeInts_lifted os started H enc)
#print axioms kmergeInts_holds
end Go.Proofs.Ytkojbpifcflgfaa
