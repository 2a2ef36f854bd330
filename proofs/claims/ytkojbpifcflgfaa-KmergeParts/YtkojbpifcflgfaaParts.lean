/- The law KmergeParts: some rows as one, and that together with what is left, are all; the order of rows plays no part; one row more of the same changes nothing. Conditions: none beyond the statement's own. -/
import Derived.Test.YtkojbpifcflgfaaDh
namespace Go.Proofs.Ytkojbpifcflgfaa
open Go.ChangeShapes Go.WideShapes Go.ChangeAt Go.RowKit Go.Lib

theorem i64_and1023 (n : Int) : bits .and .i64 n 1023 = n % 1024 := by
  have h127 : (BitVec.ofInt 64 1023).toNat = 2 ^ 10 - 1 := by decide
  have key : (BitVec.ofInt 64 n &&& BitVec.ofInt 64 1023).toNat = (n % ((2 ^ 64 : Nat) : Int)).toNat % 2 ^ 10 := by
    rw [BitVec.toNat_and, BitVec.toNat_ofInt, h127, Nat.and_two_pow_sub_one_eq_mod]
  show IntKind.i64.wrap ((BitVec.ofInt 64 n &&& BitVec.ofInt 64 1023).toNat : Nat) = n % 1024
  rw [key, IntKind.wrap_i64]
  omega
set_option maxRecDepth 100000 in
set_option maxHeartbeats 16000000 in
theorem kmergeParts_walk {w0 : World} (a0 : Option Addr) (n0 c0 : Nat) (rows : List (List (List Int))) (h0 : IsQ w0 a0 n0 c0 rows) (at1 : Int) (_ : (Lit.int .i64 at1).wf = true) {w : World} (hw : w = w0) :
    Calls Try.prog 5 #[.slice a0 n0 c0, .int .i64 at1] w fun e w' => e = .returned (.bool true) ∧ Below w.heap.size w w' := by
  subst hw
  have H : Hid (∀ U, Below w.heap.size w U → IsQ U a0 n0 c0 rows) := fun U hU => h0.below hU
  have HL : Hid (rows.length = n0) := h0.hl
  have HC : Hid (n0 ≤ c0 ∧ c0 ≤ maxLen ∧ (a0 = none → c0 = 0)) := ⟨h0.hc, h0.hm, h0.nil⟩
  have HWr : Hid (∀ i, i < rows.length → WfR (rows.getD i [])) := fun i hi => by
    obtain ⟨_, _, _, _, _, _, _, _, _, h5⟩ := h0.rd i (by rw [← h0.hl]; exact hi)
    exact h5
  have HA : Hid _ := awake_any w
  clear h0
  go_enter Try.func5, Try.ntmps5
  go_wp2_with fail
  refine Calls.mono HA.out ?_
  rintro e w1 ⟨rfl, hb1⟩
  have B1 : Hid (Below w.heap.size w w1) := hb1
  have K : Hid _ := few_any a0 n0 c0 rows w1 (H.out w1 hb1)
  clear hb1 HA
  go_wp2_with fail
  refine Calls.mono K.out ?_
  rintro e w1 ⟨sh, rfl, rfl, hsh⟩
  have HSh : Hid _ := hsh
  clear K hsh
  cases sh with
  | false =>
    go_wp2
    go_ret
    exact ⟨rfl, B1.out⟩
  | true =>
    have hsm := HSh.out rfl
    have hn10 := hsm.1
    have hl60 : ∀ i, (rows.getD i []).length ≤ 60 := fun i => by
      by_cases hi : i < n0
      · exact (hsm.2 i hi).1
      · rw [show rows.getD i [] = [] by simp [List.getD, List.getElem?_eq_none (show rows.length ≤ i by rw [HL.out]; omega)]]
        exact Nat.zero_le _
    have hfl : rows.flatten.length ≤ 600 := by
      have := flatQ_le 60 rows (fun i _ => hl60 i)
      have := HL.out
      omega
    have hbd : Bd rows := fun r hr => by
      obtain ⟨i, hi, e⟩ := List.mem_iff_getElem.1 hr
      have er : rows.getD i [] = r := by rw [← e]; simp [List.getD, hi]
      refine ⟨by have := hl60 i; rw [er] at this; omega, fun x hx => ?_⟩
      obtain ⟨k, hk, e2⟩ := List.mem_iff_getElem.1 hx
      have h1 := (hsm.2 i (by rw [← HL.out]; exact hi)).2 k (by rw [er]; exact hk)
      rw [er, show r.getD k [] = x by rw [← e2]; simp [List.getD, hk]] at h1
      omega
    have HB : Hid (Bd rows ∧ rows.flatten.length ≤ 600) := ⟨hbd, hfl⟩
    have HI : Hid (∀ l : List (List Int), l.length ≤ 600 → (∀ x ∈ l, x ∈ rows.flatten) → (inss li l).length ≤ 1000 ∧ ∀ x ∈ inss li l, x.length ≤ 1000) := fun l h1 h2 => by
      refine ⟨Nat.le_trans (inssL_le l) (by omega), fun x hx => ?_⟩
      obtain ⟨r, hr, hz⟩ := List.mem_flatten.1 (h2 x ((mem_inss stoL).1 hx))
      exact (hbd r hr).2 x hz
    clear hsm HSh hl60 hfl hbd
    obtain ⟨m, hm, hm2⟩ : ∃ m : Nat, bits .and .i64 at1 1023 = (m : Int) ∧ m ≤ 1023 := ⟨(at1 % 1024).toNat, by rw [i64_and1023]; omega, by omega⟩
    obtain ⟨k, hk, hk2⟩ : ∃ k : Nat, (m : Int).tmod ((n0 : Int) + 1) = (k : Int) ∧ k ≤ n0 := ⟨m % (n0 + 1), by rw [Int.tmod_eq_emod_of_nonneg (by omega)]; rfl, by have := Nat.mod_lt m (show 0 < n0 + 1 by omega); omega⟩
    have hne : ¬ ((n0 : Int) + 1 = 0) := by omega
    have K : Hid _ := items_q (H.out w1 B1.out) (by omega) HB.out.1
    have HS : Hid ((((inss li rows.flatten).length ≤ 1000 ∧ ∀ x ∈ inss li rows.flatten, x.length ≤ 1000) ∧ WfR (inss li rows.flatten)) ∧ (((inss li (rows.take k).flatten).length ≤ 1000 ∧ ∀ x ∈ inss li (rows.take k).flatten, x.length ≤ 1000) ∧ WfR (inss li (rows.take k).flatten)) ∧ (((inss li (rows.drop k).flatten).length ≤ 1000 ∧ ∀ x ∈ inss li (rows.drop k).flatten, x.length ≤ 1000) ∧ WfR (inss li (rows.drop k).flatten))) := by
      have e : rows.flatten = (rows.take k).flatten ++ (rows.drop k).flatten := by rw [← List.flatten_append, List.take_append_drop]
      have e2 := congrArg List.length e
      rw [List.length_append] at e2
      have h6 := HB.out.2
      have hw := wf_flat HWr.out
      have s1 : ∀ x ∈ (rows.take k).flatten, x ∈ rows.flatten := fun x hx => by rw [e]; exact List.mem_append.2 (.inl hx)
      have s2 : ∀ x ∈ (rows.drop k).flatten, x ∈ rows.flatten := fun x hx => by rw [e]; exact List.mem_append.2 (.inr hx)
      exact ⟨⟨HI.out _ h6 (fun x hx => hx), wf_inss hw⟩, ⟨HI.out _ (by omega) s1, wf_inss (fun x hx => hw x (s1 x hx))⟩, ⟨HI.out _ (by omega) s2, wf_inss (fun x hx => hw x (s2 x hx))⟩⟩
    go_wp2_with fail
    refine Calls.mono K.out ?_
    rintro e v1 ⟨ax, nx, cx, rfl, hi, hb⟩
    have HB1 : Hid (IsR v1 ax nx cx (inss li rows.flatten) ∧ Below w.heap.size w v1) := ⟨hi, B1.out.trans (hb.mono B1.out.size)⟩
    clear hi hb K B1
    by_cases hn0 : 0 < n0
    · obtain ⟨b, off, _, _, _, rfl, _⟩ := (H.out w (Below.refl _ _)).rd 0 hn0
      by_cases hck : c0 = k
      · obtain rfl : k = n0 := by have := HC.out.1; omega
        obtain rfl : k = c0 := hck.symm
        have hdr : Hid (rows.drop k = []) := List.drop_eq_nil_of_le (by rw [HL.out]; exact Nat.le_refl _)
        have K : Hid _ := items_q (IsQ.take (k := k) (H.out v1 HB1.out.2) (by omega)) (by omega) (fun r hr => HB.out.1 r (List.mem_of_mem_take hr))
        go_wp2_with fail
        refine Calls.mono K.out ?_
        rintro e v2 ⟨ay, ny, cy, rfl, hi, hb⟩
        have HB2 : Hid (IsR v2 ax nx cx (inss li rows.flatten) ∧ IsR v2 ay ny cy (inss li (rows.take k).flatten) ∧ Below w.heap.size w v2) := ⟨HB1.out.1.below hb, hi, HB1.out.2.trans (hb.mono HB1.out.2.size)⟩
        clear hi hb K HB1
        have K : Hid (∀ (a : Option Addr) (c : Nat), c ≤ maxLen → (a = none → c = 0) → Calls Try.prog 12 #[.slice a 0 c] v2 (NewO v2 (inss li (rows.drop k).flatten))) := fun a c h1 h2 => items_q (rows := rows.drop k) (by rw [hdr.out]; exact isQ_none v2 h1 h2) (by omega) (fun r hr => HB.out.1 r (List.mem_of_mem_drop hr))
        go_wp2_with fail
        refine Calls.mono (K.out _ _ (by first | exact Nat.zero_le _ | (have := HC.out.2.1; omega)) (by intro h; first | rfl | cases h | (split at h <;> cases h))) ?_
        rintro e v3 ⟨az, nz, cz, rfl, hi, hb⟩
        have HB3 : Hid (IsR v3 ax nx cx (inss li rows.flatten) ∧ IsR v3 ay ny cy (inss li (rows.take k).flatten) ∧ IsR v3 az nz cz (inss li (rows.drop k).flatten) ∧ Below w.heap.size w v3) := ⟨HB2.out.1.below hb, HB2.out.2.1.below hb, hi, HB2.out.2.2.trans (hb.mono HB2.out.2.2.size)⟩
        clear hi hb K HB2
        obtain ⟨i0, hi0, hz0, hz1, hz2⟩ := info_parts (show (Try.prog.info? 26).map (fun i => (i.zero, i.size, i.bytes)) = some (some (.slice none 0 0), 1, 24) by kernel_rfl)
        go_wp2_with fail
        go_loopg [11, 12] (k + 1) (fun gg s11 s12 wr => ∃ (r tn : Nat) (z : Int) (vs : List Value), s12 = .int .i64 z ∧ z + 1 = (r : Int) ∧ r ≤ k ∧ r + 1 ≤ gg + 1 ∧ tn + r = k ∧ Hid (wr.ownsRow v3.heap.size 26 1 s11 tn vs ∧ FoQ v3 vs (rows.drop r).reverse ∧ Below v3.heap.size v3 wr))
        case atStart => exact ⟨k, 0, _, [], rfl, by omega, Nat.le_refl _, by omega, by omega, World.ownsRow_nil _ _ _ _, by rw [List.drop_eq_nil_of_le (by rw [HL.out]; exact Nat.le_refl _)]; trivial, Below.refl _ _⟩
        case round =>
          obtain ⟨r, tn, z, vs, rfl, hz, hr, hg, htn, HO⟩ := hrel
          rcases r with _ | r
          · obtain rfl : z = -1 := by omega
            obtain ⟨at2, ct, rfl, hq⟩ := own_isQ HO.out.1 (FoQ.below HO.out.2.2 HO.out.2.1)
            have hb := HO.out.2.2
            rw [List.drop_zero] at hq
            have HB4 : Hid (IsR wr ax nx cx (inss li rows.flatten) ∧ IsR wr ay ny cy (inss li (rows.take k).flatten) ∧ IsR wr az nz cz (inss li (rows.drop k).flatten) ∧ IsQ wr at2 tn ct rows.reverse ∧ Below w.heap.size w wr) := ⟨HB3.out.1.below hb, HB3.out.2.1.below hb, HB3.out.2.2.1.below hb, hq, HB3.out.2.2.2.trans (hb.mono HB3.out.2.2.2.size)⟩
            clear hq hb HO HB3
            have K : Hid _ := rises_any ax nx cx (inss li rows.flatten) wr HB4.out.1 HS.out.1.2
            go_wp2_with fail
            refine Calls.mono K.out ?_
            rintro e u1 ⟨he, hb⟩
            rw [rises_inss] at he
            subst he
            have HB5 : Hid (IsR u1 ax nx cx (inss li rows.flatten) ∧ IsR u1 ay ny cy (inss li (rows.take k).flatten) ∧ IsR u1 az nz cz (inss li (rows.drop k).flatten) ∧ IsQ u1 at2 tn ct (rows.reverse) ∧ Below w.heap.size w u1) := ⟨HB4.out.1.below hb, HB4.out.2.1.below hb, HB4.out.2.2.1.below hb, HB4.out.2.2.2.1.below hb, HB4.out.2.2.2.2.trans (hb.mono HB4.out.2.2.2.2.size)⟩
            clear hb K HB4
            have K : Hid _ := items_q (isQ2 u1 HB5.out.2.1 HS.out.2.1.2 HB5.out.2.2.1 HS.out.2.2.2) (by omega) (by intro r hr; simp only [List.mem_cons, List.not_mem_nil, or_false] at hr; rcases hr with rfl | rfl; exact HS.out.2.1.1; exact HS.out.2.2.1)
            go_wp2_with fail
            refine Calls.mono K.out ?_
            rintro e u10 ⟨aq, nq, cq, rfl, hi, hb⟩
            replace hb : Below u1.heap.size u1 u10 := (al1 u1 _).trans (hb.mono (al1 u1 _).size)
            rw [parts1] at hi
            have HB5x : Hid (IsR u10 ax nx cx (inss li rows.flatten) ∧ IsR u10 ay ny cy (inss li (rows.take k).flatten) ∧ IsR u10 az nz cz (inss li (rows.drop k).flatten) ∧ IsQ u10 at2 tn ct (rows.reverse) ∧ Below w.heap.size w u10 ∧ IsR u10 aq nq cq (inss li rows.flatten)) := ⟨HB5.out.1.below hb, HB5.out.2.1.below hb, HB5.out.2.2.1.below hb, HB5.out.2.2.2.1.below hb, HB5.out.2.2.2.2.trans (hb.mono HB5.out.2.2.2.2.size), hi⟩
            clear hi hb K HB5
            have K : Hid _ := same_any aq nq cq _ ax nx cx _ u10 HB5x.out.2.2.2.2.2 HS.out.1.2 HB5x.out.1 HS.out.1.2
            go_wp2_with fail
            refine Calls.mono K.out ?_
            rintro e u11 ⟨he, hb⟩
            have he2 : e = .returned (.bool true) := by rw [he]; simp
            clear he
            subst he2
            have HB6 : Hid (IsR u11 ax nx cx (inss li rows.flatten) ∧ IsR u11 ay ny cy (inss li (rows.take k).flatten) ∧ IsR u11 az nz cz (inss li (rows.drop k).flatten) ∧ IsQ u11 at2 tn ct (rows.reverse) ∧ Below w.heap.size w u11) := ⟨HB5x.out.1.below hb, HB5x.out.2.1.below hb, HB5x.out.2.2.1.below hb, HB5x.out.2.2.2.1.below hb, HB5x.out.2.2.2.2.1.trans (hb.mono HB5x.out.2.2.2.2.1.size)⟩
            clear hb K HB5x
            have K : Hid _ := items_q HB6.out.2.2.2.1 (by omega) (fun r hr => HB.out.1 r (List.mem_reverse.1 hr))
            go_wp2_with fail
            refine Calls.mono K.out ?_
            rintro e u12 ⟨aq, nq, cq, rfl, hi, hb⟩
            rw [parts2] at hi
            have HB6x : Hid (IsR u12 ax nx cx (inss li rows.flatten) ∧ IsR u12 ay ny cy (inss li (rows.take k).flatten) ∧ IsR u12 az nz cz (inss li (rows.drop k).flatten) ∧ IsQ u12 at2 tn ct (rows.reverse) ∧ Below w.heap.size w u12 ∧ IsR u12 aq nq cq (inss li rows.flatten)) := ⟨HB6.out.1.below hb, HB6.out.2.1.below hb, HB6.out.2.2.1.below hb, HB6.out.2.2.2.1.below hb, HB6.out.2.2.2.2.trans (hb.mono HB6.out.2.2.2.2.size), hi⟩
            clear hi hb K HB6
            have K : Hid _ := same_any aq nq cq _ ax nx cx _ u12 HB6x.out.2.2.2.2.2 HS.out.1.2 HB6x.out.1 HS.out.1.2
            go_wp2_with fail
            refine Calls.mono K.out ?_
            rintro e u13 ⟨he, hb⟩
            have he2 : e = .returned (.bool true) := by rw [he]; simp
            clear he
            subst he2
            have HB7 : Hid (IsR u13 ax nx cx (inss li rows.flatten) ∧ IsR u13 ay ny cy (inss li (rows.take k).flatten) ∧ IsR u13 az nz cz (inss li (rows.drop k).flatten) ∧ IsQ u13 at2 tn ct (rows.reverse) ∧ Below w.heap.size w u13) := ⟨HB6x.out.1.below hb, HB6x.out.2.1.below hb, HB6x.out.2.2.1.below hb, HB6x.out.2.2.2.1.below hb, HB6x.out.2.2.2.2.1.trans (hb.mono HB6x.out.2.2.2.2.1.size)⟩
            clear hb K HB6x
            have K : Hid _ := items_q (isQ3 u13 HB7.out.1 HS.out.1.2 HB7.out.1 HS.out.1.2 HB7.out.2.1 HS.out.2.1.2) (by omega) (by intro r hr; simp only [List.mem_cons, List.not_mem_nil, or_false] at hr; rcases hr with rfl | rfl | rfl; exact HS.out.1.1; exact HS.out.1.1; exact HS.out.2.1.1)
            go_wp2_with fail
            refine Calls.mono K.out ?_
            rintro e u14 ⟨aq, nq, cq, rfl, hi, hb⟩
            replace hb : Below u13.heap.size u13 u14 := (al1 u13 _).trans (hb.mono (al1 u13 _).size)
            rw [parts3] at hi
            have HB7x : Hid (IsR u14 ax nx cx (inss li rows.flatten) ∧ IsR u14 ay ny cy (inss li (rows.take k).flatten) ∧ IsR u14 az nz cz (inss li (rows.drop k).flatten) ∧ IsQ u14 at2 tn ct (rows.reverse) ∧ Below w.heap.size w u14 ∧ IsR u14 aq nq cq (inss li rows.flatten)) := ⟨HB7.out.1.below hb, HB7.out.2.1.below hb, HB7.out.2.2.1.below hb, HB7.out.2.2.2.1.below hb, HB7.out.2.2.2.2.trans (hb.mono HB7.out.2.2.2.2.size), hi⟩
            clear hi hb K HB7
            have K : Hid _ := same_any aq nq cq _ ax nx cx _ u14 HB7x.out.2.2.2.2.2 HS.out.1.2 HB7x.out.1 HS.out.1.2
            go_wp2_with fail
            refine Calls.mono K.out ?_
            rintro e u15 ⟨he, hb⟩
            have he2 : e = .returned (.bool true) := by rw [he]; simp
            clear he
            subst he2
            have HB8 : Hid (IsR u15 ax nx cx (inss li rows.flatten) ∧ IsR u15 ay ny cy (inss li (rows.take k).flatten) ∧ IsR u15 az nz cz (inss li (rows.drop k).flatten) ∧ IsQ u15 at2 tn ct (rows.reverse) ∧ Below w.heap.size w u15) := ⟨HB7x.out.1.below hb, HB7x.out.2.1.below hb, HB7x.out.2.2.1.below hb, HB7x.out.2.2.2.1.below hb, HB7x.out.2.2.2.2.1.trans (hb.mono HB7x.out.2.2.2.2.1.size)⟩
            clear hb K HB7x
            go_wp2_with fail
            go_ret
            exact ⟨rfl, HB8.out.2.2.2.2⟩
          · obtain rfl : z = (r : Int) := by omega
            obtain ⟨b2, off2, ai, ni, ci, hab, hbs, hcell, hI, hwf⟩ := (H.out v3 HB3.out.2.2.2).rd r (by omega)
            cases hab
            have d0 := (HO.out.2.2.cell (p := ⟨b, off + r, none⟩) hbs).trans hcell
            have hr0 : (r : Int) < (k : Int) := by omega
            have hr1 : (0 : Int) ≤ (r : Int) := by omega
            have HQ : Hid (IsR v3 ai ni ci (rows.getD r []) ∧ WfR (rows.getD r [])) := ⟨hI, hwf⟩
            have HE : Hid ((rows.drop r).reverse = (rows.drop (r + 1)).reverse ++ [rows.getD r []]) := by show _ = _; rw [dropQ_cons rows r (by rw [HL.out]; omega), List.reverse_cons]
            clear hI hwf hbs hcell
            go_wp2_with (at_builtin; refine wpList_append_any _ rfl (.tmp 43) (.tmp 48) 22 rfl v3.heap.size 26 i0 (.slice none 0 0) 1 24 Try.underlying22 hi0 hz0 hz1 hz2 rfl (by decide) u11 tn _ rfl (HO.out.1.alloc _) (some ⟨wr.heap.size, 0, none⟩) 1 1 [.slice ai ni ci] rfl rfl (fun h => by cases h) (fun ad e j u hu => by cases e; exact I.at_one (by simp) j u hu) (by intro u hu; simp at hu; subst hu; rfl) (by unfold maxLen; omega) (by omega) (al0 HO.out.2.2 _).size ?_
                         intro v5 w5 ho5 hg5
                         have H5 : Hid (w5.ownsRow v3.heap.size 26 1 v5 (tn + 1) (vs ++ [.slice ai ni ci]) ∧ FoQ v3 (vs ++ [.slice ai ni ci]) (rows.drop r).reverse ∧ Below v3.heap.size v3 w5) := ⟨ho5, (by rw [HE.out]; exact FoQ.app HO.out.2.1 ⟨⟨ai, ni, ci, rfl, HQ.out.1, HQ.out.2⟩, trivial⟩), (al0 HO.out.2.2 _).grown hg5 (al0 HO.out.2.2 _).size (fun k hk => (HO.out.1.lt k hk).1)⟩
                         clear ho5 hg5)
            go_roundg r
            case measure => omega
            case rel => exact ⟨r, tn + 1, (r : Int) - 1, _, by go_num, by omega, by omega, by omega, by omega, H5.out⟩
      · have hck' : ¬ (c0 : Int) = (k : Int) := by omega
        have hkc : (k : Int) ≤ (c0 : Int) := by have := HC.out.1; omega
        have K : Hid _ := items_q (IsQ.take (k := k) (H.out v1 HB1.out.2) (by omega)) (by omega) (fun r hr => HB.out.1 r (List.mem_of_mem_take hr))
        go_wp2_with fail
        refine Calls.mono K.out ?_
        rintro e v2 ⟨ay, ny, cy, rfl, hi, hb⟩
        have HB2 : Hid (IsR v2 ax nx cx (inss li rows.flatten) ∧ IsR v2 ay ny cy (inss li (rows.take k).flatten) ∧ Below w.heap.size w v2) := ⟨HB1.out.1.below hb, hi, HB1.out.2.trans (hb.mono HB1.out.2.size)⟩
        clear hi hb K HB1
        have K : Hid _ := items_q (IsQ.drop (k := k) (H.out v2 HB2.out.2.2) (by omega)) (by omega) (fun r hr => HB.out.1 r (List.mem_of_mem_drop hr))
        go_wp2_with fail
        refine Calls.mono K.out ?_
        rintro e v3 ⟨az, nz, cz, rfl, hi, hb⟩
        have HB3 : Hid (IsR v3 ax nx cx (inss li rows.flatten) ∧ IsR v3 ay ny cy (inss li (rows.take k).flatten) ∧ IsR v3 az nz cz (inss li (rows.drop k).flatten) ∧ Below w.heap.size w v3) := ⟨HB2.out.1.below hb, HB2.out.2.1.below hb, hi, HB2.out.2.2.trans (hb.mono HB2.out.2.2.size)⟩
        clear hi hb K HB2
        obtain ⟨i0, hi0, hz0, hz1, hz2⟩ := info_parts (show (Try.prog.info? 26).map (fun i => (i.zero, i.size, i.bytes)) = some (some (.slice none 0 0), 1, 24) by kernel_rfl)
        go_wp2_with fail
        go_loopg [11, 12] (n0 + 1) (fun gg s11 s12 wr => ∃ (r tn : Nat) (z : Int) (vs : List Value), s12 = .int .i64 z ∧ z + 1 = (r : Int) ∧ r ≤ n0 ∧ r + 1 ≤ gg + 1 ∧ tn + r = n0 ∧ Hid (wr.ownsRow v3.heap.size 26 1 s11 tn vs ∧ FoQ v3 vs (rows.drop r).reverse ∧ Below v3.heap.size v3 wr))
        case atStart => exact ⟨n0, 0, _, [], rfl, by omega, Nat.le_refl _, by omega, by omega, World.ownsRow_nil _ _ _ _, by rw [List.drop_eq_nil_of_le (by rw [HL.out]; exact Nat.le_refl _)]; trivial, Below.refl _ _⟩
        case round =>
          obtain ⟨r, tn, z, vs, rfl, hz, hr, hg, htn, HO⟩ := hrel
          rcases r with _ | r
          · obtain rfl : z = -1 := by omega
            obtain ⟨at2, ct, rfl, hq⟩ := own_isQ HO.out.1 (FoQ.below HO.out.2.2 HO.out.2.1)
            have hb := HO.out.2.2
            rw [List.drop_zero] at hq
            have HB4 : Hid (IsR wr ax nx cx (inss li rows.flatten) ∧ IsR wr ay ny cy (inss li (rows.take k).flatten) ∧ IsR wr az nz cz (inss li (rows.drop k).flatten) ∧ IsQ wr at2 tn ct rows.reverse ∧ Below w.heap.size w wr) := ⟨HB3.out.1.below hb, HB3.out.2.1.below hb, HB3.out.2.2.1.below hb, hq, HB3.out.2.2.2.trans (hb.mono HB3.out.2.2.2.size)⟩
            clear hq hb HO HB3
            have K : Hid _ := rises_any ax nx cx (inss li rows.flatten) wr HB4.out.1 HS.out.1.2
            go_wp2_with fail
            refine Calls.mono K.out ?_
            rintro e u1 ⟨he, hb⟩
            rw [rises_inss] at he
            subst he
            have HB5 : Hid (IsR u1 ax nx cx (inss li rows.flatten) ∧ IsR u1 ay ny cy (inss li (rows.take k).flatten) ∧ IsR u1 az nz cz (inss li (rows.drop k).flatten) ∧ IsQ u1 at2 tn ct (rows.reverse) ∧ Below w.heap.size w u1) := ⟨HB4.out.1.below hb, HB4.out.2.1.below hb, HB4.out.2.2.1.below hb, HB4.out.2.2.2.1.below hb, HB4.out.2.2.2.2.trans (hb.mono HB4.out.2.2.2.2.size)⟩
            clear hb K HB4
            have K : Hid _ := items_q (isQ2 u1 HB5.out.2.1 HS.out.2.1.2 HB5.out.2.2.1 HS.out.2.2.2) (by omega) (by intro r hr; simp only [List.mem_cons, List.not_mem_nil, or_false] at hr; rcases hr with rfl | rfl; exact HS.out.2.1.1; exact HS.out.2.2.1)
            go_wp2_with fail
            refine Calls.mono K.out ?_
            rintro e u10 ⟨aq, nq, cq, rfl, hi, hb⟩
            replace hb : Below u1.heap.size u1 u10 := (al1 u1 _).trans (hb.mono (al1 u1 _).size)
            rw [parts1] at hi
            have HB5x : Hid (IsR u10 ax nx cx (inss li rows.flatten) ∧ IsR u10 ay ny cy (inss li (rows.take k).flatten) ∧ IsR u10 az nz cz (inss li (rows.drop k).flatten) ∧ IsQ u10 at2 tn ct (rows.reverse) ∧ Below w.heap.size w u10 ∧ IsR u10 aq nq cq (inss li rows.flatten)) := ⟨HB5.out.1.below hb, HB5.out.2.1.below hb, HB5.out.2.2.1.below hb, HB5.out.2.2.2.1.below hb, HB5.out.2.2.2.2.trans (hb.mono HB5.out.2.2.2.2.size), hi⟩
            clear hi hb K HB5
            have K : Hid _ := same_any aq nq cq _ ax nx cx _ u10 HB5x.out.2.2.2.2.2 HS.out.1.2 HB5x.out.1 HS.out.1.2
            go_wp2_with fail
            refine Calls.mono K.out ?_
            rintro e u11 ⟨he, hb⟩
            have he2 : e = .returned (.bool true) := by rw [he]; simp
            clear he
            subst he2
            have HB6 : Hid (IsR u11 ax nx cx (inss li rows.flatten) ∧ IsR u11 ay ny cy (inss li (rows.take k).flatten) ∧ IsR u11 az nz cz (inss li (rows.drop k).flatten) ∧ IsQ u11 at2 tn ct (rows.reverse) ∧ Below w.heap.size w u11) := ⟨HB5x.out.1.below hb, HB5x.out.2.1.below hb, HB5x.out.2.2.1.below hb, HB5x.out.2.2.2.1.below hb, HB5x.out.2.2.2.2.1.trans (hb.mono HB5x.out.2.2.2.2.1.size)⟩
            clear hb K HB5x
            have K : Hid _ := items_q HB6.out.2.2.2.1 (by omega) (fun r hr => HB.out.1 r (List.mem_reverse.1 hr))
            go_wp2_with fail
            refine Calls.mono K.out ?_
            rintro e u12 ⟨aq, nq, cq, rfl, hi, hb⟩
            rw [parts2] at hi
            have HB6x : Hid (IsR u12 ax nx cx (inss li rows.flatten) ∧ IsR u12 ay ny cy (inss li (rows.take k).flatten) ∧ IsR u12 az nz cz (inss li (rows.drop k).flatten) ∧ IsQ u12 at2 tn ct (rows.reverse) ∧ Below w.heap.size w u12 ∧ IsR u12 aq nq cq (inss li rows.flatten)) := ⟨HB6.out.1.below hb, HB6.out.2.1.below hb, HB6.out.2.2.1.below hb, HB6.out.2.2.2.1.below hb, HB6.out.2.2.2.2.trans (hb.mono HB6.out.2.2.2.2.size), hi⟩
            clear hi hb K HB6
            have K : Hid _ := same_any aq nq cq _ ax nx cx _ u12 HB6x.out.2.2.2.2.2 HS.out.1.2 HB6x.out.1 HS.out.1.2
            go_wp2_with fail
            refine Calls.mono K.out ?_
            rintro e u13 ⟨he, hb⟩
            have he2 : e = .returned (.bool true) := by rw [he]; simp
            clear he
            subst he2
            have HB7 : Hid (IsR u13 ax nx cx (inss li rows.flatten) ∧ IsR u13 ay ny cy (inss li (rows.take k).flatten) ∧ IsR u13 az nz cz (inss li (rows.drop k).flatten) ∧ IsQ u13 at2 tn ct (rows.reverse) ∧ Below w.heap.size w u13) := ⟨HB6x.out.1.below hb, HB6x.out.2.1.below hb, HB6x.out.2.2.1.below hb, HB6x.out.2.2.2.1.below hb, HB6x.out.2.2.2.2.1.trans (hb.mono HB6x.out.2.2.2.2.1.size)⟩
            clear hb K HB6x
            have K : Hid _ := items_q (isQ3 u13 HB7.out.1 HS.out.1.2 HB7.out.1 HS.out.1.2 HB7.out.2.1 HS.out.2.1.2) (by omega) (by intro r hr; simp only [List.mem_cons, List.not_mem_nil, or_false] at hr; rcases hr with rfl | rfl | rfl; exact HS.out.1.1; exact HS.out.1.1; exact HS.out.2.1.1)
            go_wp2_with fail
            refine Calls.mono K.out ?_
            rintro e u14 ⟨aq, nq, cq, rfl, hi, hb⟩
            replace hb : Below u13.heap.size u13 u14 := (al1 u13 _).trans (hb.mono (al1 u13 _).size)
            rw [parts3] at hi
            have HB7x : Hid (IsR u14 ax nx cx (inss li rows.flatten) ∧ IsR u14 ay ny cy (inss li (rows.take k).flatten) ∧ IsR u14 az nz cz (inss li (rows.drop k).flatten) ∧ IsQ u14 at2 tn ct (rows.reverse) ∧ Below w.heap.size w u14 ∧ IsR u14 aq nq cq (inss li rows.flatten)) := ⟨HB7.out.1.below hb, HB7.out.2.1.below hb, HB7.out.2.2.1.below hb, HB7.out.2.2.2.1.below hb, HB7.out.2.2.2.2.trans (hb.mono HB7.out.2.2.2.2.size), hi⟩
            clear hi hb K HB7
            have K : Hid _ := same_any aq nq cq _ ax nx cx _ u14 HB7x.out.2.2.2.2.2 HS.out.1.2 HB7x.out.1 HS.out.1.2
            go_wp2_with fail
            refine Calls.mono K.out ?_
            rintro e u15 ⟨he, hb⟩
            have he2 : e = .returned (.bool true) := by rw [he]; simp
            clear he
            subst he2
            have HB8 : Hid (IsR u15 ax nx cx (inss li rows.flatten) ∧ IsR u15 ay ny cy (inss li (rows.take k).flatten) ∧ IsR u15 az nz cz (inss li (rows.drop k).flatten) ∧ IsQ u15 at2 tn ct (rows.reverse) ∧ Below w.heap.size w u15) := ⟨HB7x.out.1.below hb, HB7x.out.2.1.below hb, HB7x.out.2.2.1.below hb, HB7x.out.2.2.2.1.below hb, HB7x.out.2.2.2.2.1.trans (hb.mono HB7x.out.2.2.2.2.1.size)⟩
            clear hb K HB7x
            go_wp2_with fail
            go_ret
            exact ⟨rfl, HB8.out.2.2.2.2⟩
          · obtain rfl : z = (r : Int) := by omega
            obtain ⟨b2, off2, ai, ni, ci, hab, hbs, hcell, hI, hwf⟩ := (H.out v3 HB3.out.2.2.2).rd r (by omega)
            cases hab
            have d0 := (HO.out.2.2.cell (p := ⟨b, off + r, none⟩) hbs).trans hcell
            have hr0 : (r : Int) < (n0 : Int) := by omega
            have hr1 : (0 : Int) ≤ (r : Int) := by omega
            have HQ : Hid (IsR v3 ai ni ci (rows.getD r []) ∧ WfR (rows.getD r [])) := ⟨hI, hwf⟩
            have HE : Hid ((rows.drop r).reverse = (rows.drop (r + 1)).reverse ++ [rows.getD r []]) := by show _ = _; rw [dropQ_cons rows r (by rw [HL.out]; omega), List.reverse_cons]
            clear hI hwf hbs hcell
            go_wp2_with (at_builtin; refine wpList_append_any _ rfl (.tmp 43) (.tmp 48) 22 rfl v3.heap.size 26 i0 (.slice none 0 0) 1 24 Try.underlying22 hi0 hz0 hz1 hz2 rfl (by decide) u11 tn _ rfl (HO.out.1.alloc _) (some ⟨wr.heap.size, 0, none⟩) 1 1 [.slice ai ni ci] rfl rfl (fun h => by cases h) (fun ad e j u hu => by cases e; exact I.at_one (by simp) j u hu) (by intro u hu; simp at hu; subst hu; rfl) (by unfold maxLen; omega) (by omega) (al0 HO.out.2.2 _).size ?_
                         intro v5 w5 ho5 hg5
                         have H5 : Hid (w5.ownsRow v3.heap.size 26 1 v5 (tn + 1) (vs ++ [.slice ai ni ci]) ∧ FoQ v3 (vs ++ [.slice ai ni ci]) (rows.drop r).reverse ∧ Below v3.heap.size v3 w5) := ⟨ho5, (by rw [HE.out]; exact FoQ.app HO.out.2.1 ⟨⟨ai, ni, ci, rfl, HQ.out.1, HQ.out.2⟩, trivial⟩), (al0 HO.out.2.2 _).grown hg5 (al0 HO.out.2.2 _).size (fun k hk => (HO.out.1.lt k hk).1)⟩
                         clear ho5 hg5)
            go_roundg r
            case measure => omega
            case rel => exact ⟨r, tn + 1, (r : Int) - 1, _, by go_num, by omega, by omega, by omega, by omega, H5.out⟩
    · obtain rfl : n0 = 0 := by omega
      obtain rfl : 0 = k := by omega
      have hdr : Hid (rows.drop 0 = []) := List.drop_eq_nil_of_le (by rw [HL.out]; exact Nat.le_refl _)
      cases a0 with
      | none =>
        obtain rfl : 0 = c0 := (HC.out.2.2 rfl).symm
        have K : Hid _ := items_q (IsQ.take (k := 0) (H.out v1 HB1.out.2) (by omega)) (by omega) (fun r hr => HB.out.1 r (List.mem_of_mem_take hr))
        go_wp2_with fail
        refine Calls.mono K.out ?_
        rintro e v2 ⟨ay, ny, cy, rfl, hi, hb⟩
        have HB2 : Hid (IsR v2 ax nx cx (inss li rows.flatten) ∧ IsR v2 ay ny cy (inss li (rows.take 0).flatten) ∧ Below w.heap.size w v2) := ⟨HB1.out.1.below hb, hi, HB1.out.2.trans (hb.mono HB1.out.2.size)⟩
        clear hi hb K HB1
        have K : Hid (∀ (a : Option Addr) (c : Nat), c ≤ maxLen → (a = none → c = 0) → Calls Try.prog 12 #[.slice a 0 c] v2 (NewO v2 (inss li (rows.drop 0).flatten))) := fun a c h1 h2 => items_q (rows := rows.drop 0) (by rw [hdr.out]; exact isQ_none v2 h1 h2) (by omega) (fun r hr => HB.out.1 r (List.mem_of_mem_drop hr))
        go_wp2_with fail
        refine Calls.mono (K.out _ _ (by first | exact Nat.zero_le _ | (have := HC.out.2.1; omega)) (by intro h; first | rfl | cases h | (split at h <;> cases h))) ?_
        rintro e v3 ⟨az, nz, cz, rfl, hi, hb⟩
        have HB3 : Hid (IsR v3 ax nx cx (inss li rows.flatten) ∧ IsR v3 ay ny cy (inss li (rows.take 0).flatten) ∧ IsR v3 az nz cz (inss li (rows.drop 0).flatten) ∧ Below w.heap.size w v3) := ⟨HB2.out.1.below hb, HB2.out.2.1.below hb, hi, HB2.out.2.2.trans (hb.mono HB2.out.2.2.size)⟩
        clear hi hb K HB2
        obtain ⟨i0, hi0, hz0, hz1, hz2⟩ := info_parts (show (Try.prog.info? 26).map (fun i => (i.zero, i.size, i.bytes)) = some (some (.slice none 0 0), 1, 24) by kernel_rfl)
        go_wp2_with fail
        go_loopg [11, 12] (0 + 1) (fun gg s11 s12 wr => ∃ (r tn : Nat) (z : Int) (vs : List Value), s12 = .int .i64 z ∧ z + 1 = (r : Int) ∧ r ≤ 0 ∧ r + 1 ≤ gg + 1 ∧ tn + r = 0 ∧ Hid (wr.ownsRow v3.heap.size 26 1 s11 tn vs ∧ FoQ v3 vs (rows.drop r).reverse ∧ Below v3.heap.size v3 wr))
        case atStart => exact ⟨0, 0, _, [], rfl, by omega, Nat.le_refl _, by omega, by omega, World.ownsRow_nil _ _ _ _, by rw [List.drop_eq_nil_of_le (by rw [HL.out]; exact Nat.le_refl _)]; trivial, Below.refl _ _⟩
        case round =>
          obtain ⟨r, tn, z, vs, rfl, hz, hr, hg, htn, HO⟩ := hrel
          rcases r with _ | r
          · obtain rfl : z = -1 := by omega
            obtain ⟨at2, ct, rfl, hq⟩ := own_isQ HO.out.1 (FoQ.below HO.out.2.2 HO.out.2.1)
            have hb := HO.out.2.2
            rw [List.drop_zero] at hq
            have HB4 : Hid (IsR wr ax nx cx (inss li rows.flatten) ∧ IsR wr ay ny cy (inss li (rows.take 0).flatten) ∧ IsR wr az nz cz (inss li (rows.drop 0).flatten) ∧ IsQ wr at2 tn ct rows.reverse ∧ Below w.heap.size w wr) := ⟨HB3.out.1.below hb, HB3.out.2.1.below hb, HB3.out.2.2.1.below hb, hq, HB3.out.2.2.2.trans (hb.mono HB3.out.2.2.2.size)⟩
            clear hq hb HO HB3
            have K : Hid _ := rises_any ax nx cx (inss li rows.flatten) wr HB4.out.1 HS.out.1.2
            go_wp2_with fail
            refine Calls.mono K.out ?_
            rintro e u1 ⟨he, hb⟩
            rw [rises_inss] at he
            subst he
            have HB5 : Hid (IsR u1 ax nx cx (inss li rows.flatten) ∧ IsR u1 ay ny cy (inss li (rows.take 0).flatten) ∧ IsR u1 az nz cz (inss li (rows.drop 0).flatten) ∧ IsQ u1 at2 tn ct (rows.reverse) ∧ Below w.heap.size w u1) := ⟨HB4.out.1.below hb, HB4.out.2.1.below hb, HB4.out.2.2.1.below hb, HB4.out.2.2.2.1.below hb, HB4.out.2.2.2.2.trans (hb.mono HB4.out.2.2.2.2.size)⟩
            clear hb K HB4
            have K : Hid _ := items_q (isQ2 u1 HB5.out.2.1 HS.out.2.1.2 HB5.out.2.2.1 HS.out.2.2.2) (by omega) (by intro r hr; simp only [List.mem_cons, List.not_mem_nil, or_false] at hr; rcases hr with rfl | rfl; exact HS.out.2.1.1; exact HS.out.2.2.1)
            go_wp2_with fail
            refine Calls.mono K.out ?_
            rintro e u10 ⟨aq, nq, cq, rfl, hi, hb⟩
            replace hb : Below u1.heap.size u1 u10 := (al1 u1 _).trans (hb.mono (al1 u1 _).size)
            rw [parts1] at hi
            have HB5x : Hid (IsR u10 ax nx cx (inss li rows.flatten) ∧ IsR u10 ay ny cy (inss li (rows.take 0).flatten) ∧ IsR u10 az nz cz (inss li (rows.drop 0).flatten) ∧ IsQ u10 at2 tn ct (rows.reverse) ∧ Below w.heap.size w u10 ∧ IsR u10 aq nq cq (inss li rows.flatten)) := ⟨HB5.out.1.below hb, HB5.out.2.1.below hb, HB5.out.2.2.1.below hb, HB5.out.2.2.2.1.below hb, HB5.out.2.2.2.2.trans (hb.mono HB5.out.2.2.2.2.size), hi⟩
            clear hi hb K HB5
            have K : Hid _ := same_any aq nq cq _ ax nx cx _ u10 HB5x.out.2.2.2.2.2 HS.out.1.2 HB5x.out.1 HS.out.1.2
            go_wp2_with fail
            refine Calls.mono K.out ?_
            rintro e u11 ⟨he, hb⟩
            have he2 : e = .returned (.bool true) := by rw [he]; simp
            clear he
            subst he2
            have HB6 : Hid (IsR u11 ax nx cx (inss li rows.flatten) ∧ IsR u11 ay ny cy (inss li (rows.take 0).flatten) ∧ IsR u11 az nz cz (inss li (rows.drop 0).flatten) ∧ IsQ u11 at2 tn ct (rows.reverse) ∧ Below w.heap.size w u11) := ⟨HB5x.out.1.below hb, HB5x.out.2.1.below hb, HB5x.out.2.2.1.below hb, HB5x.out.2.2.2.1.below hb, HB5x.out.2.2.2.2.1.trans (hb.mono HB5x.out.2.2.2.2.1.size)⟩
            clear hb K HB5x
            have K : Hid _ := items_q HB6.out.2.2.2.1 (by omega) (fun r hr => HB.out.1 r (List.mem_reverse.1 hr))
            go_wp2_with fail
            refine Calls.mono K.out ?_
            rintro e u12 ⟨aq, nq, cq, rfl, hi, hb⟩
            rw [parts2] at hi
            have HB6x : Hid (IsR u12 ax nx cx (inss li rows.flatten) ∧ IsR u12 ay ny cy (inss li (rows.take 0).flatten) ∧ IsR u12 az nz cz (inss li (rows.drop 0).flatten) ∧ IsQ u12 at2 tn ct (rows.reverse) ∧ Below w.heap.size w u12 ∧ IsR u12 aq nq cq (inss li rows.flatten)) := ⟨HB6.out.1.below hb, HB6.out.2.1.below hb, HB6.out.2.2.1.below hb, HB6.out.2.2.2.1.below hb, HB6.out.2.2.2.2.trans (hb.mono HB6.out.2.2.2.2.size), hi⟩
            clear hi hb K HB6
            have K : Hid _ := same_any aq nq cq _ ax nx cx _ u12 HB6x.out.2.2.2.2.2 HS.out.1.2 HB6x.out.1 HS.out.1.2
            go_wp2_with fail
            refine Calls.mono K.out ?_
            rintro e u13 ⟨he, hb⟩
            have he2 : e = .returned (.bool true) := by rw [he]; simp
            clear he
            subst he2
            have HB7 : Hid (IsR u13 ax nx cx (inss li rows.flatten) ∧ IsR u13 ay ny cy (inss li (rows.take 0).flatten) ∧ IsR u13 az nz cz (inss li (rows.drop 0).flatten) ∧ IsQ u13 at2 tn ct (rows.reverse) ∧ Below w.heap.size w u13) := ⟨HB6x.out.1.below hb, HB6x.out.2.1.below hb, HB6x.out.2.2.1.below hb, HB6x.out.2.2.2.1.below hb, HB6x.out.2.2.2.2.1.trans (hb.mono HB6x.out.2.2.2.2.1.size)⟩
            clear hb K HB6x
            have K : Hid _ := items_q (isQ3 u13 HB7.out.1 HS.out.1.2 HB7.out.1 HS.out.1.2 HB7.out.2.1 HS.out.2.1.2) (by omega) (by intro r hr; simp only [List.mem_cons, List.not_mem_nil, or_false] at hr; rcases hr with rfl | rfl | rfl; exact HS.out.1.1; exact HS.out.1.1; exact HS.out.2.1.1)
            go_wp2_with fail
            refine Calls.mono K.out ?_
            rintro e u14 ⟨aq, nq, cq, rfl, hi, hb⟩
            replace hb : Below u13.heap.size u13 u14 := (al1 u13 _).trans (hb.mono (al1 u13 _).size)
            rw [parts3] at hi
            have HB7x : Hid (IsR u14 ax nx cx (inss li rows.flatten) ∧ IsR u14 ay ny cy (inss li (rows.take 0).flatten) ∧ IsR u14 az nz cz (inss li (rows.drop 0).flatten) ∧ IsQ u14 at2 tn ct (rows.reverse) ∧ Below w.heap.size w u14 ∧ IsR u14 aq nq cq (inss li rows.flatten)) := ⟨HB7.out.1.below hb, HB7.out.2.1.below hb, HB7.out.2.2.1.below hb, HB7.out.2.2.2.1.below hb, HB7.out.2.2.2.2.trans (hb.mono HB7.out.2.2.2.2.size), hi⟩
            clear hi hb K HB7
            have K : Hid _ := same_any aq nq cq _ ax nx cx _ u14 HB7x.out.2.2.2.2.2 HS.out.1.2 HB7x.out.1 HS.out.1.2
            go_wp2_with fail
            refine Calls.mono K.out ?_
            rintro e u15 ⟨he, hb⟩
            have he2 : e = .returned (.bool true) := by rw [he]; simp
            clear he
            subst he2
            have HB8 : Hid (IsR u15 ax nx cx (inss li rows.flatten) ∧ IsR u15 ay ny cy (inss li (rows.take 0).flatten) ∧ IsR u15 az nz cz (inss li (rows.drop 0).flatten) ∧ IsQ u15 at2 tn ct (rows.reverse) ∧ Below w.heap.size w u15) := ⟨HB7x.out.1.below hb, HB7x.out.2.1.below hb, HB7x.out.2.2.1.below hb, HB7x.out.2.2.2.1.below hb, HB7x.out.2.2.2.2.1.trans (hb.mono HB7x.out.2.2.2.2.1.size)⟩
            clear hb K HB7x
            go_wp2_with fail
            go_ret
            exact ⟨rfl, HB8.out.2.2.2.2⟩
          · obtain rfl : z = (r : Int) := by omega
            omega
      | some ad =>
        have K : Hid _ := items_q (IsQ.take (k := 0) (H.out v1 HB1.out.2) (by omega)) (by omega) (fun r hr => HB.out.1 r (List.mem_of_mem_take hr))
        go_wp2_with fail
        refine Calls.mono K.out ?_
        rintro e v2 ⟨ay, ny, cy, rfl, hi, hb⟩
        have HB2 : Hid (IsR v2 ax nx cx (inss li rows.flatten) ∧ IsR v2 ay ny cy (inss li (rows.take 0).flatten) ∧ Below w.heap.size w v2) := ⟨HB1.out.1.below hb, hi, HB1.out.2.trans (hb.mono HB1.out.2.size)⟩
        clear hi hb K HB1
        have K : Hid (∀ (a : Option Addr) (c : Nat), c ≤ maxLen → (a = none → c = 0) → Calls Try.prog 12 #[.slice a 0 c] v2 (NewO v2 (inss li (rows.drop 0).flatten))) := fun a c h1 h2 => items_q (rows := rows.drop 0) (by rw [hdr.out]; exact isQ_none v2 h1 h2) (by omega) (fun r hr => HB.out.1 r (List.mem_of_mem_drop hr))
        go_wp2_with fail
        refine Calls.mono (K.out _ _ (by first | exact Nat.zero_le _ | (have := HC.out.2.1; omega)) (by intro h; first | rfl | cases h | (split at h <;> cases h))) ?_
        rintro e v3 ⟨az, nz, cz, rfl, hi, hb⟩
        have HB3 : Hid (IsR v3 ax nx cx (inss li rows.flatten) ∧ IsR v3 ay ny cy (inss li (rows.take 0).flatten) ∧ IsR v3 az nz cz (inss li (rows.drop 0).flatten) ∧ Below w.heap.size w v3) := ⟨HB2.out.1.below hb, HB2.out.2.1.below hb, hi, HB2.out.2.2.trans (hb.mono HB2.out.2.2.size)⟩
        clear hi hb K HB2
        obtain ⟨i0, hi0, hz0, hz1, hz2⟩ := info_parts (show (Try.prog.info? 26).map (fun i => (i.zero, i.size, i.bytes)) = some (some (.slice none 0 0), 1, 24) by kernel_rfl)
        go_wp2_with fail
        go_loopg [11, 12] (0 + 1) (fun gg s11 s12 wr => ∃ (r tn : Nat) (z : Int) (vs : List Value), s12 = .int .i64 z ∧ z + 1 = (r : Int) ∧ r ≤ 0 ∧ r + 1 ≤ gg + 1 ∧ tn + r = 0 ∧ Hid (wr.ownsRow v3.heap.size 26 1 s11 tn vs ∧ FoQ v3 vs (rows.drop r).reverse ∧ Below v3.heap.size v3 wr))
        case atStart => exact ⟨0, 0, _, [], rfl, by omega, Nat.le_refl _, by omega, by omega, World.ownsRow_nil _ _ _ _, by rw [List.drop_eq_nil_of_le (by rw [HL.out]; exact Nat.le_refl _)]; trivial, Below.refl _ _⟩
        case round =>
          obtain ⟨r, tn, z, vs, rfl, hz, hr, hg, htn, HO⟩ := hrel
          rcases r with _ | r
          · obtain rfl : z = -1 := by omega
            obtain ⟨at2, ct, rfl, hq⟩ := own_isQ HO.out.1 (FoQ.below HO.out.2.2 HO.out.2.1)
            have hb := HO.out.2.2
            rw [List.drop_zero] at hq
            have HB4 : Hid (IsR wr ax nx cx (inss li rows.flatten) ∧ IsR wr ay ny cy (inss li (rows.take 0).flatten) ∧ IsR wr az nz cz (inss li (rows.drop 0).flatten) ∧ IsQ wr at2 tn ct rows.reverse ∧ Below w.heap.size w wr) := ⟨HB3.out.1.below hb, HB3.out.2.1.below hb, HB3.out.2.2.1.below hb, hq, HB3.out.2.2.2.trans (hb.mono HB3.out.2.2.2.size)⟩
            clear hq hb HO HB3
            have K : Hid _ := rises_any ax nx cx (inss li rows.flatten) wr HB4.out.1 HS.out.1.2
            go_wp2_with fail
            refine Calls.mono K.out ?_
            rintro e u1 ⟨he, hb⟩
            rw [rises_inss] at he
            subst he
            have HB5 : Hid (IsR u1 ax nx cx (inss li rows.flatten) ∧ IsR u1 ay ny cy (inss li (rows.take 0).flatten) ∧ IsR u1 az nz cz (inss li (rows.drop 0).flatten) ∧ IsQ u1 at2 tn ct (rows.reverse) ∧ Below w.heap.size w u1) := ⟨HB4.out.1.below hb, HB4.out.2.1.below hb, HB4.out.2.2.1.below hb, HB4.out.2.2.2.1.below hb, HB4.out.2.2.2.2.trans (hb.mono HB4.out.2.2.2.2.size)⟩
            clear hb K HB4
            have K : Hid _ := items_q (isQ2 u1 HB5.out.2.1 HS.out.2.1.2 HB5.out.2.2.1 HS.out.2.2.2) (by omega) (by intro r hr; simp only [List.mem_cons, List.not_mem_nil, or_false] at hr; rcases hr with rfl | rfl; exact HS.out.2.1.1; exact HS.out.2.2.1)
            go_wp2_with fail
            refine Calls.mono K.out ?_
            rintro e u10 ⟨aq, nq, cq, rfl, hi, hb⟩
            replace hb : Below u1.heap.size u1 u10 := (al1 u1 _).trans (hb.mono (al1 u1 _).size)
            rw [parts1] at hi
            have HB5x : Hid (IsR u10 ax nx cx (inss li rows.flatten) ∧ IsR u10 ay ny cy (inss li (rows.take 0).flatten) ∧ IsR u10 az nz cz (inss li (rows.drop 0).flatten) ∧ IsQ u10 at2 tn ct (rows.reverse) ∧ Below w.heap.size w u10 ∧ IsR u10 aq nq cq (inss li rows.flatten)) := ⟨HB5.out.1.below hb, HB5.out.2.1.below hb, HB5.out.2.2.1.below hb, HB5.out.2.2.2.1.below hb, HB5.out.2.2.2.2.trans (hb.mono HB5.out.2.2.2.2.size), hi⟩
            clear hi hb K HB5
            have K : Hid _ := same_any aq nq cq _ ax nx cx _ u10 HB5x.out.2.2.2.2.2 HS.out.1.2 HB5x.out.1 HS.out.1.2
            go_wp2_with fail
            refine Calls.mono K.out ?_
            rintro e u11 ⟨he, hb⟩
            have he2 : e = .returned (.bool true) := by rw [he]; simp
            clear he
            subst he2
            have HB6 : Hid (IsR u11 ax nx cx (inss li rows.flatten) ∧ IsR u11 ay ny cy (inss li (rows.take 0).flatten) ∧ IsR u11 az nz cz (inss li (rows.drop 0).flatten) ∧ IsQ u11 at2 tn ct (rows.reverse) ∧ Below w.heap.size w u11) := ⟨HB5x.out.1.below hb, HB5x.out.2.1.below hb, HB5x.out.2.2.1.below hb, HB5x.out.2.2.2.1.below hb, HB5x.out.2.2.2.2.1.trans (hb.mono HB5x.out.2.2.2.2.1.size)⟩
            clear hb K HB5x
            have K : Hid _ := items_q HB6.out.2.2.2.1 (by omega) (fun r hr => HB.out.1 r (List.mem_reverse.1 hr))
            go_wp2_with fail
            refine Calls.mono K.out ?_
            rintro e u12 ⟨aq, nq, cq, rfl, hi, hb⟩
            rw [parts2] at hi
            have HB6x : Hid (IsR u12 ax nx cx (inss li rows.flatten) ∧ IsR u12 ay ny cy (inss li (rows.take 0).flatten) ∧ IsR u12 az nz cz (inss li (rows.drop 0).flatten) ∧ IsQ u12 at2 tn ct (rows.reverse) ∧ Below w.heap.size w u12 ∧ IsR u12 aq nq cq (inss li rows.flatten)) := ⟨HB6.out.1.below hb, HB6.out.2.1.below hb, HB6.out.2.2.1.below hb, HB6.out.2.2.2.1.below hb, HB6.out.2.2.2.2.trans (hb.mono HB6.out.2.2.2.2.size), hi⟩
            clear hi hb K HB6
            have K : Hid _ := same_any aq nq cq _ ax nx cx _ u12 HB6x.out.2.2.2.2.2 HS.out.1.2 HB6x.out.1 HS.out.1.2
            go_wp2_with fail
            refine Calls.mono K.out ?_
            rintro e u13 ⟨he, hb⟩
            have he2 : e = .returned (.bool true) := by rw [he]; simp
            clear he
            subst he2
            have HB7 : Hid (IsR u13 ax nx cx (inss li rows.flatten) ∧ IsR u13 ay ny cy (inss li (rows.take 0).flatten) ∧ IsR u13 az nz cz (inss li (rows.drop 0).flatten) ∧ IsQ u13 at2 tn ct (rows.reverse) ∧ Below w.heap.size w u13) := ⟨HB6x.out.1.below hb, HB6x.out.2.1.below hb, HB6x.out.2.2.1.below hb, HB6x.out.2.2.2.1.below hb, HB6x.out.2.2.2.2.1.trans (hb.mono HB6x.out.2.2.2.2.1.size)⟩
            clear hb K HB6x
            have K : Hid _ := items_q (isQ3 u13 HB7.out.1 HS.out.1.2 HB7.out.1 HS.out.1.2 HB7.out.2.1 HS.out.2.1.2) (by omega) (by intro r hr; simp only [List.mem_cons, List.not_mem_nil, or_false] at hr; rcases hr with rfl | rfl | rfl; exact HS.out.1.1; exact HS.out.1.1; exact HS.out.2.1.1)
            go_wp2_with fail
            refine Calls.mono K.out ?_
            rintro e u14 ⟨aq, nq, cq, rfl, hi, hb⟩
            replace hb : Below u13.heap.size u13 u14 := (al1 u13 _).trans (hb.mono (al1 u13 _).size)
            rw [parts3] at hi
            have HB7x : Hid (IsR u14 ax nx cx (inss li rows.flatten) ∧ IsR u14 ay ny cy (inss li (rows.take 0).flatten) ∧ IsR u14 az nz cz (inss li (rows.drop 0).flatten) ∧ IsQ u14 at2 tn ct (rows.reverse) ∧ Below w.heap.size w u14 ∧ IsR u14 aq nq cq (inss li rows.flatten)) := ⟨HB7.out.1.below hb, HB7.out.2.1.below hb, HB7.out.2.2.1.below hb, HB7.out.2.2.2.1.below hb, HB7.out.2.2.2.2.trans (hb.mono HB7.out.2.2.2.2.size), hi⟩
            clear hi hb K HB7
            have K : Hid _ := same_any aq nq cq _ ax nx cx _ u14 HB7x.out.2.2.2.2.2 HS.out.1.2 HB7x.out.1 HS.out.1.2
            go_wp2_with fail
            refine Calls.mono K.out ?_
            rintro e u15 ⟨he, hb⟩
            have he2 : e = .returned (.bool true) := by rw [he]; simp
            clear he
            subst he2
            have HB8 : Hid (IsR u15 ax nx cx (inss li rows.flatten) ∧ IsR u15 ay ny cy (inss li (rows.take 0).flatten) ∧ IsR u15 az nz cz (inss li (rows.drop 0).flatten) ∧ IsQ u15 at2 tn ct (rows.reverse) ∧ Below w.heap.size w u15) := ⟨HB7x.out.1.below hb, HB7x.out.2.1.below hb, HB7x.out.2.2.1.below hb, HB7x.out.2.2.2.1.below hb, HB7x.out.2.2.2.2.1.trans (hb.mono HB7x.out.2.2.2.2.1.size)⟩
            clear hb K HB7x
            go_wp2_with fail
            go_ret
            exact ⟨rfl, HB8.out.2.2.2.2⟩
          · obtain rfl : z = (r : Int) := by omega
            omega

set_option maxRecDepth 100000 in
theorem kmergeParts_lifted (os : Os) (started : os.Started) (H : Type) (enc : TypeId × Value → H) :
    ReturnsInHanded {} Try.checked os 5 .any (Rows.kmergePartsSpec.pre6 enc Try.prog Try.f5 Rows.kmergePartsRow.domain false) (Rows.kmergePartsSpec.post enc Try.prog Try.f5 false true false false) := by
  refine returnsInHanded_of_change (C := Try.checked) own started (by kernel_rfl) Try.func5
    (ChangeSpec.witness6 (enc := enc) (C := Try.checked) false ⟨#[], #[.slice none 0 0, .int .i64 0], []⟩ 8 (by kernel_rfl) (by kernel_rfl) (by kernel_rfl) (by kernel_rfl)) ?_
  intro W base args ds gs before hval0 hW hcnd _
  have hval : ∀ (j : Nat) t v, Try.f5.params[j]? = some t → args[j]? = some v → Value.okWide Try.prog W .any base t v := hval0
  have hW' := hW
  obtain ⟨p, q, hA0, hV, rfl, hfz, hnd⟩ := hW
  have hA : DataW.TrodAll enc Try.prog W 0 (fun _ => true) true Try.f5.params.toList args.toList ds p := hA0
  rw [Try.params5] at hA hval
  obtain ⟨v0, vs0, d0, ds0, p0, q0, hargs, rfl, rfl, h0, r0⟩ := trodAll_cons hA
  obtain ⟨v1, vs1, d1, ds1, p1, q1, rfl, rfl, rfl, h1, r1⟩ := trodAll_cons r0
  obtain ⟨rfl, rfl, rfl⟩ := trodAll_nil r1
  obtain rfl : args = #[v0, v1] := by cases args; simp_all
  obtain ⟨rfl, rfl⟩ := trodVars_none hV
  obtain ⟨a0, len0, cap0, rfl⟩ := okWide_slice Try.underlying22 (hval 0 22 v0 rfl rfl)
  have k0 := h0
  have lt0 : ∀ x ∈ p0, x.block < W.heap.size := by obtain ⟨m, hm⟩ := k0; exact DataW.trod_lt m _ _ _ hm
  obtain ⟨vl0, w0⟩ : ∃ rows, IsQ W a0 len0 cap0 rows := by obtain ⟨fuel, hf⟩ := h0; exact isQ_of hf
  obtain ⟨s1, rfl, rfl, rfl, w1⟩ := open_int Try.underlying3 (hval 1 3 v1 rfl rfl) h1
  clear hA0 hval0
  refine (kmergeParts_walk a0 len0 cap0 vl0 w0 s1 w1 rfl).mono fun e W' ⟨he, hb⟩ => ?_
  subst he
  exact ⟨_, rfl, _, _, _, [], _, [], hW', trodAll_mk1 (shut_bool Try.underlying4 _), (trodAll_cons_mk (Below.trod laidOut (by kernel_rfl) (of_decide_eq_true (by kernel_rfl)) k0 hb lt0) (trodAll_cons_mk (shut_int Try.underlying3 w1) trodAll_mk0)), rfl, hb.frame _, fun h => by cases h⟩

theorem kmergeParts_holds : Rows.KmergePartsSaid :=
  OpenClaim.holds_of_wide 5 Try.f5 rfl rfl rfl rfl rfl rfl rfl ⟨rfl, rfl, rfl, rfl, rfl⟩ rfl rfl rfl rfl rfl (by kernel_rfl) Try.func5 (by kernel_rfl)
    (of_decide_eq_true (by kernel_rfl)) (by unfold Func.isWrapper; first | (rw [if_pos (by decide +kernel)]; kernel_rfl) | (rw [if_neg (by decide +kernel)]; exact ⟨rfl, rfl⟩))
    (fun os started H enc _ => kmergeParts_lifted os started H enc)
#print axioms kmergeParts_holds
end Go.Proofs.Ytkojbpifcflgfaa

