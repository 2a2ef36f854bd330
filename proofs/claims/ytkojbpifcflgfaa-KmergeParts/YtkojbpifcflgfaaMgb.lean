/- Many rows as one (items): the iterator. Conditions: how the rows lie; sizes. -/
import Derived.Test.YtkojbpifcflgfaaMhb
import Derived.RangeFuncBound
import Derived.RangeFuncLeaves
import Derived.Shelf.Abstract
import Derived.Shelf.RegionOpen
import Derived.OwnWalkIn
import Derived.TacticsInMore
import Derived.LoopNIn
import Derived.LoopIn
import Derived.Sort.LoopGhostIn
import Derived.Sort.QuietIn
namespace Go.Proofs.Ytkojbpifcflgfaa.B
open Go.RowKit Go.Shelf
open Go.Sort (SWO)
attribute [local go_sem] Oper.semAt_some
variable {E : Type} [Inhabited E]

/-- How far the pushing is. -/
def P1 (k : Ks E) (W : World) (rows : List (List E)) (i : Nat) (wr : World) : Prop :=
  ∃ v d L, Hd k W.heap.size v d wr ∧ Hp k.ltr d.size d ∧ RsL k (rows.take i) L ∧ (cont d).Perm L ∧ (∀ r ∈ d.toList, W.heap.size ≤ r.b ∧ r.b < wr.heap.size) ∧ d.size ≤ i ∧ Below W.heap.size W wr
theorem p1_start {k : Ks E} {W : World} {rows : List (List E)} (hw : Below k.n0 k.w0 W) (hn : k.n0 ≤ W.heap.size) : P1 k W rows 0 (W.alloc (.cells #[.slice none 0 0, fnv k] 59)) := by
  have hb : Below W.heap.size W (W.alloc (.cells #[.slice none 0 0, fnv k] 59)) := (Below.refl _ _).alloc (Nat.le_refl _) _
  exact ⟨.slice none 0 0, #[], [], ⟨World.alloc_heap_new _ _, World.ownsRow_nil _ _ _ _, fun i hi => by simp at hi, Nat.zero_le _, hn, hw.trans (hb.mono hn)⟩, fun k _ h => by simp at h, rfl, List.Perm.refl _, fun r hr => by simp at hr, Nat.zero_le _, hb⟩
theorem p1_skip {k : Ks E} {W wr : World} {rows : List (List E)} {i : Nat} (h : P1 k W rows i wr) (hi : i < rows.length) (h0 : rows.getD i [] = []) : P1 k W rows (i + 1) wr := by
  obtain ⟨v, d, L, a1, a2, a3, a4, a5, a6, a7⟩ := h
  refine ⟨v, d, L, a1, a2, ?_, a4, a5, by omega, a7⟩
  rw [List.take_succ_eq_append_getElem hi]
  have e : rows.getD i [] = rows[i] := by simp [List.getD, hi]
  rw [e] at h0
  rw [h0]; exact a3.skip
theorem p1_push {k : Ks E} {W wr w1 w2 : World} {rows : List (List E)} {i : Nat} {v' : Value} {d d' : Array (Row E)} {L : List (List E)} {r : Row E} (a3 : RsL k (rows.take i) L) (a4 : (cont d).Perm L) (a5 : ∀ r ∈ d.toList, W.heap.size ≤ r.b ∧ r.b < wr.heap.size) (a6 : d.size ≤ i) (a7 : Below W.heap.size W wr)
    (hi : i < rows.length) (h0 : rows.getD i [] ≠ []) (hr : Rs k (rows.getD i []) r.xs) (hl : r.xs.length ≤ (rows.getD i []).length) (hb : wr.heap.size ≤ r.b) (hw : IsW k r w1) (hb1 : Below wr.heap.size wr w1)
    (hd : Hd k W.heap.size v' d' w2) (hp : Hp k.ltr d'.size d') (hpm : d'.toList.Perm (d.toList ++ [r])) (hb2 : Below W.heap.size w1 w2) : P1 k W rows (i + 1) w2 := by
  have hle : W.heap.size ≤ wr.heap.size := a7.size
  refine ⟨v', d', L ++ [r.xs], hd, hp, ?_, ?_, fun q hq => ?_, ?_, (a7.trans (hb1.mono hle)).trans hb2⟩
  · rw [List.take_succ_eq_append_getElem hi]
    have e : rows.getD i [] = rows[i] := by simp [List.getD, hi]
    rw [e] at h0 hr hl
    exact a3.snoc h0 hr hl
  · have h1 := hpm.map Row.xs
    rw [List.map_append] at h1
    exact h1.trans (List.Perm.append a4 (List.Perm.refl _))
  · have hs := hb2.size
    have hs1 := hb1.size
    rcases List.mem_append.1 (hpm.mem_iff.1 hq) with e | e
    · have := a5 q e; omega
    · rw [List.mem_singleton.1 e]
      obtain ⟨cur, c1, _⟩ := hw.rd
      have := (Array.getElem?_eq_some_iff.1 c1).1
      omega
  · have := hpm.length_eq
    simp at this
    omega

/-- What is told lies as told. -/
def encP (k : Ks E) (p : E × Nat) : Array Value := #[k.enc p.1, .int .i64 (p.2 : Int)]

set_option maxRecDepth 100000 in
set_option maxHeartbeats 8000000 in
theorem merged_in {k : Ks E} (hk : Ok k) (ht : Tot k) (n b1 b2 : Nat) (aL : Option Addr) (nL cL : Nat) (rows : List (List E)) (w : World)
    (h1 : w.cell? ⟨b1, 0, none⟩ = some (fnv k)) (h2 : w.cell? ⟨b2, 0, none⟩ = some (.slice aL nL cL)) (hb1 : b1 < w.heap.size) (hb2 : b2 < w.heap.size)
    (hw : Below k.n0 k.w0 w) (hn0 : k.n0 ≤ w.heap.size) (hrows : ∀ U, Below k.n0 k.w0 U → IsSS k U aL nL cL rows) (hnL : nL ≤ 1000) (htot : tot rows ≤ 1000000) (hlen : ∀ i, (rows.getD i []).length ≤ 1000000) :
    SeqW n Try.prog 32 #[.pointer (some ⟨b1, 0, none⟩), .pointer (some ⟨b2, 0, none⟩)] (encP k) (fun j => j < k.n0 ∨ j = b1) (fun xs => ∃ L, RsL k rows L ∧ Ms k L xs) (fun pre => pre.length ≤ tot rows ∧ ∀ p ∈ pre, ∃ r ∈ rows, p.1 ∈ r) w := by
  intro l J W hW hJ hY hJ0
  obtain ⟨gc, hgc⟩ : ∃ gc, gc = k.gc := ⟨_, rfl⟩
  have hfv : fnv k = .func (.func gc) #[] #[] := by rw [hgc]; rfl
  have eg := hk.enters
  rw [← hgc] at eg
  have hc1 : W.cell? ⟨b1, 0, none⟩ = some (.func (.func gc) #[] #[]) := by rw [← hfv]; exact (hW.cell (p := ⟨b1, 0, none⟩) hb1).trans h1
  have hc2 : W.cell? ⟨b2, 0, none⟩ = some (.slice aL nL cL) := (hW.cell (p := ⟨b2, 0, none⟩) hb2).trans h2
  have hWs := hW.size
  have hlt1 : b1 < W.heap.size := by omega
  have hlt2 : b2 < W.heap.size := by omega
  have HY := (show Hid _ from hY)
  have HJ : Hid _ := hJ
  have HJ0 : Hid (∀ V, Below W.heap.size W V → J V.heap.size [] V) := hJ0
  have HW0 : Hid (Below k.n0 k.w0 W ∧ k.n0 ≤ W.heap.size) := ⟨hw.trans (hW.mono hn0), by show _ ≤ _; omega⟩
  have HP0 : Hid (P1 k W rows 0 (W.alloc (.cells #[.slice none 0 0, .func (.func gc) #[] #[]] 59))) := by rw [← hfv]; exact p1_start HW0.out.1 HW0.out.2
  have HR : Hid (∀ U, Below k.n0 k.w0 U → IsSS k U aL nL cL rows) := hrows
  have HL : Hid (tot rows ≤ 1000000 ∧ ∀ i, (rows.getD i []).length ≤ 1000000) := ⟨htot, hlen⟩
  have HF : Hid (fnv k = .func (.func gc) #[] #[] ∧ gc = k.gc) := ⟨hfv, hgc⟩
  have HK : Hid (Ok k ∧ Tot k) := ⟨hk, ht⟩
  clear hk ht h1 h2 hw hn0 hrows hJ hY hJ0 hfv hgc htot hlen hW
  refine callsIn_of_wp Try.func32 rfl trivial ?_ rfl
  simp only [Try.ntmps32, List.size_toArray, List.length_cons, List.length_nil, Nat.reduceAdd, Nat.reduceSub, Array.replicate_succ, Array.replicate_zero, List.push_toArray, List.append_toArray, List.nil_append, List.cons_append]
  gi_wp2_with fail
  gi_loopg [6, 14] nL (fun kx _ s14 wr => ∃ i : Nat, s14 = .int .i64 i ∧ i ≤ nL ∧ nL - i ≤ kx ∧ Hid (P1 k W rows i wr))
  case atStart => exact ⟨0, rfl, Nat.zero_le _, Nat.le_refl _, HP0.out⟩
  case round =>
    obtain ⟨i, rfl, hi, hkx, HP⟩ := hrel
    have hi0 := HR.out W HW0.out.1
    by_cases hlt : i < nL
    · obtain ⟨v, d, L, a1, a2, a3, a4, a5, a6, a7⟩ := HP.out
      have hiz : (i : Int) < (nL : Int) := by omega
      have hbel : Below k.n0 k.w0 wr := a1.bel
      obtain ⟨b, off, ai, ni, ci, rfl, hcell, hrow⟩ := (HR.out wr hbel).rd i hlt
      have hir : i < rows.length := by rw [hi0.len]; exact hlt
      have c1r : wr.cell? ⟨b1, 0, none⟩ = some (.func (.func gc) #[] #[]) := (a7.cell (p := ⟨b1, 0, none⟩) hlt1).trans hc1
      have hni : (rows.getD i []).length = ni := hrow.len
      have hni2 : ni ≤ 1000000 := by rw [← hni]; exact HL.out.2 i
      have HA : Hid _ := And.intro a3 (And.intro a4 (And.intro a5 (And.intro a6 (And.intro a7 (And.intro a2 a1)))))
      by_cases h0 : ni = 0
      · have HN : Hid (P1 k W rows (i + 1) wr) := p1_skip HP.out hir (List.eq_nil_of_length_eq_zero (by rw [hni]; exact h0))
        subst h0
        clear a1 a2 a3 a4 a5 a6 a7 hrow hni hbel hi0
        gi_wp2_with fail
        gi_roundg (nL - (i + 1))
        case measure => omega
        case rel => exact ⟨i + 1, by go_num, by omega, Nat.le_refl _, HN.out⟩
      · have hn1 : 0 < (ni : Int) := by omega
        have HRi : Hid _ := rising_any HK.out.1 HK.out.2 ai ni ci (rows.getD i []) wr hrow (by omega) hni2 hbel (by have := a7.size; have := HW0.out.2; omega)
        rw [HF.out.1] at HRi
        have Hne : Hid (rows.getD i [] ≠ [] ∧ i < rows.length) := ⟨fun e => by rw [e] at hni; simp at hni; omega, hir⟩
        clear a1 a2 a3 a4 a5 a6 a7 hrow hni hbel hi0 hir
        gi_wp2_with fail
        refine ⟨trivial, (fun h => (by cases h)), ?_⟩
        refine (callsIn_wide.2 HRi.out).mono ?_
        rintro e w1 ⟨r, he, r1, r2, r3, r4, r5⟩
        obtain ⟨x, hx⟩ : ∃ x, x = encR r := ⟨_, rfl⟩
        rw [← hx] at he
        subst he
        have hdg := HA.out.2.2.2.2.2.2.grow r5 (by have := HA.out.2.2.2.2.1.size; have := HW0.out.2; omega)
        have HPu : Hid _ := hpush_any HK.out.1 hdg HA.out.2.2.2.2.2.1 r r1 (by have := HA.out.2.2.2.1; omega)
        rw [← hx] at HPu
        have HB : Hid _ := And.intro r1 (And.intro r2 (And.intro r3 (And.intro r4 r5)))
        clear r1 r2 r3 r4 r5 hx hdg HRi
        gi_wp2_with fail
        refine ⟨trivial, (fun h => (by cases h)), ?_⟩
        refine (callsIn_wide.2 HPu.out).mono ?_
        rintro e w2 ⟨rfl, v2, d2, p1, p2, p3, p4⟩
        have HN : Hid (P1 k W rows (i + 1) w2) := p1_push HA.out.1 HA.out.2.1 HA.out.2.2.1 HA.out.2.2.2.1 HA.out.2.2.2.2.1 Hne.out.2 Hne.out.1 HB.out.2.1 HB.out.2.2.1 HB.out.2.2.2.1 HB.out.1 HB.out.2.2.2.2 p1 p2 p3 p4
        clear p1 p2 p3 p4 HPu
        gi_wp2_with fail
        gi_roundg (nL - (i + 1))
        case measure => omega
        case rel => exact ⟨i + 1, by go_num, by omega, Nat.le_refl _, HN.out⟩
    · have e : i = nL := by omega
      have hiz : ¬ (i : Int) < (nL : Int) := by omega
      subst e
      obtain ⟨v, d, L, a1, a2, a3, a4, a5, a6, a7⟩ := HP.out
      have htk : rows.take i = rows := List.take_of_length_le (by rw [hi0.len]; exact Nat.le_refl _)
      rw [htk] at a3
      have H2 : Hid (RsL k rows L ∧ Hs k W.heap.size wr.heap.size v d wr ∧ Out k L [] (cont d) ∧ tot (cont d) ≤ tot rows ∧ W.heap.size < wr.heap.size ∧ J wr.heap.size [] wr ∧ Below W.heap.size W wr) :=
        ⟨a3, ⟨a1, a2, fun j e => by obtain ⟨_, cur, c⟩ := a1.own_tag j e; exact (Array.getElem?_eq_some_iff.1 c).1, a5, a1.hlt, Nat.le_refl _⟩, Out.start a3.rise a4, by rw [tot_perm a4]; exact a3.tot, a1.hlt, HJ0.out wr a7, a7⟩
      have c1r : wr.cell? ⟨b1, 0, none⟩ = some (.func (.func gc) #[] #[]) := (a7.cell (p := ⟨b1, 0, none⟩) hlt1).trans hc1
      obtain ⟨D, hD⟩ : ∃ D, D = wr.heap.size := ⟨_, rfl⟩
      rw [← hD] at H2
      clear hi hkx hi0 a1 a2 a3 a4 a5 a6 a7 htk hD HP HP0
      gi_wp2_with fail
      gi_loopg [7, 8] (tot rows) (fun kx _ _ wr => ∃ (v : Value) (d : Array (Row E)) (pre : List (E × Nat)), Hid (J D pre wr) ∧ Hid (Hs k W.heap.size D v d wr ∧ Out k L pre (cont d) ∧ pre.length + tot (cont d) ≤ tot rows) ∧ tot (cont d) ≤ kx ∧ wr.cell? ⟨b1, 0, none⟩ = some (.func (.func gc) #[] #[]))
      case atStart => exact ⟨v, d, [], H2.out.2.2.2.2.2.1, ⟨H2.out.2.1, H2.out.2.2.1, by simpa using H2.out.2.2.2.1⟩, H2.out.2.2.2.1, c1r⟩
      case round =>
        obtain ⟨v2, d2, pre, HJw, HS, hkx, c1w⟩ := hrel
        have HLn : Hid _ := len_any HS.out.1.hd
        by_cases h0 : d2.size = 0
        · rw [h0] at HLn
          have HE : Hid (∃ L, RsL k rows L ∧ Ms k L pre) := by
            have := HS.out.2.1
            rw [cont_nil h0] at this
            exact ⟨L, H2.out.1, this.done⟩
          gi_wp2_with fail
          refine ⟨trivial, (fun h => (by cases h)), ?_⟩
          refine (callsIn_wide.2 HLn.out).mono ?_
          rintro e w1 ⟨rfl, e1⟩
          rw [e1]
          clear e1 w1 HLn
          gi_wp2_with fail
          go_end0
          exact ⟨⟨_, rfl⟩, D, pre, HE.out, HJw.out, by have := H2.out.2.2.2.2.1; omega, HS.out.1.le⟩
        · have hz0 : 0 < d2.size := by omega
          have HT : Hid _ := take_any HK.out.1 HS.out.1.hd HS.out.1.hp hz0
          have hpos := HS.out.1.pos hz0
          have HM : Hid (d2[0]!.xs ∈ cont d2 ∧ d2[0]!.hd ∈ d2[0]!.xs) := head_mem hz0 hpos
          have HG : Hid (∀ r ∈ cont d2, ∀ x ∈ r, k.lt x d2[0]!.hd = false) := top_least HK.out.1.swo HS.out.2.1.rise HS.out.1.hp
          have HTk : Hid (∀ d', Left d2 d' → TakeS (cont d2) (cont d') d2[0]!.hd) := fun d' h => take_step hz0 hpos h
          have HN : Hid (∀ (v' : Value) d' w', v'.ownBlock = v2.ownBlock → Hd k W.heap.size v' d' w' → Hp k.ltr d'.size d' → Left d2 d' → Kw W.heap.size v2.ownBlock wr w' → Hs k W.heap.size D v' d' w' ∧ Kept (fun j => j < W.heap.size ∨ D ≤ j) wr w') := fun v' d' w' q1 q2 q3 q4 q5 => HS.out.1.next hz0 q1 q2 q3 q4 q5
          obtain ⟨one, hone⟩ : ∃ one, one = d2[0]!.hd := ⟨_, rfl⟩
          rw [← hone] at HT HM HG HTk
          obtain ⟨nd, hnd⟩ : ∃ nd, nd = d2.size := ⟨_, rfl⟩
          rw [← hnd] at HLn
          have hnz : (0 : Int) < (nd : Int) := by omega
          have hnf : nd ≤ 1000000 := by rw [hnd]; exact HS.out.1.hd.few
          obtain ⟨x1, hx1⟩ : ∃ x1, x1 = k.enc one := ⟨_, rfl⟩
          rw [← hx1] at HT
          have HX : Hid (x1 = k.enc one) := hx1
          have hsp : Shp x1 := by rw [hx1]; exact HK.out.1.shp _
          clear h0 hz0 hpos hone hnd hx1
          obtain ⟨a5, n5, c5, rfl⟩ := hsp
          gi_wp2_with fail
          refine ⟨trivial, (fun h => (by cases h)), ?_⟩
          refine (callsIn_wide.2 HLn.out).mono ?_
          rintro e w1 ⟨rfl, e1⟩
          rw [e1]
          clear e1 w1 HLn
          gi_wp2_with fail
          refine ⟨trivial, (fun h => (by cases h)), ?_⟩
          refine (callsIn_wide.2 HT.out).mono ?_
          rintro e w3 ⟨rfl, v3, d3, q1, q2, q3, q4, q5⟩
          have hnx := HN.out v3 d3 w3 q1 q2 q3 q4 q5
          have c1w3 : w3.cell? ⟨b1, 0, none⟩ = some (.func (.func gc) #[] #[]) := by
            rw [← c1w]
            exact World.cell?_of_block (q5.block b1 (by omega) (fun e => by have := HS.out.1.hd.max b1 e; omega))
          have H3 : Hid (J D pre w3 ∧ Hs k W.heap.size D v3 d3 w3 ∧ Inn k (cont d2) one 1 (cont d3) ∧ 1 + tot (cont d3) ≤ tot (cont d2)) :=
            ⟨HJ.out D pre wr w3 HJw.out HS.out.1.le (by have := H2.out.2.2.2.2.1; omega) hnx.2, hnx.1, (Inn.start HS.out.2.1.rise HG.out).step HK.out.2 HK.out.1.swo (HK.out.2.refl one) (HTk.out d3 q4), by have := tot_take (HTk.out d3 q4); omega⟩
          clear q1 q2 q3 q4 q5 hnx HT HN c1w HTk
          gi_wp2_with fail
          gi_loopg [8] (tot rows) (fun kx3 s8 wr3 => ∃ (v : Value) (d : Array (Row E)) (m : Nat), s8 = .int .i64 m ∧ Hid (J D pre wr3) ∧ Hid (Hs k W.heap.size D v d wr3 ∧ Inn k (cont d2) one m (cont d) ∧ m + tot (cont d) ≤ tot (cont d2) ∧ 1 ≤ m) ∧ tot (cont d) ≤ kx3 ∧ wr3.cell? ⟨b1, 0, none⟩ = some (.func (.func gc) #[] #[]) ∧ m ≤ 1000000)
          case atStart =>
            have u1 := H3.out.2.2.2
            have u2 := HS.out.2.2
            have u3 := HL.out.1
            exact ⟨v3, d3, 1, rfl, H3.out.1, ⟨H3.out.2.1, H3.out.2.2.1, u1, Nat.le_refl _⟩, by omega, c1w3, by omega⟩
          case round =>
            obtain ⟨v4, d4, m, rfl, HJ4, H4, hkx4, c14, hm4⟩ := hrel
            have HLn4 : Hid (∀ q, Calls Try.prog 35 #[.pointer (some ⟨W.heap.size, 0, none⟩)] (wr.drewN q) fun e w' => e = .returned (.int .i64 d4.size) ∧ ∃ p, w' = wr.drewN p) := fun q => (len_any (H4.out.1.hd.drewN q)).mono fun _ _ h => ⟨h.1, q, h.2⟩
            by_cases h40 : d4.size = 0
            · rw [h40] at HLn4
              gi_wp2_with fail
              refine wpIn_wide.2 ?_
              go_quiet (first | (go_at_call 35; exact HLn4.out _))
              have hgt : Hid (∀ r ∈ cont d4, ∀ x ∈ r, k.lt one x = true) := fun r hr => by rw [cont_nil h40] at hr; simp at hr
              have hdr : Kept (fun j => j < W.heap.size ∨ D ≤ j) wr (wr.drewN nq) := ⟨rfl, rfl, rfl, Nat.le_refl _, fun _ _ _ => rfl⟩
              have hlo : W.heap.size ≤ D := by have := H2.out.2.2.2.2.1; omega
              have hlenY : (pre ++ [(one, m)]).length ≤ tot rows := by
                have u1 := HS.out.2.2
                have u2 := H4.out.2.2.1
                have u3 := H4.out.2.2.2
                simp
                omega
              have HO : Hid (Out k L (pre ++ [(one, m)]) (cont d4) ∧ (pre ++ [(one, m)]).length + tot (cont d4) ≤ tot rows ∧ tot (cont d4) < tot (cont d2)) := by
                have u1 := HS.out.2.2
                have u2 := H4.out.2.2.1
                have u3 := H4.out.2.2.2
                exact ⟨HS.out.2.1.step HK.out.2 ⟨_, HM.out.1, HM.out.2⟩ H4.out.2.1 hgt.out HK.out.1.swo, by simp; omega, by omega⟩
              obtain ⟨fn, tmps, assign, body, hy, hR⟩ := HY.out D pre (one, m) (wr.drewN nq) (HJ.out D pre wr _ HJ4.out H4.out.1.le hlo hdr) H4.out.1.le hlo ⟨hlenY, fun p hp => by
                  obtain ⟨r', y1, y2⟩ := HO.out.1.sub p hp
                  obtain ⟨row, y3, y4⟩ := H2.out.1.to r' y1
                  exact ⟨row, y3, y4.sub _ y2⟩⟩
              have HRo : Hid _ := hR
              simp only [encP] at hy
              rw [← HX.out] at hy
              have hcx : ∀ V, Kept (fun j => (j < k.n0 ∨ j = b1) ∨ W.heap.size ≤ j ∧ j < D) (wr.drewN nq) V → V.cell? ⟨b1, 0, none⟩ = some (.func (.func gc) #[] #[]) := fun V hV =>
                (World.cell?_of_block (hV.block b1 (by have := H4.out.1.le; show b1 < wr.heap.size; omega) (.inl (.inr rfl)))).trans c14
              have HCx : Hid _ := hcx
              have HHs : Hid (Hs k W.heap.size D v4 d4 (wr.drewN nq)) := ⟨H4.out.1.hd.drewN nq, H4.out.1.hp, H4.out.1.lt, H4.out.1.low, H4.out.1.hD, H4.out.1.le⟩
              clear hR hcx hdr hlenY
              gi_wp2_with fail
              refine ⟨(fun h => by cases h), RoundIn.mono HRo.out ?_⟩
              clear hy
              rintro e W5 ⟨rfl, hJ5, hk5⟩
              have c15 := HCx.out W5 hk5
              have H5 : Hid (J D (pre ++ [(one, m)]) W5 ∧ Hs k W.heap.size D v4 d4 W5) := ⟨hJ5, HHs.out.yield hk5 (fun j hj => .inl hj)⟩
              clear hJ5 hk5 HRo
              gi_wp2_with fail
              gi_roundg (tot (cont d4))
              case measure => have := HO.out.2.2; omega
              case rel => exact ⟨v4, d4, pre ++ [(one, m)], H5.out.1, ⟨H5.out.2, HO.out.1, HO.out.2.1⟩, Nat.le_refl _, c15⟩
            · have hz4 : 0 < d4.size := by omega
              have HM4 : Hid (∀ q, Calls Try.prog 37 #[.pointer (some ⟨W.heap.size, 0, none⟩)] (wr.drewN q) fun e w' => e = .returned (k.enc d4[0]!.hd) ∧ ∃ p, w' = wr.drewN p) := fun q => (least_any (H4.out.1.hd.drewN q) hz4).mono fun _ _ h => ⟨h.1, q, h.2⟩
              have HC4 : Hid (∀ q, Calls Try.prog gc #[k.enc d4[0]!.hd, k.enc one] (wr.drewN q) fun e w' => e = .returned (.int .i64 (k.cf d4[0]!.hd one)) ∧ ∃ p, w' = wr.drewN p) := fun q => by
                rw [HF.out.2]
                exact (HK.out.1.cmp _ _ _ (H4.out.1.hd.drewN q).bel).mono fun _ _ ⟨h1, p, h2⟩ => ⟨h1, q + p, by rw [h2, World.drewN_drewN]⟩
              have HT4 : Hid (∀ q, Calls Try.prog 36 #[.pointer (some ⟨W.heap.size, 0, none⟩)] (wr.drewN q) fun e w' => e = .returned (k.enc d4[0]!.hd) ∧ ∃ v' d', v'.ownBlock = v4.ownBlock ∧ Hd k W.heap.size v' d' w' ∧ Hp k.ltr d'.size d' ∧ Left d4 d' ∧ Kw W.heap.size v4.ownBlock (wr.drewN q) w') := fun q => take_any HK.out.1 (H4.out.1.hd.drewN q) H4.out.1.hp hz4
              have hpos4 := H4.out.1.pos hz4
              have HTk4 : Hid (∀ d', Left d4 d' → TakeS (cont d4) (cont d') d4[0]!.hd) := fun d' h => take_step hz4 hpos4 h
              have HN4 : Hid (∀ q (v' : Value) d' w', v'.ownBlock = v4.ownBlock → Hd k W.heap.size v' d' w' → Hp k.ltr d'.size d' → Left d4 d' → Kw W.heap.size v4.ownBlock (wr.drewN q) w' → Hs k W.heap.size D v' d' w' ∧ Kept (fun j => j < W.heap.size ∨ D ≤ j) (wr.drewN q) w') := fun q v' d' w' q1 q2 q3 q4 q5 => Hs.next (w := wr.drewN q) ⟨H4.out.1.hd.drewN q, H4.out.1.hp, H4.out.1.lt, H4.out.1.low, H4.out.1.hD, H4.out.1.le⟩ hz4 q1 q2 q3 q4 q5
              have HG4 : Hid (∀ r ∈ cont d4, ∀ x ∈ r, k.lt x d4[0]!.hd = false) := top_least HK.out.1.swo H4.out.2.1.rise H4.out.1.hp
              have HM5 : Hid (d4[0]!.xs ∈ cont d4 ∧ d4[0]!.hd ∈ d4[0]!.xs) := head_mem hz4 hpos4
              obtain ⟨nd4, hnd4⟩ : ∃ nd, nd = d4.size := ⟨_, rfl⟩
              rw [← hnd4] at HLn4
              have hnz4 : (0 : Int) < (nd4 : Int) := by omega
              have hnd4' : decide ((0 : Int) < (nd4 : Int)) = true := by simpa using hnz4
              have hnd5 : 0 < nd4 := by omega
              have hnf4 : nd4 ≤ 1000000 := by rw [hnd4]; exact H4.out.1.hd.few
              obtain ⟨x4, hx4⟩ : ∃ x1, x1 = k.enc d4[0]!.hd := ⟨_, rfl⟩
              rw [← hx4] at HM4 HC4 HT4
              rw [← HX.out] at HC4
              obtain ⟨h4, hh4⟩ : ∃ h4, h4 = d4[0]!.hd := ⟨_, rfl⟩
              rw [← hh4] at HC4 HTk4 HG4 HM5
              clear h40 hz4 hpos4 hnd4 hx4 hh4
              by_cases hcf : k.cf h4 one = 0
              · rw [hcf] at HC4
                gi_wp2_with fail
                refine wpIn_wide.2 ?_
                go_quiet (first | (go_at_call 35; exact HLn4.out _) | (go_at_call 37; exact HM4.out _) | (go_at_fn gc; exact HC4.out _))
                have HTq : Hid _ := HT4.out nq
                gi_wp2_with fail
                refine ⟨trivial, (fun h => (by cases h)), ?_⟩
                refine (callsIn_wide.2 HTq.out).mono ?_
                rintro e w6 ⟨rfl, v6, d6, q1, q2, q3, q4, q5⟩
                have hnx := HN4.out nq v6 d6 w6 q1 q2 q3 q4 q5
                have hdr : Kept (fun j => j < W.heap.size ∨ D ≤ j) wr w6 := Kept.trans (y := wr.drewN nq) ⟨rfl, rfl, rfl, Nat.le_refl _, fun _ _ _ => rfl⟩ hnx.2
                have c16 : w6.cell? ⟨b1, 0, none⟩ = some (.func (.func gc) #[] #[]) := (World.cell?_of_block (hdr.block b1 (by have := H4.out.1.le; have := H2.out.2.2.2.2.1; omega) (.inl hlt1))).trans c14
                have H6 : Hid (J D pre w6 ∧ Hs k W.heap.size D v6 d6 w6 ∧ Inn k (cont d2) one (m + 1) (cont d6) ∧ tot (cont d6) + 1 = tot (cont d4)) :=
                  ⟨HJ.out D pre wr w6 HJ4.out H4.out.1.le (by have := H2.out.2.2.2.2.1; omega) hdr, hnx.1, H4.out.2.1.step HK.out.2 HK.out.1.swo hcf (HTk4.out d6 q4), tot_take (HTk4.out d6 q4)⟩
                clear q1 q2 q3 q4 q5 hnx hdr HTq
                gi_wp2_with fail
                gi_roundg (tot (cont d6))
                case measure => have := H6.out.2.2.2; omega
                case rel =>
                  have u1 := H6.out.2.2.2
                  have u2 := H4.out.2.2.1
                  have u3 := HS.out.2.2
                  have u4 := HL.out.1
                  exact ⟨v6, d6, m + 1, by go_num, H6.out.1, ⟨H6.out.2.1, H6.out.2.2.1, by omega, by omega⟩, Nat.le_refl _, c16, by omega⟩
              · have hcb : (k.cf h4 one == 0) = false := by simpa using hcf
                have hgt : Hid (∀ r ∈ cont d4, ∀ x ∈ r, k.lt one x = true) := fun r hr x hx => by
                  have g1 : k.lt one h4 = true := HK.out.2.tot _ _ (H4.out.2.1.ge _ HM5.out.1 _ HM5.out.2) hcf
                  have g2 := HG4.out r hr x hx
                  cases g3 : k.lt one x with
                  | true => rfl
                  | false => rw [HK.out.1.swo.ntrans _ _ _ g3 g2] at g1; cases g1
                obtain ⟨cv, hcv⟩ : ∃ cv, cv = k.cf h4 one := ⟨_, rfl⟩
                rw [← hcv] at HC4 hcb hcf
                clear hcv
                gi_wp2_with fail
                refine wpIn_wide.2 ?_
                go_quiet (first | (go_at_call 35; exact HLn4.out _) | (go_at_call 37; exact HM4.out _) | (go_at_fn gc; exact HC4.out _))
                gi_wp2_with fail
                have hdr : Kept (fun j => j < W.heap.size ∨ D ≤ j) wr (wr.drewN nq) := ⟨rfl, rfl, rfl, Nat.le_refl _, fun _ _ _ => rfl⟩
                have hlo : W.heap.size ≤ D := by have := H2.out.2.2.2.2.1; omega
                have hlenY : (pre ++ [(one, m)]).length ≤ tot rows := by
                  have u1 := HS.out.2.2
                  have u2 := H4.out.2.2.1
                  have u3 := H4.out.2.2.2
                  simp
                  omega
                have HO : Hid (Out k L (pre ++ [(one, m)]) (cont d4) ∧ (pre ++ [(one, m)]).length + tot (cont d4) ≤ tot rows ∧ tot (cont d4) < tot (cont d2)) := by
                  have u1 := HS.out.2.2
                  have u2 := H4.out.2.2.1
                  have u3 := H4.out.2.2.2
                  exact ⟨HS.out.2.1.step HK.out.2 ⟨_, HM.out.1, HM.out.2⟩ H4.out.2.1 hgt.out HK.out.1.swo, by simp; omega, by omega⟩
                obtain ⟨fn, tmps, assign, body, hy, hR⟩ := HY.out D pre (one, m) (wr.drewN nq) (HJ.out D pre wr _ HJ4.out H4.out.1.le hlo hdr) H4.out.1.le hlo ⟨hlenY, fun p hp => by
                  obtain ⟨r', y1, y2⟩ := HO.out.1.sub p hp
                  obtain ⟨row, y3, y4⟩ := H2.out.1.to r' y1
                  exact ⟨row, y3, y4.sub _ y2⟩⟩
                have HRo : Hid _ := hR
                simp only [encP] at hy
                rw [← HX.out] at hy
                have hcx : ∀ V, Kept (fun j => (j < k.n0 ∨ j = b1) ∨ W.heap.size ≤ j ∧ j < D) (wr.drewN nq) V → V.cell? ⟨b1, 0, none⟩ = some (.func (.func gc) #[] #[]) := fun V hV =>
                  (World.cell?_of_block (hV.block b1 (by have := H4.out.1.le; show b1 < wr.heap.size; omega) (.inl (.inr rfl)))).trans c14
                have HCx : Hid _ := hcx
                have HHs : Hid (Hs k W.heap.size D v4 d4 (wr.drewN nq)) := ⟨H4.out.1.hd.drewN nq, H4.out.1.hp, H4.out.1.lt, H4.out.1.low, H4.out.1.hD, H4.out.1.le⟩
                clear hR hcx hdr hlenY
                gi_wp2_with fail
                refine ⟨(fun h => by cases h), RoundIn.mono HRo.out ?_⟩
                clear hy
                rintro e W5 ⟨rfl, hJ5, hk5⟩
                have c15 := HCx.out W5 hk5
                have H5 : Hid (J D (pre ++ [(one, m)]) W5 ∧ Hs k W.heap.size D v4 d4 W5) := ⟨hJ5, HHs.out.yield hk5 (fun j hj => .inl hj)⟩
                clear hJ5 hk5 HRo
                gi_wp2_with fail
                gi_roundg (tot (cont d4))
                case measure => have := HO.out.2.2; omega
                case rel => exact ⟨v4, d4, pre ++ [(one, m)], H5.out.1, ⟨H5.out.2, HO.out.1, HO.out.2.1⟩, Nat.le_refl _, c15⟩
end Go.Proofs.Ytkojbpifcflgfaa.B
