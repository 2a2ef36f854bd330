/- The library's CompactFunc over a sorted row (numbers): the walk. Conditions: how the row lies. -/
import Derived.Test.YtkojbpifcflgfaaCfi
namespace Go.Proofs.Ytkojbpifcflgfaa.I
open Go.RowKit Go.Shelf
open Go.Sort (SWO)
variable {E : Type} [Inhabited E]

/-- What CompactFunc answers. -/
def Cmpd (k : Ks E) (base g n cap : Nat) (d : List E) (w : World) (e : Ending) (w' : World) : Prop :=
  ∃ m ys, m ≤ n ∧ e = .returned (.slice (some ⟨g, 0, none⟩) m cap) ∧ w'.ownsRow base 3 1 (.slice (some ⟨g, 0, none⟩) m cap) m (ys.map k.enc) ∧ Cpt k d n ys ∧ Below g w w'
theorem cmpd_all {k : Ks E} {base g n cap : Nat} {d : List E} {w : World} (h : w.ownsRow base 3 1 (.slice (some ⟨g, 0, none⟩) n cap) n (d.map k.enc)) (hc : Cpt k d n d) (q : Nat) : Cmpd k base g n cap d w (.returned (.slice (some ⟨g, 0, none⟩) n cap)) (w.drewN q) :=
  ⟨n, d, Nat.le_refl _, rfl, h, hc, below_dr' g w q⟩
theorem zeroET : ∀ w, (zeroValue 3).run Try.prog w = .ok (.int .i64 0) w := fun _ => by kernel_rfl
theorem cmpd_end {k : Ks E} {base g n cap q : Nat} {d : List E} {w wr : World} (h : Way k w base g n cap d n q wr) (hq : q < n) :
    ∃ ys, ∀ ty, (Builtin.clear_ #[30] ty #[.slice (some ⟨g, q, none⟩) (n - q) (cap - q)]).run Try.prog wr = .ok (.tuple #[]) (wr.setCells g q (List.replicate (n - q) (.int .i64 0))) ∧
      (wr.setCells g q (List.replicate (n - q) (.int .i64 0))).ownsRow base 3 1 (.slice (some ⟨g, 0, none⟩) q cap) q (ys.map k.enc) ∧ Cpt k d n ys ∧ Below g w (wr.setCells g q (List.replicate (n - q) (.int .i64 0))) := by
  obtain ⟨l, ys, h1, h2, h3, h4, h5, h6⟩ := h.row
  refine ⟨ys, fun ty => ⟨?_, ?_, h5, h.low.trans (setCells_below (Nat.le_refl _) _ _ _)⟩⟩
  · exact Lib.run_clear_slice wr 30 3 ty _ Try.underlying30 zeroET rfl rfl g q (n - q) (cap - q) (by omega)
      (fun j hj => by rw [cell_own h1 (show q + j < n by omega)]; rfl) (fun j hj => h1.frozenAt _)
  · have := own_pasts (List.replicate (n - q) (.int .i64 0)) wr q (Nat.le_refl _) (own_cut h1 (show q ≤ n by omega))
    rw [← List.map_take, h3] at this
    exact this

theorem Cpt.ext {k : Ks E} (ht : Tot k) (hO : SWO k.lt) {d : List E} {m : Nat} (h : Cpt k d m (d.take m)) (hm : 0 < m) (hmd : m < d.length) (hne : k.cf (d.getD m default) (d.getD (m - 1) default) ≠ 0) (hs : ∀ j, 0 < j → j < d.length → k.lt (d.getD j default) (d.getD (j - 1) default) = false) : Cpt k d (m + 1) (d.take (m + 1)) := by
  have := h.keep ht hO hmd hne (hs m hm hmd)
  rw [List.take_succ_eq_append_getElem hmd]
  have e : d.getD m default = d[m] := by simp [List.getD, hmd]
  rw [e] at this; exact this
theorem way_start {k : Ks E} (ht : Tot k) {base g n cap m : Nat} {d : List E} {w : World} (h : w.ownsRow base 3 1 (.slice (some ⟨g, 0, none⟩) n cap) n (d.map k.enc)) (hm : 0 < m) (hc : Cpt k d m (d.take m)) (hmn : m < n) (he : k.cf (d.getD m default) (d.getD (m - 1) default) = 0) (q : Nat) : Way k w base g n cap d (m + 1) m (w.drewN q) := by
  have hl : d.length = n := by simpa using h.1
  exact ⟨⟨d, d.take m, h, hl, rfl, by simp; omega, hc.skip ht hm he, fun _ _ => rfl⟩, below_dr' g w q, Nat.le_succ _⟩

set_option maxRecDepth 1000000 in
set_option maxHeartbeats 8000000 in
theorem compact_any {k : Ks E} (hk : Ok k) (ht : Tot k) (base g n cap bx : Nat) (d : List E) (w : World) (h : w.ownsRow base 3 1 (.slice (some ⟨g, 0, none⟩) n cap) n (d.map k.enc)) (hn : 1 ≤ n) (hn2 : n ≤ 1000000) (hbx : w.cell? ⟨bx, 0, none⟩ = some (fnv k)) (hbg : bx < g) (hw : Below k.n0 k.w0 w) (hg0 : k.n0 ≤ g)
    (hs : ∀ j, 0 < j → j < n → k.lt (d.getD j default) (d.getD (j - 1) default) = false) :
    Calls Try.prog 54 #[.slice (some ⟨g, 0, none⟩) n cap, .func (.func 55) #[] #[.pointer (some ⟨bx, 0, none⟩)]] w (Cmpd k base g n cap d w) := by
  have hl : d.length = n := by simpa using h.1
  have hcap : n ≤ cap := by
    rcases h.2 with ⟨h', _⟩ | ⟨g', cap', cur, h', _, _, hnc, _⟩
    · cases h'
    · cases h'; exact hnc
  have HA : Hid (∀ q, Cpt k d n d → Cmpd k base g n cap d w (.returned (.slice (some ⟨g, 0, none⟩) n cap)) (w.drewN q)) := fun q hc => cmpd_all h hc q
  have H : Hid (w.ownsRow base 3 1 (.slice (some ⟨g, 0, none⟩) n cap) n (d.map k.enc) ∧ d.length = n ∧ (∀ j, 0 < j → j < n → k.lt (d.getD j default) (d.getD (j - 1) default) = false)) := ⟨h, hl, hs⟩
  have H0 : Hid (Cpt k d 1 (d.take 1)) := by
    show Cpt _ _ _ _
    have := Cpt.start (k := k) ht (d := d) (by omega)
    cases d with
    | nil => simp at hl; omega
    | cons x r => exact this
  -- two are the same, in whatever world on the way
  have HQ : Hid (∀ x y w1, Below g w w1 → Calls Try.prog 55 #[k.enc x, k.enc y, .pointer (some ⟨bx, 0, none⟩)] w1 fun e w' => e = .returned (.bool (k.cf x y == 0)) ∧ ∃ q, w' = w1.drewN q) := fun x y w1 h1 =>
    riseq_any hk x y bx w1 ((h1.cell (p := ⟨bx, 0, none⟩) hbg).trans hbx) (hw.trans (h1.mono hg0))
  have eg : ∀ args w, (callFunc 55 args).run Try.prog w = .ok (.enter 55 args) w := enters_of Try.func55 (by kernel_rfl) rfl
  have HK : Hid (Ok k ∧ Tot k) := ⟨hk, ht⟩
  clear h hl hs hbx hw hk ht
  by_cases h2 : n < 2
  · have e1 : Hid (n = 1) := by show n = 1; omega
    go_enter Try.func54, Try.ntmps54
    go_wp2
    go_ret
    have := H0.out
    have hl := H.out.2.1
    rw [List.take_of_length_le (by rw [hl, e1.out]; exact Nat.le_refl _)] at this
    refine HA.out 0 ?_
    rw [e1.out]; exact this
  · go_enter Try.func54, Try.ntmps54
    go_wp2
    go_loopg [5] n (fun gg s5 wr => ∃ kp q : Nat, kp + 1 ≤ n ∧ n - (kp + 1) ≤ gg ∧ s5 = .int .i64 ((kp : Int) + 1) ∧ wr = w.drewN q ∧ Hid (Cpt k d (kp + 1) (d.take (kp + 1))))
    case atStart => exact ⟨0, 0, by omega, by omega, rfl, rfl, H0.out⟩
    case round =>
      obtain ⟨kp, q, hkn, hg, rfl, rfl, HC⟩ := hrel
      by_cases hlt : kp + 1 < n
      · have c1 := cell_own H.out.1 (j := kp + 1) hlt
        have c0 := cell_own H.out.1 (j := kp) (by omega)
        have hq : ∀ z, Calls Try.prog 55 #[k.enc (d.getD (kp + 1) default), k.enc (d.getD kp default), .pointer (some ⟨bx, 0, none⟩)] (w.drewN (q + z)) fun e w' => e = .returned (.bool (k.cf (d.getD (kp + 1) default) (d.getD kp default) == 0)) ∧ ∃ p, w' = w.drewN (q + p) := fun z =>
          (HQ.out _ _ _ (below_dr' g w (q + z))).mono fun _ _ ⟨h1, p, h2⟩ => ⟨h1, z + p, by rw [h2, World.drewN_drewN, Nat.add_assoc]⟩
        have hk0 : (kp : Int) + 1 < (n : Int) := by omega
        have p1 : (0 : Int) ≤ (kp : Int) + 1 := by omega
        have e1 : ((kp : Int) + 1).toNat = kp + 1 := by omega
        have k0 : (kp : Int) < (n : Int) := by omega
        have w0 : IntKind.i64.wrap (kp : Int) = (kp : Int) := by rw [IntKind.wrap_i64]; omega
        by_cases he : k.cf (d.getD (kp + 1) default) (d.getD kp default) = 0
        · have hef : (k.cf (d.getD (kp + 1) default) (d.getD kp default) == 0) = true := by simpa using he
          rw [hef] at hq
          have HW : Hid (∀ z, Way k w base g n cap d (kp + 1 + 1) (kp + 1) (w.drewN z)) := fun z => way_start HK.out.2 H.out.1 (by omega) HC.out hlt he z
          have Hq : Hid _ := hq
          generalize k.enc (d.getD (kp + 1) default) = x at c1 Hq
          generalize k.enc (d.getD kp default) = y at c0 Hq
          clear he hef hq
          go_wp2_with fail
          go_quiet (first | (go_at_call 55; exact Hq.out _))
          go_wp2
          clear c0 c1 Hq HC hg
          go_loopg [5, 7] n (fun gg s5 s7 wr => ∃ (kk k2 : Nat), s5 = .int .i64 kk ∧ s7 = .int .i64 ((k2 : Int) + 1) ∧ kp + 1 + (k2 + 1) ≤ n ∧ n - (kp + 1 + (k2 + 1)) ≤ gg ∧ kk < kp + 1 + (k2 + 1) ∧ Hid (Way k w base g n cap d (kp + 1 + (k2 + 1)) kk wr))
          case atStart => exact ⟨kp + 1, 0, by go_num, rfl, by omega, by omega, by omega, HW.out _⟩
          case round =>
            obtain ⟨kk, k2, rfl, rfl, hle, hg2, hkk, HV⟩ := hrel
            by_cases hlt2 : kp + 1 + (k2 + 1) < n
            · obtain ⟨l, ys, r1, r2, r3, r4, r5, r6⟩ := HV.out.row
              have cm := cell_own r1 (j := kp + 1 + (k2 + 1)) hlt2
              have cp := cell_own r1 (j := kp + 1 + k2) (by omega)
              have ck := cell_own r1 (j := kk) (by omega)
              have fk := r1.frozenAt kk
              rw [r6 _ (by omega)] at cm cp
              have hq : ∀ z, Calls Try.prog 55 #[k.enc (d.getD (kp + 1 + (k2 + 1)) default), k.enc (d.getD (kp + 1 + k2) default), .pointer (some ⟨bx, 0, none⟩)] (wr.drewN z) fun e w' => e = .returned (.bool (k.cf (d.getD (kp + 1 + (k2 + 1)) default) (d.getD (kp + 1 + k2) default) == 0)) ∧ ∃ p, w' = wr.drewN p := fun z =>
                (HQ.out _ _ _ (HV.out.low.trans (below_dr' g wr z))).mono fun _ _ ⟨h1, p, h2⟩ => ⟨h1, z + p, by rw [h2, World.drewN_drewN]⟩
              have b1 : (k2 : Int) + 1 < (n : Int) - ((kp : Int) + 1) := by omega
              have b2 : (k2 : Int) + 1 < ((n - (kp + 1) : Nat) : Int) := by omega
              have b3 : (0 : Int) ≤ (k2 : Int) + 1 := by omega
              have b4 : ((k2 : Int) + 1).toNat = k2 + 1 := by omega
              have b5 : IntKind.i64.wrap (k2 : Int) = (k2 : Int) := by rw [IntKind.wrap_i64]; omega
              have b6 : (k2 : Int) < (n : Int) - ((kp : Int) + 1) := by omega
              have b7 : (k2 : Int) < ((n - (kp + 1) : Nat) : Int) := by omega
              have b8 : (kk : Int) < (n : Int) := by omega
              clear r1 r2 r3 r4 r5 r6
              generalize k.enc (l.getD kk default) = old at ck
              by_cases he2 : k.cf (d.getD (kp + 1 + (k2 + 1)) default) (d.getD (kp + 1 + k2) default) = 0
              · have hef : (k.cf (d.getD (kp + 1 + (k2 + 1)) default) (d.getD (kp + 1 + k2) default) == 0) = true := by simpa using he2
                rw [hef] at hq
                have HW2 : Hid (∀ z, Way k w base g n cap d (kp + 1 + (k2 + 1) + 1) kk (wr.drewN z)) := fun z => HV.out.skip HK.out.2 (by omega) he2 z
                have Hq : Hid _ := hq
                generalize k.enc (d.getD (kp + 1 + (k2 + 1)) default) = x2 at cm Hq
                generalize k.enc (d.getD (kp + 1 + k2) default) = y2 at cp Hq
                clear he2 hef hq
                go_wp2_with fail
                go_quiet (first | (go_at_call 55; exact Hq.out _))
                go_wp2
                go_roundg (n - (kp + 1 + (k2 + 1 + 1)))
                case measure => omega
                case rel => exact ⟨kk, k2 + 1, rfl, by go_num, by omega, Nat.le_refl _, by omega, HW2.out _⟩
              · have hef : (k.cf (d.getD (kp + 1 + (k2 + 1)) default) (d.getD (kp + 1 + k2) default) == 0) = false := by simpa using he2
                rw [hef] at hq
                have HW2 : Hid (∀ z, Way k w base g n cap d (kp + 1 + (k2 + 1) + 1) (kk + 1) ((wr.drewN z).setCell ⟨g, kk, none⟩ (k.enc (d.getD (kp + 1 + (k2 + 1)) default)))) := fun z => HV.out.keep HK.out.2 HK.out.1.swo H.out.2.1 hkk hlt2 he2 (H.out.2.2 _ (by omega) hlt2) z
                have Hq : Hid _ := hq
                obtain ⟨x2, hx2⟩ : ∃ x2, x2 = k.enc (d.getD (kp + 1 + (k2 + 1)) default) := ⟨_, rfl⟩
                have hsp : Shp x2 := by rw [hx2]; exact HK.out.1.shp _
                rw [← hx2] at cm Hq HW2
                generalize k.enc (d.getD (kp + 1 + k2) default) = y2 at cp Hq
                clear he2 hef hq hx2
                obtain ⟨z5, rfl⟩ := hsp
                go_wp2_with fail
                go_quiet (first | (go_at_call 55; exact Hq.out _))
                go_wp2
                go_roundg (n - (kp + 1 + (k2 + 1 + 1)))
                case measure => omega
                case rel => exact ⟨kk + 1, k2 + 1, by go_num, by go_num, by omega, Nat.le_refl _, by omega, HW2.out _⟩
            · have e2 : kp + 1 + (k2 + 1) = n := by omega
              have hv := HV.out
              rw [e2] at hv
              obtain ⟨ys, hys⟩ := cmpd_end hv (by omega)
              have hcl := fun ty => (hys ty).1
              have HY : Hid _ := hys 0
              clear hys hv
              have c1 : kk < n := by omega
              have c2 : kk < cap := by omega
              go_wp2
              go_ret
              exact ⟨kk, ys, Nat.le_of_lt c1, rfl, HY.out.2.1, HY.out.2.2.1, HY.out.2.2.2⟩
        · have hef : (k.cf (d.getD (kp + 1) default) (d.getD kp default) == 0) = false := by simpa using he
          rw [hef] at hq
          have HE : Hid (¬ k.cf (d.getD (kp + 1) default) (d.getD kp default) = 0) := he
          have Hq : Hid _ := hq
          generalize k.enc (d.getD (kp + 1) default) = x at c1 Hq
          generalize k.enc (d.getD kp default) = y at c0 Hq
          clear he hef hq
          go_wp2_with fail
          go_quiet (first | (go_at_call 55; exact Hq.out _))
          go_wp2
          go_roundg (n - (kp + 1 + 1))
          case measure => omega
          case rel => exact ⟨kp + 1, _, by omega, Nat.le_refl _, by go_num, rfl, HC.out.ext HK.out.2 HK.out.1.swo (by omega) (by rw [H.out.2.1]; exact hlt) HE.out (fun j j0 jn => H.out.2.2 j j0 (by rw [← H.out.2.1]; exact jn))⟩
      · have e1 : kp + 1 = n := by omega
        go_wp2
        go_ret
        refine HA.out q ?_
        have := HC.out
        rw [e1, List.take_of_length_le (by rw [H.out.2.1]; exact Nat.le_refl _)] at this
        exact this
end Go.Proofs.Ytkojbpifcflgfaa.I
