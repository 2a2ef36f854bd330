/- The contract of the document's own Unpack; a slice of numbers that comes in. Conditions: at most 100 mantissas. -/
import Derived.Test.YtpjimckbpabakaaDoorO
namespace Go.Proofs.YtpjimckbpabakaaDoor
open Go.RowKit Go.ChangeShapes Go.WideShapes

structure IsI (w : World) (a : Option Addr) (len cap : Nat) (ms : List Int) : Prop where
  hl : ms.length = len
  hm : len ≤ maxLen
  rd : RdI w a ms
theorem all64_of {l : List Int} (h : ∀ n ∈ l, (Lit.int .i64 n).wf = true) : All64 l := by
  intro k
  rcases Nat.lt_or_ge k l.length with hk | hk
  · have := h (l.getD k 0) (by simp [List.getD, hk])
    simpa [Lit.wf, IntKind.min, IntKind.max, IntKind.signed, IntKind.bits] using this
  · have e : l.getD k 0 = 0 := by simp [List.getD, List.getElem?_eq_none hk]
    rw [e]; decide
theorem isI_of {H : Type} {enc : TypeId × Value → H} {W : World} {base : Nat} {spare : Nat → Bool} {held : Bool} {a : Option Addr} {len cap fuel : Nat} {x : DataW H × List MemPlace}
    (h : DataW.trod enc Tryd.prog W base spare held fuel 24 [.slice a len cap] = some x) : ∃ ms, IsI W a len cap ms ∧ All64 ms := by
  rcases open_ints Tryd.underlying24 Tryd.underlying2 (by kernel_rfl) h with ⟨hcs, _⟩ | ⟨ad, l, c, zs, hcs, _, hl, hm, hz, _, hcell, hwz⟩
  · simp at hcs
    obtain ⟨rfl, rfl, rfl⟩ := hcs
    exact ⟨[], ⟨rfl, Nat.zero_le _, .inl rfl⟩, all64_of fun n hn => by simp at hn⟩
  · simp at hcs
    obtain ⟨rfl, rfl, rfl⟩ := hcs
    have hzl : len ≤ zs.length := by rw [hz]; split <;> omega
    refine ⟨zs.take len, ⟨by simp; omega, Nat.le_trans hl hm, ?_⟩, all64_of fun n hn => hwz n (List.mem_of_mem_take hn)⟩
    by_cases h0 : len = 0
    · subst h0; exact .inl rfl
    · obtain ⟨b, off, spot⟩ := ad
      have hc := hcell 0 (by omega)
      have hspot : spot = none := by simpa [Addr.add] using World.cell?_spot hc
      subst hspot
      have hb : b < W.heap.size := by
        have := World.block_lt_of_cell? W _ hc
        simpa [Addr.add] using this
      refine .inr ⟨b, off, rfl, hb, fun i hi => ?_⟩
      simp only [List.length_take] at hi
      have := hcell i (by omega)
      rw [Addr.add_lit] at this
      rw [this]
      congr 2
      simp [List.getD, show i < len by omega]

theorem three_at (w : World) (v : Vl) : ∀ j u, (cls [v])[j]? = some u → (w.alloc (.cells #[.int .i64 v.M, .int .i64 v.E, .int .i64 v.S] 36)).cell? ((⟨w.heap.size, 0, none⟩ : Addr).add j) = some u := by
  intro j u hj
  have hr := World.rowIs_alloc w #[.int .i64 v.M, .int .i64 v.E, .int .i64 v.S] 36 (fun i => (cls [v]).getD i undef) (fun i hi => by
    match i, hi with
    | 0, _ => rfl
    | 1, _ => rfl
    | 2, _ => rfl)
  have hl : j < 3 := by have := (List.getElem?_eq_some_iff.1 hj).1; simpa [cls] using this
  rw [Addr.add_lit, Nat.zero_add, hr.cell hl]
  simp [List.getD, hj]

theorem three_at2 (w : World) (o : Obj) (v : Vl) : ∀ j u, (cls [v])[j]? = some u → ((w.alloc o).alloc (.cells #[.int .i64 v.M, .int .i64 v.E, .int .i64 v.S] 36)).cell? ((⟨w.heap.size + 1, 0, none⟩ : Addr).add j) = some u := by
  have h := three_at (w.alloc o) v
  simp only [World.size_alloc] at h
  exact h

set_option maxHeartbeats 3200000 in
theorem refunpack_any (a : Option Addr) (len cap : Nat) (ms : List Int) (e : Int) (w : World) (hl : ms.length = len) (hlen : len ≤ 100) (hrd : RdI w a ms) (h64 : All64 ms) :
    Calls Tryd.prog 14 #[.slice a len cap, .int .i64 e] w (Unpacked w ms e) := by
  by_cases he : e < -1000 ∨ 1000 < e
  · have hu : Hid (unl ms e = none) := by show _ = _; unfold unl; rw [if_pos he]
    clear hrd h64
    by_cases h1 : e < -1000
    · go_enter Tryd.func14, Tryd.ntmps14
      go_wp2
      go_ret2
      exact ⟨Below.refl _ _, .inr ⟨hu.out, rfl⟩⟩
    · have h2 : e > 1000 := by omega
      go_enter Tryd.func14, Tryd.ntmps14
      go_wp2
      go_ret2
      exact ⟨Below.refl _ _, .inr ⟨hu.out, rfl⟩⟩
  · have h1 : ¬ e < -1000 := by omega
    have h2 : ¬ e > 1000 := by omega
    obtain ⟨i0, hi, hz0, hz1, hz2⟩ := info36_parts
    have hu : Hid (unl ms e = uns ms e) := by show _ = _; unfold unl; rw [if_neg he]
    clear he
    have HR : Hid (RdI w a ms ∧ ms.length = len ∧ All64 ms) := ⟨hrd, hl, h64⟩
    clear hrd hl h64
    go_enter Tryd.func14, Tryd.ntmps14
    go_wp2_with fail
    go_loopw [6, 7] (fun s i wr => ∃ (k : Nat) (us : List Vl), i = .int .i64 (k : Int) ∧ k ≤ len ∧ Hid (us.length = k ∧ uns (ms.take k) e = some us ∧ wr.ownsRow w.heap.size 36 3 s k (cls us)) ∧ Below w.heap.size w wr) (fun _ i _ => len - (intOf i).toNat)
    case atStart => exact ⟨0, [], rfl, Nat.zero_le _, ⟨rfl, rfl, World.ownsRow_nil _ _ _ _⟩, Below.refl _ _⟩
    case round =>
      obtain ⟨k, us, rfl, hk, HU, hb⟩ := hrel
      by_cases hlt : k < len
      · have hlt' : (k : Int) < (len : Int) := by omega
        obtain ⟨b, off, rfl, hbb, c0⟩ := HR.out.1.at (k := k) (by rw [HR.out.2.1]; exact hlt)
        have d0 := (hb.cell (p := ⟨b, off + k, none⟩) hbb).trans c0
        obtain ⟨m0, m1⟩ := HR.out.2.2 k
        obtain ⟨m, hm⟩ : ∃ m, Hid (m = ms.getD k 0) := ⟨_, rfl⟩
        rw [← hm.out] at d0 m0 m1 c0
        have hsz := hb.size
        have HN : Hid (∀ v, unv m e = some v → uns (ms.take (k + 1)) e = some (us ++ [v])) := fun v hv => by
          rw [takeI_snoc ms k (by rw [HR.out.2.1]; exact hlt), uns_snoc, HU.out.2.1, ← hm.out, hv]
        have HBad : Hid (unv m e = none → unl ms e = none) := fun h => unl_bad (k := k) (by rw [HR.out.2.1]; exact hlt) HU.out.2.1 (by rw [← hm.out]; exact h)
        by_cases hkd : m > -9223372036854775808 ∧ m ≤ -9223372036854775804
        · obtain ⟨k1, k2⟩ := hkd
          have huv : Hid (unv m e = some ⟨0, 0, m + 9223372036854775808⟩) := by show _ = _; unfold unv; rw [if_pos (by omega)]
          obtain ⟨z, hz⟩ : ∃ z, Hid (z = m + 9223372036854775808) := ⟨_, rfl⟩
          have hzz : m + 9223372036854775807 + 1 = z := by rw [hz.out]; omega
          rw [← hz.out] at huv
          clear c0
          go_wp2_with (at_builtin; refine wpList_append_own _ rfl (.tmp 34) (.tmp 42) 22 rfl w.heap.size 36 i0 (val 0 0 0) 3 24 Tryd.underlying22 hi hz0 hz1 hz2 rfl (by decide) _ k _ rfl (HU.out.2.2.alloc _) ⟨wr.heap.size, 0, none⟩ 1 1 (cls [⟨0, 0, z⟩]) rfl rfl (three_at wr _) (cls_one _) (by unfold maxLen; omega) (by omega) (by simp; omega) ?_; intro v' w3 hown' hgrow _)
          go_roundw
          case rel =>
            refine ⟨k + 1, us ++ [⟨0, 0, z⟩], by go_num, hlt, ⟨by simp [HU.out.1], HN.out _ huv.out, ?_⟩, ?_⟩
            · rw [cls_append]; exact hown'
            · exact (hb.alloc hsz _).grown hgrow (by simp; omega) (fun j hj => (HU.out.2.2.lt j hj).1)
          case measure => simp [intOf]; omega
        · by_cases k1 : m > -9223372036854775808
          · have k2 : ¬ m ≤ -9223372036854775804 := by omega
            clear hkd
            have Hc : Hid _ := refcl_any m e m0 m1
            obtain ⟨c, hc⟩ : ∃ c, Hid (c = cl m e) := ⟨_, rfl⟩
            rw [← hc.out] at Hc
            clear c0
            go_wp2_with fail
            refine (Hc.out _).mono ?_
            rintro r w2 ⟨rfl, b2⟩
            have hs2 := b2.size
            have B2 : Below w.heap.size w w2 := hb.trans (b2.mono hsz)
            have d2 := (B2.cell (p := ⟨b, off + k, none⟩) hbb).trans ((hb.cell (p := ⟨b, off + k, none⟩) hbb).symm.trans d0)
            have hbb2 : b < w2.heap.size := by omega
            clear Hc
            cases c with
            | none =>
              go_wp2_with fail
              go_ret2
              refine ⟨B2.alloc (by omega) _, .inr ⟨HBad.out ?_, rfl⟩⟩
              unfold unv
              rw [if_neg (by omega)]
              split
              · rfl
              · exact hc.out.symm
            | some v =>
              by_cases g1 : m ≤ -1000000000000000000
              · go_wp2_with fail
                go_ret2
                refine ⟨B2.alloc (by omega) _, .inr ⟨HBad.out ?_, rfl⟩⟩
                unfold unv
                rw [if_neg (by omega), if_pos (.inl g1)]
              · by_cases g2 : 1000000000000000000 ≤ m
                · go_wp2_with fail
                  go_ret2
                  refine ⟨B2.alloc (by omega) _, .inr ⟨HBad.out ?_, rfl⟩⟩
                  unfold unv
                  rw [if_neg (by omega), if_pos (.inr g2)]
                · have huv : Hid (unv m e = some v) := by show _ = _; unfold unv; rw [if_neg (by omega), if_neg (by omega)]; exact hc.out.symm
                  have HO2 : Hid (World.ownsRow (w2.alloc (.cells #[.int .i64 v.M, .int .i64 v.E, .int .i64 v.S] 36)) w.heap.size 36 3 _ k (cls us)) := (own_below HU.out.2.2 b2).alloc (.cells #[.int .i64 v.M, .int .i64 v.E, .int .i64 v.S] 36)
                  go_wp2_with (at_builtin; refine wpList_append_own _ rfl (.tmp 69) (.tmp 71) 22 rfl w.heap.size 36 i0 (val 0 0 0) 3 24 Tryd.underlying22 hi hz0 hz1 hz2 rfl (by decide) _ k _ rfl (HO2.out.alloc _) ⟨w2.heap.size + 1, 0, none⟩ 1 1 (cls [v]) rfl rfl (three_at2 w2 _ _) (cls_one _) (by unfold maxLen; omega) (by omega) (by simp; omega) ?_; intro v' w3 hown' hgrow _)
                  go_roundw
                  case rel =>
                    refine ⟨k + 1, us ++ [v], by go_num, hlt, ⟨by simp [HU.out.1], HN.out _ huv.out, ?_⟩, ?_⟩
                    · rw [cls_append]; exact hown'
                    · exact ((B2.alloc (by omega) _).alloc (by simp; omega) _).grown hgrow (by simp; omega) (fun j hj => (HO2.out.lt j hj).1)
                  case measure => simp [intOf]; omega
          · clear hkd
            have Hc : Hid _ := refcl_any m e m0 m1
            obtain ⟨c, hc⟩ : ∃ c, Hid (c = cl m e) := ⟨_, rfl⟩
            rw [← hc.out] at Hc
            clear c0
            go_wp2_with fail
            refine (Hc.out _).mono ?_
            rintro r w2 ⟨rfl, b2⟩
            have hs2 := b2.size
            have B2 : Below w.heap.size w w2 := hb.trans (b2.mono hsz)
            have d2 := (B2.cell (p := ⟨b, off + k, none⟩) hbb).trans ((hb.cell (p := ⟨b, off + k, none⟩) hbb).symm.trans d0)
            have hbb2 : b < w2.heap.size := by omega
            clear Hc
            cases c with
            | none =>
              go_wp2_with fail
              go_ret2
              refine ⟨B2.alloc (by omega) _, .inr ⟨HBad.out ?_, rfl⟩⟩
              unfold unv
              rw [if_neg (by omega)]
              split
              · rfl
              · exact hc.out.symm
            | some v =>
              by_cases g1 : m ≤ -1000000000000000000
              · go_wp2_with fail
                go_ret2
                refine ⟨B2.alloc (by omega) _, .inr ⟨HBad.out ?_, rfl⟩⟩
                unfold unv
                rw [if_neg (by omega), if_pos (.inl g1)]
              · exfalso; omega
      · have hlt' : ¬ (k : Int) < (len : Int) := by omega
        obtain rfl : k = len := by omega
        obtain ⟨a5, c5, rfl, v5⟩ := own_rdV HU.out.2.2
        go_wp2_with fail
        go_ret2
        have hus := HU.out.2.1
        rw [List.take_of_length_le (by rw [HR.out.2.1]; exact Nat.le_refl _)] at hus
        refine ⟨hb, .inl ⟨us, a5, c5, hu.out.trans hus, ?_, ?_⟩⟩
        · rw [HU.out.1]; rfl
        · rw [HU.out.1]; exact v5
end Go.Proofs.YtpjimckbpabakaaDoor
