/- FrameBack: frames one behind the other are taken, one by one, and what lies behind is left: true for every input. Conditions: the table of half bytes holds what the program's text lays. -/
import Derived.Test.YtifkpimglmncdaaDoorBackP
import Derived.BigQuiet
import Derived.Deep.QuietTactic
namespace Go.Proofs.YtifkpimglmncdaaDoor
open Go.ChangeShapes Go.WideShapes Go.ChangeAt Go.RowKit Go.Lib

theorem conv_drew {w : World} {a : Option Addr} {n c : Nat} {l : List Int} (h : IsI .u8 w a n c l) (q : Nat) : Sem.run Tryd.prog (convert 22 9 (.slice a n c)) (w.drewN q) = .ok (.string (strOfNums l)) (w.drewN q) :=
  conv_rd _ a c n l h.hl (h.rd.below (below_drewN' (Below.refl _ _) q))

set_option maxHeartbeats 16000000 in
set_option maxRecDepth 20000 in
theorem frameBack_walk {w : World} (a : Option Addr) (len cap : Nat) (L : Nat → Nat) (Z : Nat → List Int) (hR : Rws w a len L Z) (kind : Int) (_hk : -9223372036854775808 ≤ kind ∧ kind ≤ 9223372036854775807)
    (ab : Option Addr) (lb cb : Nat) (zb : List Int) (hIb : IsI .u8 w ab lb cb zb) (hbb : Bytes zb) (hH : Ha w) :
    Calls Tryd.prog 4 #[.slice a len cap, .int .i64 kind, .slice ab lb cb] w fun e w' => e = .returned (.bool true) ∧ Below w.heap.size w w' := by
  obtain ⟨i0, hi, hz0, hz1, hz2⟩ := info_parts Tryd.info5
  have HI : Hid (Rws w a len L Z ∧ IsI .u8 w ab lb cb zb ∧ Bytes zb ∧ Ha w) := ⟨hR, hIb, hbb, hH⟩
  clear hR hIb hbb hH
  by_cases hl : len ≤ 20
  · have hl1 : ¬ (20 : Int) < (len : Int) := by omega
    by_cases hlb : lb ≤ 100
    · have hlb1 : ¬ (100 : Int) < (lb : Int) := by omega
      obtain ⟨kd, hkd⟩ : ∃ kd : Nat → Nat, ∀ i : Nat, kd i = ((kind + (i : Int)) % 256).toNat := ⟨fun i => ((kind + (i : Int)) % 256).toNat, fun _ => rfl⟩
      have HK : Hid ((∀ i : Nat, kd i = ((kind + (i : Int)) % 256).toNat) ∧ ∀ i, kd i ≤ 255) := ⟨hkd, fun i => by rw [hkd]; omega⟩
      clear hkd
      go_enter Tryd.func4, Tryd.ntmps4
      go_wp2_with fail
      refine (awake_any w HI.out.2.2.2).mono ?_
      rintro e w1 ⟨rfl, hb1⟩
      have HB1 : Hid (Below w.heap.size w w1) := hb1
      clear hb1
      go_wp2
      go_loopw [8, 9] (fun b i wr => ∃ k n : Nat, i = .int .i64 (k : Int) ∧ k ≤ len ∧ n = (pre kd Z k).length ∧ (∀ j, j < k → (Z j).length ≤ 500) ∧ wr.ownsRow w.heap.size 5 1 b n ((pre kd Z k).map (Value.int .u8)) ∧ Below w.heap.size w wr) (fun _ i _ => len - (RowKit.intOf i).toNat)
      case atStart => exact ⟨0, 0, rfl, Nat.zero_le _, rfl, (fun j hj => by omega), World.ownsRow_nil _ _ _ _, HB1.out⟩
      case round =>
        obtain ⟨k, n, rfl, hk, hn, hz, ho, hb⟩ := hrel
        have HO : Hid (n = (pre kd Z k).length ∧ (∀ j, j < k → (Z j).length ≤ 500) ∧ wr.ownsRow w.heap.size 5 1 u8 n ((pre kd Z k).map (Value.int .u8)) ∧ Below w.heap.size w wr) := ⟨hn, hz, ho, hb⟩
        have hn1 : n ≤ 10160 := by have := pre_le kd Z k hz; omega
        clear hn hz ho hb
        by_cases hlt : k < len
        · have hlt' : (k : Int) < (len : Int) := by omega
          obtain ⟨g, off, A, C, rfl, hg, hr⟩ := (HI.out.1.below HO.out.2.2.2).resolve_left (by omega)
          obtain ⟨hcell, hIk, hbk⟩ := hr k hlt
          have HIk : Hid (IsI .u8 wr (A k) (L k) (C k) (Z k) ∧ Bytes (Z k) ∧ g < wr.heap.size) := ⟨hIk, hbk, hg⟩
          clear hr hIk hbk hg
          generalize L k = Lk at *
          generalize A k = Ak at *
          generalize C k = Ck at *
          by_cases hL : Lk ≤ 500
          · have hL' : ¬ (500 : Int) < (Lk : Int) := by omega
            obtain ⟨c, d, hc, hd', hce, hc1, hcd⟩ := kind_at kind k
            have HC : Hid (c = kd k ∧ c ≠ d) := ⟨by rw [HK.out.1, hce], hcd⟩
            clear hce hcd
            go_wp2_with fail
            refine (make_eq c rfl hc1 Ak Lk Ck (Z k) wr HIk.out.1 HIk.out.2.1 (by omega) (HI.out.2.2.2.below HO.out.2.2.2)).mono ?_
            rintro e w2 ⟨a2, n2, c2, rfl, hn2, ho2, hI2, hb2⟩
            have hn2' : n2 ≤ 508 := by have := bs_le3 (n := Lk) (by omega); omega
            have H2 : Hid (IsI .u8 w2 a2 n2 c2 (frm c (Z k)) ∧ Below wr.heap.size wr w2 ∧ Below w.heap.size w w2 ∧ Ha w2) := ⟨hI2, hb2, HO.out.2.2.2.trans (hb2.mono HO.out.2.2.2.size), HI.out.2.2.2.below (HO.out.2.2.2.trans (hb2.mono HO.out.2.2.2.size))⟩
            clear hn2 ho2 hI2 hb2
            go_wp2_with fail
            refine (only_ok _ (c : Int) (Z k) (by rw [HIk.out.1.hl]; omega) w2 (found_ok c hc1 (Z k) [] (by rw [HIk.out.1.hl]; omega) HIk.out.2.1 (fun x hx => by cases hx) a2 n2 c2 w2 (by rw [List.append_nil]; exact H2.out.1) H2.out.2.2.2 (by omega))).mono ?_
            rintro e w3 ⟨v3, rfl, ho3, hb3⟩
            rw [HIk.out.1.hl] at ho3
            obtain ⟨a3, c3, rfl, hI3⟩ := own_isI ho3
            have H3 : Hid (IsI .u8 w3 a3 Lk c3 (Z k) ∧ IsI .u8 w3 a2 n2 c2 (frm c (Z k)) ∧ Below wr.heap.size wr w3 ∧ Below w.heap.size w w3 ∧ Ha w3) := ⟨hI3, H2.out.1.below hb3, H2.out.2.1.trans (hb3.mono H2.out.2.1.size), H2.out.2.2.1.trans (hb3.mono H2.out.2.2.1.size), H2.out.2.2.2.below hb3⟩
            clear ho3 hI3 hb3
            go_wp2_with fail
            refine (only_kind _ (c : Int) (d : Int) (by have := HC.out.2; simp; omega) (Z k) w3 (found_ok c hc1 (Z k) [] (by rw [HIk.out.1.hl]; omega) HIk.out.2.1 (fun x hx => by cases hx) a2 n2 c2 w3 (by rw [List.append_nil]; exact H3.out.2.1) H3.out.2.2.2.2 (by omega))).mono ?_
            rintro e w4 ⟨rfl, hb4⟩
            have hbb4 : Below wr.heap.size wr w4 := H3.out.2.2.1.trans (hb4.mono H3.out.2.2.1.size)
            have H4 : Hid (IsI .u8 w4 a3 Lk c3 (Z k) ∧ IsI .u8 w4 a2 n2 c2 (frm c (Z k)) ∧ Below wr.heap.size wr w4 ∧ Below w.heap.size w w4 ∧ IsI .u8 w4 Ak Lk Ck (Z k)) := ⟨H3.out.1.below hb4, H3.out.2.1.below hb4, hbb4, H3.out.2.2.2.1.trans (hb4.mono H3.out.2.2.2.1.size), HIk.out.1.below hbb4⟩
            obtain ⟨S, hS⟩ : ∃ S, S = strOfNums (Z k) := ⟨_, rfl⟩
            have hv1 := conv_drew H4.out.1
            have hv2 := conv_drew H4.out.2.2.2.2
            rw [← hS] at hv1 hv2
            have hcell4 : w4.cell? ⟨g, off + k, none⟩ = some (.slice Ak Lk Ck) := (hbb4.cell (p := ⟨g, off + k, none⟩) HIk.out.2.2).trans hcell
            clear hS hb4 hbb4
            go_wp2
            go_quiet (fail)
            have H5 : Hid (Below w.heap.size w (w4.drewN nq) ∧ (w4.drewN nq).ownsRow w.heap.size 5 1 u8 n ((pre kd Z k).map (Value.int .u8)) ∧ IsI .u8 (w4.drewN nq) a2 n2 c2 (frm c (Z k))) := ⟨below_drewN' H4.out.2.2.2.1 _, own_below HO.out.2.2.1 (below_drewN' H4.out.2.2.1 _), H4.out.2.1.below (below_drewN' (Below.refl _ _) _)⟩
            clear hcell hcell4 hv1 hv2
            generalize w4.drewN nq = w5 at *
            go_wp2_with (at_builtin; refine wpList_append_any _ rfl (.tmp 95) (.tmp 96) 22 rfl w.heap.size 5 i0 (.int .u8 0) 1 Tryd.underlying22 hi hz0 hz1 hz2 rfl _ n _ rfl H5.out.2.1 a2 n2 c2 ((frm c (Z k)).map (Value.int .u8)) rfl (by rw [List.length_map, H5.out.2.2.hl]) H5.out.2.2.none (rd_any H5.out.2.2.rd) (ints_oneCell _ _) (by unfold maxLen; omega) (by omega) H5.out.1.size ?_
                         intro v6 w6 ho6 hg6
                         have H6 : Hid (w6.ownsRow w.heap.size 5 1 v6 (n + n2) ((pre kd Z (k + 1)).map (Value.int .u8)) ∧ Below w.heap.size w w6) := ⟨by rw [pre, List.map_append, ← HC.out.1]; exact ho6, H5.out.1.trans ((Below.refl _ _).grown hg6 H5.out.1.size (fun j hj => (H5.out.2.1.lt j hj).1))⟩
                         clear ho6 hg6)
            go_roundw
            case rel =>
              refine ⟨k + 1, n + n2, by go_num, by omega, ?_, ?_, H6.out.1, H6.out.2⟩
              · have := H6.out.1.1; simpa using this.symm
              · intro j hj
                by_cases e : j = k
                · subst e; rw [HIk.out.1.hl]; exact hL
                · exact HO.out.2.1 j (by omega)
            case measure => simp [RowKit.intOf]; omega
          · have hL' : (500 : Int) < (Lk : Int) := by omega
            go_wp2
            try rw [Exit.noGoto_ret]
            go_ret
            exact ⟨rfl, HO.out.2.2.2⟩
        · have hlt' : ¬ (k : Int) < (len : Int) := by omega
          obtain rfl : k = len := by omega
          have HIb : Hid (IsI .u8 wr ab lb cb zb) := HI.out.2.1.below HO.out.2.2.2
          go_wp2_with (at_builtin; refine wpList_append_any _ rfl (.tmp 98) (.tmp 99) 22 rfl w.heap.size 5 i0 (.int .u8 0) 1 Tryd.underlying22 hi hz0 hz1 hz2 rfl _ n _ rfl HO.out.2.2.1 ab lb cb (zb.map (Value.int .u8)) rfl (by rw [List.length_map, HIb.out.hl]) HIb.out.none (rd_any HIb.out.rd) (ints_oneCell _ _) (by unfold maxLen; omega) (by omega) HO.out.2.2.2.size ?_
                       intro v6 w6 ho6 hg6
                       rw [← List.map_append, pre_all] at ho6
                       obtain ⟨a6, c6, rfl, hI6⟩ := own_isI ho6
                       have H6 : Hid (IsI .u8 w6 a6 (n + lb) c6 (sf kd Z 0 k ++ zb) ∧ Below w.heap.size w w6) := ⟨hI6, HO.out.2.2.2.trans ((Below.refl _ _).grown hg6 HO.out.2.2.2.size (fun j hj => (HO.out.2.2.1.lt j hj).1))⟩
                       clear ho6 hg6 hI6)
          go_loopw [8, 16] (fun b i wr => ∃ q ax nx cx : _, b = .slice ax nx cx ∧ i = .int .i64 ((q : Nat) : Int) ∧ q ≤ k ∧ IsI .u8 wr ax nx cx (sf kd Z q (k - q) ++ zb) ∧ Below w.heap.size w wr) (fun _ i _ => k - (RowKit.intOf i).toNat)
          case atStart => exact ⟨0, a6, n + lb, c6, rfl, rfl, Nat.zero_le _, H6.out.1, H6.out.2⟩
          case round =>
            obtain ⟨q, ax, nx, cx, rfl, rfl, hq, hIx, hbx⟩ := hrel
            have HX : Hid (IsI .u8 wr ax nx cx (sf kd Z q (k - q) ++ zb) ∧ Below w.heap.size w wr) := ⟨hIx, hbx⟩
            clear hIx hbx
            by_cases hlt : q < k
            · have hlt'' : (q : Int) < (k : Int) := by omega
              obtain ⟨g, off, A, C, rfl, hg, hr⟩ := (HI.out.1.below HX.out.2).resolve_left (by omega)
              have HBy : Hid (∀ r, r < k → Bytes (Z r)) := fun r hr' => (hr r hr').2.2
              obtain ⟨hcell, hIk, hbk⟩ := hr q hlt
              have HIk : Hid (IsI .u8 wr (A q) (L q) (C q) (Z q) ∧ Bytes (Z q) ∧ g < wr.heap.size) := ⟨hIk, hbk, hg⟩
              clear hr hIk hbk hg
              generalize L q = Lk at *
              generalize A q = Ak at *
              generalize C q = Ck at *
              have hL : Lk ≤ 500 := by have := HO.out.2.1 q hlt; rw [HIk.out.1.hl] at this; exact this
              obtain ⟨c, d, hc, _, hce, hc1, _⟩ := kind_at kind q
              have HC : Hid (c = kd q) := by rw [HK.out.1, hce]; rfl
              clear hce
              obtain ⟨rs, hrs⟩ : ∃ rs, rs = sf kd Z (q + 1) (k - (q + 1)) ++ zb := ⟨_, rfl⟩
              have hsplit : sf kd Z q (k - q) ++ zb = frm c (Z q) ++ rs := by
                rw [show k - q = (k - (q + 1)) + 1 by omega, hrs, HC.out]
                simp [sf]
              have hrl : rs.length ≤ 20000 := by
                have := sf_le kd Z (k - (q + 1)) (q + 1) (fun i h1 h2 => HO.out.2.1 i (by omega))
                rw [hrs, List.length_append, HI.out.2.1.hl]
                have : (k - (q + 1)) * 508 ≤ 20 * 508 := Nat.mul_le_mul_right _ (by omega)
                omega
              have hrb : Bytes rs := by
                rw [hrs]
                exact bytes_append (sf_bytes kd Z HK.out.2 _ _ (fun i h1 h2 => ⟨HO.out.2.1 i (by omega), HBy.out i (by omega)⟩)) HI.out.2.2.1
              have hIx := HX.out.1
              rw [hsplit] at hIx
              have hnx : nx ≤ 1000000 := by
                have h1 := hIx.hl
                rw [List.length_append, frm_length, HIk.out.1.hl] at h1
                have := bs_le3 (n := Lk) (by omega)
                omega
              have HRS : Hid (rs = sf kd Z (q + 1) (k - (q + 1)) ++ zb ∧ rs.length ≤ 20000 ∧ Bytes rs ∧ IsI .u8 wr ax nx cx (frm c (Z q) ++ rs)) := ⟨hrs, hrl, hrb, hIx⟩
              clear hrs hsplit hrl hrb hIx
              go_wp2_with fail
              refine (next_any _ (c : Int) 0 (Z q) rs wr (by rw [HIk.out.1.hl]; omega) (by have := HRS.out.2.1; omega) (found_ok c hc1 (Z q) rs (by rw [HIk.out.1.hl]; omega) HIk.out.2.1 HRS.out.2.2.1 ax nx cx wr HRS.out.2.2.2 (HI.out.2.2.2.below HX.out.2) hnx)).mono ?_
              rintro e w3 ⟨v3, v4, rfl, ho3, ho4, hb3⟩
              rw [HIk.out.1.hl] at ho3
              obtain ⟨a3, c3, rfl, hI3⟩ := own_isI ho3
              obtain ⟨nr, hnr⟩ : ∃ nr, nr = rs.length := ⟨_, rfl⟩
              rw [← hnr] at ho4
              obtain ⟨a4, c4, rfl, hI4⟩ := own_isI ho4
              have H3 : Hid (IsI .u8 w3 a3 Lk c3 (Z q) ∧ IsI .u8 w3 a4 nr c4 rs ∧ Below w.heap.size w w3 ∧ IsI .u8 w3 Ak Lk Ck (Z q)) := ⟨hI3, hI4, HX.out.2.trans (hb3.mono HX.out.2.size), HIk.out.1.below hb3⟩
              obtain ⟨S, hS⟩ : ∃ S, S = strOfNums (Z q) := ⟨_, rfl⟩
              have hv1 := conv_drew H3.out.1
              have hv2 := conv_drew H3.out.2.2.2
              rw [← hS] at hv1 hv2
              have hcell4 : w3.cell? ⟨g, off + q, none⟩ = some (.slice Ak Lk Ck) := (hb3.cell (p := ⟨g, off + q, none⟩) HIk.out.2.2).trans hcell
              clear hS hb3 hcell hI3 hI4 ho3 ho4 hnr
              go_wp2
              go_quiet (fail)
              have H5 : Hid (Below w.heap.size w (w3.drewN nq) ∧ IsI .u8 (w3.drewN nq) a4 nr c4 rs) := ⟨below_drewN' H3.out.2.2.1 _, H3.out.2.1.below (below_drewN' (Below.refl _ _) _)⟩
              clear hcell4 hv1 hv2
              generalize w3.drewN nq = w5 at *
              go_wp2
              go_roundw
              case rel => exact ⟨q + 1, a4, nr, c4, rfl, by go_num, by omega, by rw [← HRS.out.1]; exact H5.out.2, H5.out.1⟩
              case measure => simp [RowKit.intOf]; omega
            · have hlt'' : ¬ (q : Int) < (k : Int) := by omega
              obtain rfl : q = k := by omega
              have hIx := HX.out.1
              rw [Nat.sub_self, sf, List.nil_append] at hIx
              obtain ⟨S, hS⟩ : ∃ S, S = strOfNums zb := ⟨_, rfl⟩
              have hv1 := conv_rd wr ax cx nx zb hIx.hl hIx.rd
              have hv2 := conv_rd wr ab cb lb zb HI.out.2.1.hl (HI.out.2.1.below HX.out.2).rd
              rw [← hS] at hv1 hv2
              clear hS hIx
              go_wp2
              go_ret
              exact ⟨rfl, HX.out.2⟩
    · have hlb1 : (100 : Int) < (lb : Int) := by omega
      go_enter Tryd.func4, Tryd.ntmps4
      go_wp2_with (go_at_call 8; refine (awake_any w HI.out.2.2.2).mono ?_; rintro e w1 ⟨rfl, hb1⟩)
      go_ret
      exact ⟨rfl, hb1⟩
  · have hl1 : (20 : Int) < (len : Int) := by omega
    go_enter Tryd.func4, Tryd.ntmps4
    go_wp2_with (go_at_call 8; refine (awake_any w HI.out.2.2.2).mono ?_; rintro e w1 ⟨rfl, hb1⟩)
    go_ret
    exact ⟨rfl, hb1⟩

set_option maxRecDepth 100000 in
theorem frameBack_lifted (os : Os) (started : os.Started) (H : Type) (enc : TypeId × Value → H) :
    ReturnsInHanded {} Tryd.checked os 4 .any (fun w args => (Rows.frameBackSpec.pre enc Tryd.prog Tryd.f4 [] false w args ∧ laidMetH Tryd.prog Rows.frameBackRow.laid w) ∧ sizedMet enc Tryd.prog Tryd.f4 (OpenSpec.ofChange Rows.frameBackSpec) false w args)
      (Rows.frameBackSpec.post enc Tryd.prog Tryd.f4 false true false false) := by
  refine returns_and_shaped (C := Tryd.checked) (X := fun w _ => laidMetH Tryd.prog Rows.frameBackRow.laid w) (fun _ _ _ hh h => h.of_heap hh) own started (by kernel_rfl) Tryd.func4
    (ChangeSpec.witness_shaped (enc := enc) (C := Tryd.checked) (os := os) (X := fun w _ => laidMetH Tryd.prog Rows.frameBackRow.laid w) false (World.laidAll Tryd.prog os Rows.frameBackRow.laid) #[.slice none 0 0, .int .i64 0, .slice none 0 0] 8 (World.laidAll_os _ _ _)
      (World.shaped_of_ZipB (by kernel_rfl) (by kernel_rfl)) (by kernel_rfl) (by kernel_rfl) (by kernel_rfl)
      (by rw [MakeChecks.laidMetH_plain _ _ _ (by kernel_rfl)]; exact laidMet_laidAll _ (by kernel_rfl) (by kernel_rfl))) ?_
  intro W base args ds gs before hval0 hW hL hsh
  have hval : ∀ (j : Nat) t v, Tryd.f4.params[j]? = some t → args[j]? = some v → Value.okWide Tryd.prog W .any base t v := hval0
  have hW' := hW
  obtain ⟨p, q, hA0, hV, rfl, _, _⟩ := hW
  have hA : DataW.TrodAll enc Tryd.prog W 0 (fun _ => true) true Tryd.f4.params.toList args.toList ds p := hA0
  rw [Tryd.params4] at hA hval
  obtain ⟨v0, vs0, d0, ds0, p0, q0, hargs, rfl, rfl, h0, r0⟩ := trodAll_cons hA
  obtain ⟨v1, vs1, d1, ds1, p1, q1, rfl, rfl, rfl, h1, r1⟩ := trodAll_cons r0
  obtain ⟨v2, vs2, d2, ds2, p2, q2, rfl, rfl, rfl, h2, r2⟩ := trodAll_cons r1
  obtain ⟨rfl, rfl, rfl⟩ := trodAll_nil r2
  obtain rfl : args = #[v0, v1, v2] := by cases args; simp_all
  obtain ⟨rfl, rfl⟩ := trodVars_none hV
  obtain ⟨a0, len0, cap0, rfl⟩ := okWide_slice Tryd.underlying30 (hval 0 30 v0 rfl rfl)
  have k0 := h0
  have lt0 : ∀ x ∈ p0, x.block < W.heap.size := by obtain ⟨m, hm⟩ := k0; exact DataW.trod_lt m _ _ _ hm
  obtain ⟨L0, Z0, w0⟩ : ∃ L Z, Rws W a0 len0 L Z := by obtain ⟨fuel, hf⟩ := h0; exact rws_30 hf
  obtain ⟨a1, rfl, rfl, rfl, w1⟩ := open_int Tryd.underlying3 (hval 1 3 v1 rfl rfl) h1
  have hx1 : -9223372036854775808 ≤ a1 ∧ a1 ≤ 9223372036854775807 := by simpa [Lit.wf, IntKind.min, IntKind.max, IntKind.signed, IntKind.bits] using w1
  obtain ⟨a2, len2, cap2, rfl⟩ := okWide_slice Tryd.underlying22 (hval 2 22 v2 rfl rfl)
  have k2 := h2
  have lt2 : ∀ x ∈ p2, x.block < W.heap.size := by obtain ⟨m, hm⟩ := k2; exact DataW.trod_lt m _ _ _ hm
  obtain ⟨vl2, w2, wf2⟩ : ∃ ms, IsI .u8 W a2 len2 cap2 ms ∧ ∀ n ∈ ms, (Lit.int .u8 n).wf = true := by obtain ⟨fuel, hf⟩ := h2; exact isI_22 hf
  clear hA0 hval0
  rw [MakeChecks.laidMetH_plain _ _ _ (by kernel_rfl)] at hL
  refine (frameBack_walk (w := W) a0 len0 cap0 L0 Z0 w0 a1 hx1 a2 len2 cap2 vl2 w2 (bytes_wf wf2) (ha_of (laidMet.reads hL (by simp [Rows.frameBackRow])))).mono fun e W' ⟨he, hb⟩ => ?_
  subst he
  exact ⟨_, rfl, _, _, _, [], _, [], hW', trodAll_mk1 (shut_bool Tryd.underlying4 _), (trodAll_cons_mk (Below.trod laidOut (by kernel_rfl) (of_decide_eq_true (by kernel_rfl)) k0 hb lt0) (trodAll_cons_mk (shut_int Tryd.underlying3 w1) (trodAll_cons_mk (Below.trod laidOut (by kernel_rfl) (of_decide_eq_true (by kernel_rfl)) k2 hb lt2) trodAll_mk0))), rfl, hb.frame _, fun h => by cases h⟩

theorem frameBack_row : Rows.FrameBackSaid :=
  OpenClaim.holds_of_wide 4 Tryd.f4 rfl rfl rfl rfl rfl rfl rfl ⟨rfl, rfl, rfl, rfl, rfl⟩ rfl rfl rfl rfl rfl (by kernel_rfl) Tryd.func4 (by kernel_rfl)
    (of_decide_eq_true (by kernel_rfl)) (by unfold Func.isWrapper; first | (rw [if_pos (by decide +kernel)]; kernel_rfl) | (rw [if_neg (by decide +kernel)]; exact ⟨rfl, rfl⟩))
    (fun os started H enc _ => frameBack_lifted os started H enc)

theorem frameBack_holds : Rows.FrameBackCardSaid :=
  Claim7.holds_tied_plain_at .later [] [.data] true (true, "1e33bb0a793bb80f35d1427b56526076d247bc62253042da2be5e62c13294839") false frameBack_row (fun _ h => by cases h) (by kernel_rfl) (fun _ h => by cases h) frameBack_row_tie rfl ⟨rfl, rfl⟩ (by kernel_rfl) rfl
    (fun f fn hf hfn => by
      obtain rfl : f = 4 := Option.some.inj ((show Tryd.prog.funcNamed Rows.frameBackRow.func = some 4 by kernel_rfl).symm.trans hf) |>.symm
      obtain rfl : fn = Tryd.f4 := (Option.some.inj (Tryd.func4.symm.trans hfn)).symm
      exact ⟨by kernel_rfl, fun j t ht => by
        rw [Tryd.params4] at ht
        have hm : t ∈ [30, 3, 22] := by simpa using Array.mem_of_getElem? ht
        have hall : ([30, 3, 22].all fun u => !Tryd.prog.wantsStandIn u) = true := by kernel_rfl
        exact (show Tryd.prog.wantsStandIn t = false by simpa using List.all_eq_true.1 hall t hm)⟩)
    (by kernel_rfl)
#print axioms frameBack_holds
end Go.Proofs.YtifkpimglmncdaaDoor
