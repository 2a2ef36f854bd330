/- What SimfsRoom does, for every room and every rows. Conditions: those of each theorem. -/
import Derived.Test.YtkipcblbadkjnaaZe
namespace Go.Proofs.Ytkipcblbadkjnaa
open Go.RowKit

theorem mk_bytes (w : World) (m : Nat) (hm : m ≤ 3000) : ∃ w', (Instr.makeSlice 32 (.int .i64 (m : Int)) (.int .i64 (m : Int))).run Try.prog w = .ok (.slice (some ⟨w.heap.size, 0, none⟩) m m) w' ∧ Rd .u8 w' (some ⟨w.heap.size, 0, none⟩) (List.replicate m 0) ∧ w.grownBy w' none := by
  obtain ⟨i0, hi, hz0, hz1, hz2⟩ := info_parts Try.info5
  obtain ⟨w', h1, h2, h3⟩ := run_makeSlice_full (P := Try.prog) (w := w) 0 32 5 i0 _ 1 Try.underlying32 hi hz0 hz1 .i64 .i64 m (by omega) (by rw [hz2]; omega) (by unfold maxLen; omega) (Nat.zero_le _)
  refine ⟨w', h1, ?_, h3⟩
  have e : (madeCells (Value.int .u8 0).cells (m * 1)).toList = (List.replicate m (0 : Int)).map (Value.int .u8) := by
    rw [show (Value.int .u8 0).cells = #[Value.int .u8 0] from rfl, Nat.mul_one, toList_madeCells_one]
    simp
  rw [e] at h2
  obtain ⟨a, c, e1, _, hr⟩ := own_rd h2
  cases e1
  exact hr
theorem wi_room {R : Nat} (h : R ≤ 3000) : wi (R : Int) 16777216 = (R : Int) := by
  unfold wi
  split
  · rw [if_pos (by decide)]; omega
  · rw [if_pos (by omega)]
set_option linter.unusedSimpArgs false in
set_option maxRecDepth 100000 in
set_option maxHeartbeats 16000000 in
theorem simfsRoom_walk (room : Int) (a : Option Addr) (len cap : Nat) (L : Nat → Nat) (Z : Nat → List Int) {w : World} (hI : Rws w a len L Z) (hroom : -9223372036854775808 ≤ room ∧ room ≤ 9223372036854775807) :
    Calls Try.prog 7 #[.int .i64 room, .slice a len cap] w fun e w' => e = .returned (.bool true) ∧ Below w.heap.size w w' := by
  have HI : Hid (Rws w a len L Z) := hI
  clear hI
  go_enter Try.func7, Try.ntmps7
  go_wp2_with fail
  refine (awake_any _).mono ?_
  rintro e w1 ⟨rfl, b1⟩
  have HB1 : Hid (Below w.heap.size w w1) := b1
  clear b1
  by_cases hbad : room < 0 ∨ 3000 < room ∨ 20 < len
  · have hend : ∀ w2, w2 = w1.alloc (.cells #[.int .i64 (wi (-7) 16777216), .int .i64 0, .map none, .map none, .slice none 0 0, .bool false, .int .i64 0] 67) → Calls Try.prog 24 #[.pointer (some ⟨w1.heap.size, 0, none⟩), .string A1] w2 fun e w' => e = .returned (.int .i64 0) ∧ Below w.heap.size w w' := fun w2 hw2 => by
      rw [show wi (-7) 16777216 = 0 by decide] at hw2
      have HS2 : St w2 w1.heap.size (xnew 0) 0 0 (fun _ => none) (fun _ => none) [] := by rw [hw2]; exact st_new _ _
      have L2 : Lo w1 w2 w1.heap.size (xnew 0) := by rw [hw2]; exact Lo.new _ _
      refine (st_create (s := A1) HS2 a1_size (by decide) rfl (by decide)).mono ?_
      rintro e w3 ⟨rfl, x3, g, m3, _⟩
      exact ⟨rfl, HB1.out.trans ((L2.mv m3).be.mono HB1.out.size)⟩
    have HEND : Hid _ := hend
    clear hend
    rcases (show room < 0 ∨ (¬ room < 0 ∧ 3000 < room) ∨ (¬ room < 0 ∧ ¬ 3000 < room ∧ (20 : Int) < (len : Int)) by omega) with h1 | ⟨h1, h2⟩ | ⟨h1, h2, h3⟩
    all_goals
      go_wp2_with fail
      refine Calls.mono (new_any _ _) ?_
      rintro e w2 ⟨rfl, hw2⟩
      go_wp2_with fail
      refine Calls.mono (HEND.out _ rfl) ?_
      rintro e w3 ⟨rfl, hb⟩
      go_wp2_with fail
      go_ret
      exact ⟨rfl, hb⟩
  have h1 : ¬ room < 0 := by omega
  have h2 : ¬ 3000 < room := by omega
  have h3 : ¬ (20 : Int) < (len : Int) := by omega
  have hlen20 : len ≤ 20 := by omega
  clear hbad hroom
  obtain ⟨R, rfl⟩ : ∃ R : Nat, room = (R : Int) := ⟨room.toNat, by omega⟩
  have hR : R ≤ 3000 := by omega
  go_wp2_with fail
  refine Calls.mono (new_any _ _) ?_
  rintro e w2 ⟨rfl, hw2⟩
  rw [wi_room hR] at hw2
  have HS2 : Hid (St w2 w1.heap.size (xnew R) R 0 (fun _ => none) (fun _ => none) []) := by rw [hw2]; exact st_new _ _
  have L2 : Hid (Lo w1 w2 w1.heap.size (xnew R)) := by rw [hw2]; exact Lo.new _ _
  clear hw2
  go_wp2_with fail
  refine Calls.mono (st_create (s := A1) HS2.out a1_size (by decide) rfl (by decide)) ?_
  rintro e w3 ⟨rfl, x3, g, m3, hg3, h3, hb3, hs3, _⟩
  rw [chg_pa] at h3
  have HS3 : Hid (St w3 w1.heap.size x3 R 2 (PA g) (fun _ => none) [(⟨#[]⟩, A1, some g)]) := h3
  have L3 : Hid (Lo w1 w3 w1.heap.size x3) := L2.out.mv m3
  have HF3 : Hid (x3.bs g = []) := hb3
  clear h3 m3 hb3 hs3
  go_wp2_with fail
  refine Calls.mono (st_create (s := B1) HS3.out b1_size (by decide) (by rfl) (by decide)) ?_
  rintro e w4 ⟨rfl, x4, h, m4, hg4, h4, hb4, hs4, but4⟩
  rw [chg_pb] at h4
  have hgh : g ≠ h := by
    have := HS3.out.fw.lt (.inr (.inr (.inr (.inr (.inl (HS3.out.kg (s := A1) (if_pos rfl)))))))
    omega
  have HGH : Hid (g ≠ h) := hgh
  have HS4 : Hid (St w4 w1.heap.size x4 R 4 (PB g h) (fun _ => none) [(⟨#[]⟩, A1, some g), (⟨#[]⟩, B1, some h)]) := h4
  have L4 : Hid (Lo w1 w4 w1.heap.size x4) := L3.out.mv m4
  have HF4 : Hid (x4.bs g = [] ∧ x4.bs h = []) := ⟨(but4 g hgh).1.trans HF3.out, hb4⟩
  clear h4 m4 hb4 hs4 but4 hgh
  go_wp2_with fail
  go_loopw [8, 7, 9, 10, 11, 4] (fun i u _ _ _ _ wr => ∃ (k : Nat) (x : X) (zA zB : List Int), i = .int .i64 (k : Int) ∧ u = .int .i64 ((zA.length + zB.length : Nat) : Int) ∧ k ≤ len ∧ Hid (Lo w1 wr w1.heap.size x) ∧ Hid (St wr w1.heap.size x R 4 (PB g h) (fun _ => none) [(⟨#[]⟩, A1, some g), (⟨#[]⟩, B1, some h)]) ∧ Hid (x.bs g = zA ∧ x.bs h = zB) ∧ zA.length + zB.length ≤ R) (fun i _ _ _ _ _ _ => len - (intOf i).toNat)
  case atStart => exact ⟨0, x4, [], [], rfl, rfl, Nat.zero_le _, L4.out, HS4.out, HF4.out, Nat.zero_le _⟩
  case round =>
    obtain ⟨k, x, zA, zB, rfl, rfl, hk, hL, hS, hF, hle⟩ := hrel
    by_cases hlt : k < len
    · have hlt' : (k : Int) < (len : Int) := by omega
      obtain ⟨gI, off, A, C, rfl, hgI, hr⟩ := (HI.out.below HB1.out).resolve_left (by omega)
      have HR1 : Hid (∀ W, Below w1.heap.size w1 W → W.cell? ⟨gI, off + k, none⟩ = some (.slice (A k) (L k) (C k)) ∧ Rd .u8 W (A k) (Z k)) := fun W hW => ⟨(hW.cell (p := ⟨gI, off + k, none⟩) hgI).trans (hr k hlt).1, (hr k hlt).2.2.1.below hW⟩
      have HZ : Hid ((Z k).length = L k ∧ (A k = none → C k = 0 ∧ L k = 0)) := ⟨(hr k hlt).2.1, (hr k hlt).2.2.2⟩
      clear hr
      obtain ⟨Lk, hLk⟩ : ∃ Lk, Lk = L k := ⟨_, rfl⟩
      obtain ⟨Ak, hAk⟩ : ∃ Ak, Ak = A k := ⟨_, rfl⟩
      obtain ⟨Ck, hCk⟩ : ∃ Ck, Ck = C k := ⟨_, rfl⟩
      obtain ⟨zk, hzk⟩ : ∃ zk, zk = Z k := ⟨_, rfl⟩
      rw [← hLk, ← hAk, ← hCk, ← hzk] at HZ
      rw [← hLk, ← hAk, ← hCk, ← hzk] at HR1
      clear hLk hAk hCk hzk
      have c0 := (HR1.out wr hL.out.be).1
      by_cases hL3 : Lk ≤ 300
      · have hL3' : ¬ (300 : Int) < (Lk : Int) := by omega
        rcases (show (k : Int) % 2 = 0 ∨ (k : Int) % 2 = 1 by omega) with hp | hp
        · have hpb : bits .and .i64 (k : Int) 1 = 0 := by rw [i64_and1, hp]
          clear hp
          go_wp2_with fail
          by_cases hfit : zA.length + zB.length + Lk ≤ R
          · have hfit' : ((zA.length + zB.length : Nat) : Int) + (Lk : Int) ≤ (R : Int) := by omega
            refine Calls.mono (st_append (s := A1) hS.out a1_size (pb_a g h) Ak Lk Ck zk HZ.out.1 (HR1.out wr hL.out.be).2 (rd_out (HR1.out w1 (Below.refl _ _)).2 hL.out.ft) HZ.out.2 (by rw [hF.out.1]; omega) 2 _ (held_pb (hS.out.kg (pb_a g h)) (hS.out.kg (pb_b g h)) HGH.out) (by decide) (.inr (by simp [lens, hF.out.1, hF.out.2]; omega))) ?_
            rintro e w5 ⟨rfl, x5, m5, h5, hb5, hs5, but5⟩
            have HS5 : Hid (St w5 w1.heap.size x5 R 4 (PB g h) (fun _ => none) [(⟨#[]⟩, A1, some g), (⟨#[]⟩, B1, some h)]) := h5
            have L5 : Hid (Lo w1 w5 w1.heap.size x5) := hL.out.mv m5
            have HF5 : Hid (x5.bs g = zA ++ zk ∧ x5.bs h = zB) := ⟨by rw [hb5, hF.out.1], (but5 h (Ne.symm HGH.out)).1.trans hF.out.2⟩
            have c5 := (HR1.out w5 L5.out.be).1
            clear h5 m5 hb5 hs5 but5
            go_wp2_with fail
            refine Calls.mono (st_used HS5.out (held_pb (HS5.out.kg (pb_a g h)) (HS5.out.kg (pb_b g h)) HGH.out)) ?_
            rintro e w6 ⟨rfl, hb6⟩
            have hlens : lens x5.bs [(⟨g, HS5.out.kg (pb_a g h)⟩ : { g : Nat // x5.K g }), ⟨h, HS5.out.kg (pb_b g h)⟩] = ((((zA ++ zk).length + (zB).length : Nat)) : Int) := by
              simp [lens, HF5.out.1, HF5.out.2]
            rw [hlens]
            have hnum : (((zA ++ zk).length + (zB).length : Nat) : Int) = ((zA.length + zB.length : Nat) : Int) + (Lk : Int) := by
              have := HZ.out.1
              simp only [List.length_append]
              omega
            rw [hnum]
            have L6 : Hid (Lo w1 w6 w1.heap.size x5) := L5.out.below hb6
            have HS6 : Hid (St w6 w1.heap.size x5 R 4 (PB g h) (fun _ => none) [(⟨#[]⟩, A1, some g), (⟨#[]⟩, B1, some h)]) := HS5.out.below hb6
            have HN : Hid ((((zA ++ zk).length + (zB).length : Nat) : Int) = ((zA.length + zB.length : Nat) : Int) + (Lk : Int)) := hnum
            clear hb6 hlens hnum c5
            go_wp2_with fail
            go_roundw
            case rel =>
              refine ⟨k + 1, x5, zA ++ zk, zB, by go_num, ?_, by omega, L6.out, HS6.out, HF5.out, by have := HN.out; omega⟩
              rw [HN.out]
              first | rfl | go_num
            case measure => simp [intOf]; omega
          · have hfit' : ¬ ((zA.length + zB.length : Nat) : Int) + (Lk : Int) ≤ (R : Int) := by omega
            have hLk0 : (Lk : Int) ≠ 0 := by omega
            have hLkb : ((Lk : Int) == 0) = false := by simpa using hLk0
            have hfit2 : ¬ (zA.length : Int) + (zB.length : Int) + (Lk : Int) ≤ (R : Int) := by omega
            refine Calls.mono (st_full (s := A1) hS.out a1_size (pb_a g h) Ak Lk Ck (by rw [hF.out.1]; omega) (by omega) 2 _ (held_pb (hS.out.kg (pb_a g h)) (hS.out.kg (pb_b g h)) HGH.out) (by decide) (by simp [lens, hF.out.1, hF.out.2]; omega)) ?_
            rintro e w5 ⟨rfl, m5, h5⟩
            have HS5 : Hid (St w5 w1.heap.size x R 4 (PB g h) (fun _ => none) [(⟨#[]⟩, A1, some g), (⟨#[]⟩, B1, some h)]) := h5
            have L5 : Hid (Lo w1 w5 w1.heap.size x) := hL.out.mv m5
            have c5 := (HR1.out w5 L5.out.be).1
            clear h5 m5
            go_wp2_with fail
            refine Calls.mono (st_used HS5.out (held_pb (HS5.out.kg (pb_a g h)) (HS5.out.kg (pb_b g h)) HGH.out)) ?_
            rintro e w6 ⟨rfl, hb6⟩
            have hlens : lens x.bs [(⟨g, HS5.out.kg (pb_a g h)⟩ : { g : Nat // x.K g }), ⟨h, HS5.out.kg (pb_b g h)⟩] = ((zA.length + zB.length : Nat) : Int) := by
              simp [lens, hF.out.1, hF.out.2]
            rw [hlens]
            have L6 : Hid (Lo w1 w6 w1.heap.size x) := L5.out.below hb6
            have HS6 : Hid (St w6 w1.heap.size x R 4 (PB g h) (fun _ => none) [(⟨#[]⟩, A1, some g), (⟨#[]⟩, B1, some h)]) := HS5.out.below hb6
            clear hb6 hlens c5
            go_wp2_with fail
            go_roundw
            case rel => exact ⟨k + 1, x, zA, zB, by go_num, rfl, by omega, L6.out, HS6.out, hF.out, hle⟩
            case measure => simp [intOf]; omega
        · have hpb : bits .and .i64 (k : Int) 1 = 1 := by rw [i64_and1, hp]
          clear hp
          go_wp2_with fail
          by_cases hfit : zA.length + zB.length + Lk ≤ R
          · have hfit' : ((zA.length + zB.length : Nat) : Int) + (Lk : Int) ≤ (R : Int) := by omega
            refine Calls.mono (st_append (s := B1) hS.out b1_size (pb_b g h) Ak Lk Ck zk HZ.out.1 (HR1.out wr hL.out.be).2 (rd_out (HR1.out w1 (Below.refl _ _)).2 hL.out.ft) HZ.out.2 (by rw [hF.out.2]; omega) 2 _ (held_pb (hS.out.kg (pb_a g h)) (hS.out.kg (pb_b g h)) HGH.out) (by decide) (.inr (by simp [lens, hF.out.1, hF.out.2]; omega))) ?_
            rintro e w5 ⟨rfl, x5, m5, h5, hb5, hs5, but5⟩
            have HS5 : Hid (St w5 w1.heap.size x5 R 4 (PB g h) (fun _ => none) [(⟨#[]⟩, A1, some g), (⟨#[]⟩, B1, some h)]) := h5
            have L5 : Hid (Lo w1 w5 w1.heap.size x5) := hL.out.mv m5
            have HF5 : Hid (x5.bs g = zA ∧ x5.bs h = zB ++ zk) := ⟨(but5 g HGH.out).1.trans hF.out.1, by rw [hb5, hF.out.2]⟩
            have c5 := (HR1.out w5 L5.out.be).1
            clear h5 m5 hb5 hs5 but5
            go_wp2_with fail
            refine Calls.mono (st_used HS5.out (held_pb (HS5.out.kg (pb_a g h)) (HS5.out.kg (pb_b g h)) HGH.out)) ?_
            rintro e w6 ⟨rfl, hb6⟩
            have hlens : lens x5.bs [(⟨g, HS5.out.kg (pb_a g h)⟩ : { g : Nat // x5.K g }), ⟨h, HS5.out.kg (pb_b g h)⟩] = ((((zA).length + (zB ++ zk).length : Nat)) : Int) := by
              simp [lens, HF5.out.1, HF5.out.2]
            rw [hlens]
            have hnum : (((zA).length + (zB ++ zk).length : Nat) : Int) = ((zA.length + zB.length : Nat) : Int) + (Lk : Int) := by
              have := HZ.out.1
              simp only [List.length_append]
              omega
            rw [hnum]
            have L6 : Hid (Lo w1 w6 w1.heap.size x5) := L5.out.below hb6
            have HS6 : Hid (St w6 w1.heap.size x5 R 4 (PB g h) (fun _ => none) [(⟨#[]⟩, A1, some g), (⟨#[]⟩, B1, some h)]) := HS5.out.below hb6
            have HN : Hid ((((zA).length + (zB ++ zk).length : Nat) : Int) = ((zA.length + zB.length : Nat) : Int) + (Lk : Int)) := hnum
            clear hb6 hlens hnum c5
            go_wp2_with fail
            go_roundw
            case rel =>
              refine ⟨k + 1, x5, zA, zB ++ zk, by go_num, ?_, by omega, L6.out, HS6.out, HF5.out, by have := HN.out; omega⟩
              rw [HN.out]
              first | rfl | go_num
            case measure => simp [intOf]; omega
          · have hfit' : ¬ ((zA.length + zB.length : Nat) : Int) + (Lk : Int) ≤ (R : Int) := by omega
            have hLk0 : (Lk : Int) ≠ 0 := by omega
            have hLkb : ((Lk : Int) == 0) = false := by simpa using hLk0
            have hfit2 : ¬ (zA.length : Int) + (zB.length : Int) + (Lk : Int) ≤ (R : Int) := by omega
            refine Calls.mono (st_full (s := B1) hS.out b1_size (pb_b g h) Ak Lk Ck (by rw [hF.out.2]; omega) (by omega) 2 _ (held_pb (hS.out.kg (pb_a g h)) (hS.out.kg (pb_b g h)) HGH.out) (by decide) (by simp [lens, hF.out.1, hF.out.2]; omega)) ?_
            rintro e w5 ⟨rfl, m5, h5⟩
            have HS5 : Hid (St w5 w1.heap.size x R 4 (PB g h) (fun _ => none) [(⟨#[]⟩, A1, some g), (⟨#[]⟩, B1, some h)]) := h5
            have L5 : Hid (Lo w1 w5 w1.heap.size x) := hL.out.mv m5
            have c5 := (HR1.out w5 L5.out.be).1
            clear h5 m5
            go_wp2_with fail
            refine Calls.mono (st_used HS5.out (held_pb (HS5.out.kg (pb_a g h)) (HS5.out.kg (pb_b g h)) HGH.out)) ?_
            rintro e w6 ⟨rfl, hb6⟩
            have hlens : lens x.bs [(⟨g, HS5.out.kg (pb_a g h)⟩ : { g : Nat // x.K g }), ⟨h, HS5.out.kg (pb_b g h)⟩] = ((zA.length + zB.length : Nat) : Int) := by
              simp [lens, hF.out.1, hF.out.2]
            rw [hlens]
            have L6 : Hid (Lo w1 w6 w1.heap.size x) := L5.out.below hb6
            have HS6 : Hid (St w6 w1.heap.size x R 4 (PB g h) (fun _ => none) [(⟨#[]⟩, A1, some g), (⟨#[]⟩, B1, some h)]) := HS5.out.below hb6
            clear hb6 hlens c5
            go_wp2_with fail
            go_roundw
            case rel => exact ⟨k + 1, x, zA, zB, by go_num, rfl, by omega, L6.out, HS6.out, hF.out, hle⟩
            case measure => simp [intOf]; omega
      · have hL3' : (300 : Int) < (Lk : Int) := by omega
        go_wp2_with fail
        go_ret
        exact ⟨rfl, HB1.out.trans (hL.out.be.mono HB1.out.size)⟩
    · have hlt' : ¬ (k : Int) < (len : Int) := by omega
      have hke : k = len := by omega
      subst hke
      go_wp2_with fail
      refine Calls.mono (st_remove (s := A1) hS.out a1_size (pb_a g h) (by decide)) ?_
      rintro e w5 ⟨rfl, x5, m5, h5, hb5, hs5⟩
      rw [chg_pc] at h5
      have HS5 : Hid (St w5 w1.heap.size x5 R 5 (PC h) (fun _ => none) _) := h5
      have L5 : Hid (Lo w1 w5 w1.heap.size x5) := hL.out.mv m5
      have HF5 : Hid (x5.bs h = zB) := by show _ = _; rw [hb5]; exact hF.out.2
      clear h5 m5 hb5 hs5
      go_wp2_with fail
      refine Calls.mono (st_read (s := B1) HS5.out b1_size (pc_b h)) ?_
      rw [HF5.out]
      rintro e w6 ⟨rfl, _, _, hb6⟩
      have HS6 : Hid (St w6 w1.heap.size x5 R 5 (PC h) (fun _ => none) _) := HS5.out.below hb6
      have L6 : Hid (Lo w1 w6 w1.heap.size x5) := L5.out.below hb6
      clear hb6
      obtain ⟨m, hm⟩ : ∃ m : Nat, R = zB.length + m := ⟨R - zB.length, by omega⟩
      have hsub : (R : Int) - (zB.length : Int) = (m : Int) := by omega
      obtain ⟨w7, hrun, hrd7, hg7⟩ := mk_bytes w6 m (by omega)
      rw [← hsub] at hrun
      have hb7 : Below w6.heap.size w6 w7 := (Below.refl _ _).grown hg7 (Nat.le_refl _) (fun j hj => by cases hj)
      have HS7 : Hid (St w7 w1.heap.size x5 R 5 (PC h) (fun _ => none) _) := HS6.out.below hb7
      have L7 : Hid (Lo w1 w7 w1.heap.size x5) := L6.out.below hb7
      have HRD : Hid (Rd .u8 w7 (some ⟨w6.heap.size, 0, none⟩) (List.replicate m 0)) := hrd7
      have HM : Hid (R = zB.length + m) := hm
      clear hrd7 hg7 hb7 hm hsub
      go_wp2_with fail
      have hm := HM.out
      refine Calls.mono (st_append (s := B1) HS7.out b1_size (pc_b h) (some ⟨w6.heap.size, 0, none⟩) m m (List.replicate m 0) (by simp) HRD.out (fun _ ad e hf => by cases e; exact Nat.lt_irrefl _ (HS6.out.fw.lt hf)) (fun e => by cases e) (by rw [HF5.out]; omega) 2 _ (held_pc (HS7.out.kg (pc_b h))) (by decide) (.inr (by simp [lens, HF5.out]; omega))) ?_
      rintro e w8 ⟨rfl, x8, m8, h8, hb8, hs8, _⟩
      clear hm
      have HS8 : Hid (St w8 w1.heap.size x8 R 5 (PC h) (fun _ => none) _) := h8
      have L8 : Hid (Lo w1 w8 w1.heap.size x8) := L7.out.mv m8
      have HF8 : Hid (x8.bs h = zB ++ List.replicate m 0) := by show _ = _; rw [hb8, HF5.out]
      clear h8 m8 hb8 hs8
      go_wp2_with fail
      refine Calls.mono (st_used HS8.out (held_pc (HS8.out.kg (pc_b h)))) ?_
      rintro e w9 ⟨rfl, hb9⟩
      have hlens : lens x8.bs [(⟨h, HS8.out.kg (pc_b h)⟩ : { g : Nat // x8.K g })] = (R : Int) := by
        have := HM.out
        simp [lens, HF8.out]
        omega
      rw [hlens]
      have B9 : Hid (Below w.heap.size w w9) := HB1.out.trans ((L8.out.below hb9).be.mono HB1.out.size)
      clear hb9 hlens
      go_wp2_with fail
      go_ret
      exact ⟨rfl, B9.out⟩
end Go.Proofs.Ytkipcblbadkjnaa
