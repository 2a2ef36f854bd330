/- The contract of done: changes are done to a map of paths. Conditions: those of each theorem. -/
import Derived.Test.YtkipcblbadkjnaaF
import Derived.OwnWalk
import Derived.WalkMore
import Derived.WalkKit
import Derived.WalkSpells
import Derived.Carry
namespace Go.Proofs.Ytkipcblbadkjnaa
open Go.RowKit

/-- One change done to paths. -/
def chg1 (m : ByteArray → Option Nat) (c : Ch) : ByteArray → Option Nat := if c.2.1 = ⟨#[]⟩ then upd m c.1 none else upd (upd m c.1 none) c.2.1 c.2.2
def chg (m : ByteArray → Option Nat) (cs : List Ch) : ByteArray → Option Nat := cs.foldl chg1 m
theorem chg_snoc (m : ByteArray → Option Nat) (cs : List Ch) (k : Nat) (h : k < cs.length) : chg m (cs.take (k + 1)) = chg1 (chg m (cs.take k)) (cs.getD k c0) := by
  have e : cs.take (k + 1) = cs.take k ++ [cs.getD k c0] := by
    rw [List.take_succ_eq_append_getElem h]; simp [List.getD, h]
  rw [e]; simp [chg]
/-- A change that may be done: its paths are texts, and a path that is there has a file. -/
def okCh (c : Ch) : Prop := c.1.size ≤ maxLen ∧ c.2.1.size ≤ maxLen ∧ (c.2.1 ≠ ⟨#[]⟩ → ∃ g, c.2.2 = some g)
def mv : Option Nat → Value
  | none => .map none
  | some b => .map (some b)
/-- A map that may be nil. -/
def Mo (w : World) (o : Option Nat) (n : Nat) (m : ByteArray → Option Nat) : Prop :=
  match o with
  | none => m = fun _ => none
  | some b => Mp w b n m
theorem cell_map {w : World} {b n i : Nat} {m : ByteArray → Option Nat} (h : Mp w b n m) : w.cell? ⟨b, i, none⟩ = none := by
  obtain ⟨D, ⟨es, clock, hb, _⟩, _⟩ := h
  simp [World.cell?, hb]

set_option maxHeartbeats 1600000 in
set_option maxRecDepth 100000 in
theorem done_nil (n : Nat) (a : Option Addr) (len cap : Nat) (cs : List Ch) (w : World) (hl : cs.length = len) (hC : RdC w a cs) (hok : ∀ c ∈ cs, okCh c) (hn : n + len ≤ 4000000) :
    Calls Try.prog 55 #[.map none, .slice a len cap] w fun e w' => e = .returned (.map (some w.heap.size)) ∧ Mp w' w.heap.size (n + len) (chg (fun _ => none) cs) ∧ Kp (fun _ => False) w w' := by
  have HC : Hid (RdC w a cs) := hC
  have HL : Hid (cs.length = len) := hl
  have HO : Hid (∀ c ∈ cs, okCh c) := hok
  have HN : Hid (n + len < maxLen) := by
    show n + len < maxLen
    unfold maxLen; omega
  have hlen : len ≤ 4000000 := by omega
  clear hn

  clear hC hl hok
  have hnil : (binOp .eql 64 (.map none) (.map none)).run Try.prog w = .ok (.bool true) w := run_eql_map_nil (P := Try.prog) w 64 9 76 none Try.underlying64
  have hmk := run_makeMap (P := Try.prog) 64 w
  go_enter Try.func55, Try.ntmps55
  go_wp2
  go_loopw [12, 6] (fun i _ wr => ∃ k : Nat, k ≤ len ∧ i = .int .i64 k ∧ Hid (Mp wr w.heap.size (n + k) (chg (fun _ => none) (cs.take k))) ∧ Hid (Kp (fun _ => False) w wr)) (fun i _ _ => len - (intOf i).toNat)
  case atStart => exact ⟨0, Nat.zero_le _, rfl, (Mp.made w).mono (Nat.zero_le _), (Kp.refl _ _).alloc _⟩
  case round =>
    rename_i wr _ _
    obtain ⟨k, hk, rfl, HMp, HKp⟩ := hrel
    by_cases hlt : k < len
    · have hlt' : (k : Int) < (len : Int) := by omega
      have hkl : k < cs.length := by rw [HL.out]; exact hlt
      obtain ⟨g, off, rfl, hg, _, _, _⟩ := HC.out.at hkl
      have hnb : ¬ (False) := by
        intro h
        exact h
      have hCr : RdC wr (some ⟨g, off, none⟩) cs := HC.out.kp HKp.out (fun ad had => by cases had; exact hnb)
      obtain ⟨g', off', e, hg', c0', c1', c2'⟩ := hCr.at hkl
      cases e
      clear hCr
      obtain ⟨x, hx⟩ : ∃ x, Hid (x = cs.getD k c0) := ⟨_, rfl⟩
      have HK : Hid (chg (fun _ => none) (cs.take (k + 1)) = chg1 (chg (fun _ => none) (cs.take k)) x) := by
        show chg (fun _ => none) (cs.take (k + 1)) = _
        rw [chg_snoc _ _ _ hkl, ← hx.out]
      have hox : okCh x := by
        rw [hx.out]; simp only [List.getD, List.getElem?_eq_getElem hkl, Option.getD_some]; exact HO.out _ (List.getElem_mem hkl)
      rw [← hx.out] at c0' c1' c2'
      clear hkl
      obtain ⟨gone, there, file⟩ := x
      obtain ⟨hs1, hs2, hs3⟩ := hox
      simp only at c0' c1' c2' hs1 hs2 hs3
      have hbs := HKp.out.size
      have hbne : w.heap.size ≠ wr.heap.size := Nat.ne_of_lt HMp.out.lt
      by_cases e : there = ⟨#[]⟩
      · have e' : there.toList.isEmpty = true := by rw [e, ByteArray.toList_eq]; rfl
        have HK2 : Hid (chg (fun _ => none) (cs.take (k + 1)) = upd (chg (fun _ => none) (cs.take k)) gone none) := HK.out.trans (if_pos e)
        clear e hs3 HK hx
        cases file <;> simp only [pv] at c2'
        all_goals
          go_wp2_with (refine wpList_mdel _ rfl (.tmp 16) (.tmp 18) rfl w.heap.size (n + k) (chg (fun _ => none) (cs.take k)) rfl (HMp.out.kp ((Kp.refl (fun _ => False) wr).alloc _) (fun h => h)) gone rfl hs1 ?_; intro w2 hM2 hG2; have HM2 : Hid (Mp w2 w.heap.size (n + k) _) := hM2; have HG2 : Hid (World.grownBy _ w2 _) := hG2; have hbl := (hG2.block wr.heap.size (by simp) (fun h => hbne (Option.some.inj h.symm))); have c1x := (World.cell?_of_block (w := wr.alloc _) (w' := w2) (a := ⟨wr.heap.size, 1, none⟩) hbl); have c2x := (World.cell?_of_block (w := wr.alloc _) (w' := w2) (a := ⟨wr.heap.size, 2, none⟩) hbl); simp at c1x c2x; clear hM2 hG2 hbl)
          go_roundw
          case rel =>
            refine ⟨k + 1, by omega, by go_num, ?_, (HKp.out.alloc _).trans (Kp.grown (P := fun x => x = w.heap.size) HG2.out (fun x h => (Option.some.inj h).symm)) (fun x e => .inr (by have h0 : x = w.heap.size := e; omega))⟩
            show Mp w2 _ _ _
            rw [HK2.out]
            exact HM2.out.mono (by omega)
          case measure => simp [intOf]; omega
      · have e' : there.toList.isEmpty = false := by
          rw [ByteArray.toList_eq]
          cases hd : there.data.toList with
          | nil => exact absurd (ByteArray.ext (Array.toList_inj.1 hd)) e
          | cons _ _ => rfl
        obtain ⟨fg, rfl⟩ := hs3 e
        have HK2 : Hid (chg (fun _ => none) (cs.take (k + 1)) = upd (upd (chg (fun _ => none) (cs.take k)) gone none) there (some fg)) := HK.out.trans (if_neg e)
        clear e hs3 HK hx
        simp only [pv] at c2'
        have hnk : n + k < maxLen := Nat.lt_of_le_of_lt (Nat.add_le_add_left hk n) HN.out
        have HNk : Hid (n + k < maxLen) := hnk
        clear hnk
        go_wp2_with (first
          | (refine wpList_mdel _ rfl (.tmp 16) (.tmp 18) rfl w.heap.size (n + k) (chg (fun _ => none) (cs.take k)) rfl (HMp.out.kp ((Kp.refl (fun _ => False) wr).alloc _) (fun h => h)) gone rfl hs1 ?_; intro w2 hM2 hG2; have HM2 : Hid (Mp w2 w.heap.size (n + k) _) := hM2; have HG2 : Hid (World.grownBy _ w2 _) := hG2; have hbl := (hG2.block wr.heap.size (by simp) (fun h => hbne (Option.some.inj h.symm))); have c1x := (World.cell?_of_block (w := wr.alloc _) (w' := w2) (a := ⟨wr.heap.size, 1, none⟩) hbl); have c2x := (World.cell?_of_block (w := wr.alloc _) (w' := w2) (a := ⟨wr.heap.size, 2, none⟩) hbl); simp at c1x c2x; clear hM2 hG2 hbl)
          | (refine wpList_mput _ rfl (.tmp 22) (.tmp 24) (.tmp 26) rfl w.heap.size (n + k) (upd (chg (fun _ => none) (cs.take k)) gone none) rfl HM2.out there rfl hs2 fg rfl HNk.out ?_; intro w3 hM3 hG3; have HM3 : Hid (Mp w3 w.heap.size (n + k + 1) _) := hM3; have HG3 : Hid (World.grownBy w2 w3 _) := hG3; clear hM3 hG3))
        go_roundw
        case rel =>
          refine ⟨k + 1, by omega, by go_num, ?_, ((HKp.out.alloc _).trans (Kp.grown (P := fun x => x = w.heap.size) HG2.out (fun x h => (Option.some.inj h).symm)) (fun x e => .inr (by have h0 : x = w.heap.size := e; omega))).trans (Kp.grown (P := fun x => x = w.heap.size) HG3.out (fun x h => (Option.some.inj h).symm)) (fun x e => .inr (by have h0 : x = w.heap.size := e; omega))⟩
          show Mp w3 _ _ _
          rw [HK2.out]
          exact HM3.out
        case measure => simp [intOf]; omega
    · have hlt' : ¬ (k : Int) < (len : Int) := by omega
      obtain rfl : k = len := by omega
      go_wp2_with fail
      go_ret
      refine ⟨rfl, ?_, HKp.out⟩
      have := HMp.out
      rwa [List.take_of_length_le (by rw [HL.out]; exact Nat.le_refl _)] at this

set_option maxHeartbeats 1600000 in
set_option maxRecDepth 100000 in
theorem done_some (mb n : Nat) (m : ByteArray → Option Nat) (a : Option Addr) (len cap : Nat) (cs : List Ch) (w : World) (hM : Mp w mb n m) (hl : cs.length = len) (hC : RdC w a cs) (hok : ∀ c ∈ cs, okCh c) (hn : n + len ≤ 4000000) :
    Calls Try.prog 55 #[.map (some mb), .slice a len cap] w fun e w' => e = .returned (.map (some mb)) ∧ Mp w' mb (n + len) (chg m cs) ∧ Kp (fun k => k = mb) w w' := by
  have HC : Hid (RdC w a cs) := hC
  have HL : Hid (cs.length = len) := hl
  have HO : Hid (∀ c ∈ cs, okCh c) := hok
  have HN : Hid (n + len < maxLen) := by
    show n + len < maxLen
    unfold maxLen; omega
  have hlen : len ≤ 4000000 := by omega
  clear hn
  have HM : Hid (Mp w mb n m) := hM
  clear hM
  clear hC hl hok
  have hnil : (binOp .eql 64 (.map (some mb)) (.map none)).run Try.prog w = .ok (.bool false) w := run_eql_map_nil (P := Try.prog) w 64 9 76 (some mb) Try.underlying64
  go_enter Try.func55, Try.ntmps55
  go_wp2
  go_loopw [12, 6] (fun i _ wr => ∃ k : Nat, k ≤ len ∧ i = .int .i64 k ∧ Hid (Mp wr mb (n + k) (chg m (cs.take k))) ∧ Hid (Kp (fun x => x = mb) w wr)) (fun i _ _ => len - (intOf i).toNat)
  case atStart => exact ⟨0, Nat.zero_le _, rfl, HM.out, Kp.refl _ _⟩
  case round =>
    rename_i wr _ _
    obtain ⟨k, hk, rfl, HMp, HKp⟩ := hrel
    by_cases hlt : k < len
    · have hlt' : (k : Int) < (len : Int) := by omega
      have hkl : k < cs.length := by rw [HL.out]; exact hlt
      obtain ⟨g, off, rfl, hg, _, _, _⟩ := HC.out.at hkl
      have hnb : ¬ (g = mb) := by
        intro h
        subst h
        have := (HM.out).lt
        simp_all [cell_map HM.out]
      have hCr : RdC wr (some ⟨g, off, none⟩) cs := HC.out.kp HKp.out (fun ad had => by cases had; exact hnb)
      obtain ⟨g', off', e, hg', c0', c1', c2'⟩ := hCr.at hkl
      cases e
      clear hCr
      obtain ⟨x, hx⟩ : ∃ x, Hid (x = cs.getD k c0) := ⟨_, rfl⟩
      have HK : Hid (chg m (cs.take (k + 1)) = chg1 (chg m (cs.take k)) x) := by
        show chg m (cs.take (k + 1)) = _
        rw [chg_snoc _ _ _ hkl, ← hx.out]
      have hox : okCh x := by
        rw [hx.out]; simp only [List.getD, List.getElem?_eq_getElem hkl, Option.getD_some]; exact HO.out _ (List.getElem_mem hkl)
      rw [← hx.out] at c0' c1' c2'
      clear hkl
      obtain ⟨gone, there, file⟩ := x
      obtain ⟨hs1, hs2, hs3⟩ := hox
      simp only at c0' c1' c2' hs1 hs2 hs3
      have hbs := HKp.out.size
      have hbne : mb ≠ wr.heap.size := Nat.ne_of_lt HMp.out.lt
      by_cases e : there = ⟨#[]⟩
      · have e' : there.toList.isEmpty = true := by rw [e, ByteArray.toList_eq]; rfl
        have HK2 : Hid (chg m (cs.take (k + 1)) = upd (chg m (cs.take k)) gone none) := HK.out.trans (if_pos e)
        clear e hs3 HK hx
        cases file <;> simp only [pv] at c2'
        all_goals
          go_wp2_with (refine wpList_mdel _ rfl (.tmp 16) (.tmp 18) rfl mb (n + k) (chg m (cs.take k)) rfl (HMp.out.kp ((Kp.refl (fun _ => False) wr).alloc _) (fun h => h)) gone rfl hs1 ?_; intro w2 hM2 hG2; have HM2 : Hid (Mp w2 mb (n + k) _) := hM2; have HG2 : Hid (World.grownBy _ w2 _) := hG2; have hbl := (hG2.block wr.heap.size (by simp) (fun h => hbne (Option.some.inj h.symm))); have c1x := (World.cell?_of_block (w := wr.alloc _) (w' := w2) (a := ⟨wr.heap.size, 1, none⟩) hbl); have c2x := (World.cell?_of_block (w := wr.alloc _) (w' := w2) (a := ⟨wr.heap.size, 2, none⟩) hbl); simp at c1x c2x; clear hM2 hG2 hbl)
          go_roundw
          case rel =>
            refine ⟨k + 1, by omega, by go_num, ?_, (HKp.out.alloc _).trans (Kp.grown (P := fun x => x = mb) HG2.out (fun x h => (Option.some.inj h).symm)) (fun x e => .inl e)⟩
            show Mp w2 _ _ _
            rw [HK2.out]
            exact HM2.out.mono (by omega)
          case measure => simp [intOf]; omega
      · have e' : there.toList.isEmpty = false := by
          rw [ByteArray.toList_eq]
          cases hd : there.data.toList with
          | nil => exact absurd (ByteArray.ext (Array.toList_inj.1 hd)) e
          | cons _ _ => rfl
        obtain ⟨fg, rfl⟩ := hs3 e
        have HK2 : Hid (chg m (cs.take (k + 1)) = upd (upd (chg m (cs.take k)) gone none) there (some fg)) := HK.out.trans (if_neg e)
        clear e hs3 HK hx
        simp only [pv] at c2'
        have hnk : n + k < maxLen := Nat.lt_of_le_of_lt (Nat.add_le_add_left hk n) HN.out
        have HNk : Hid (n + k < maxLen) := hnk
        clear hnk
        go_wp2_with (first
          | (refine wpList_mdel _ rfl (.tmp 16) (.tmp 18) rfl mb (n + k) (chg m (cs.take k)) rfl (HMp.out.kp ((Kp.refl (fun _ => False) wr).alloc _) (fun h => h)) gone rfl hs1 ?_; intro w2 hM2 hG2; have HM2 : Hid (Mp w2 mb (n + k) _) := hM2; have HG2 : Hid (World.grownBy _ w2 _) := hG2; have hbl := (hG2.block wr.heap.size (by simp) (fun h => hbne (Option.some.inj h.symm))); have c1x := (World.cell?_of_block (w := wr.alloc _) (w' := w2) (a := ⟨wr.heap.size, 1, none⟩) hbl); have c2x := (World.cell?_of_block (w := wr.alloc _) (w' := w2) (a := ⟨wr.heap.size, 2, none⟩) hbl); simp at c1x c2x; clear hM2 hG2 hbl)
          | (refine wpList_mput _ rfl (.tmp 22) (.tmp 24) (.tmp 26) rfl mb (n + k) (upd (chg m (cs.take k)) gone none) rfl HM2.out there rfl hs2 fg rfl HNk.out ?_; intro w3 hM3 hG3; have HM3 : Hid (Mp w3 mb (n + k + 1) _) := hM3; have HG3 : Hid (World.grownBy w2 w3 _) := hG3; clear hM3 hG3))
        go_roundw
        case rel =>
          refine ⟨k + 1, by omega, by go_num, ?_, ((HKp.out.alloc _).trans (Kp.grown (P := fun x => x = mb) HG2.out (fun x h => (Option.some.inj h).symm)) (fun x e => .inl e)).trans (Kp.grown (P := fun x => x = mb) HG3.out (fun x h => (Option.some.inj h).symm)) (fun x e => .inl e)⟩
          show Mp w3 _ _ _
          rw [HK2.out]
          exact HM3.out
        case measure => simp [intOf]; omega
    · have hlt' : ¬ (k : Int) < (len : Int) := by omega
      obtain rfl : k = len := by omega
      go_wp2_with fail
      go_ret
      refine ⟨rfl, ?_, HKp.out⟩
      have := HMp.out
      rwa [List.take_of_length_le (by rw [HL.out]; exact Nat.le_refl _)] at this
end Go.Proofs.Ytkipcblbadkjnaa
