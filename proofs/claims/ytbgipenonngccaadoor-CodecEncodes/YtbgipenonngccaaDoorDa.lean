/- The contract of Decode of a row's code, whole and with its last byte cut off. Conditions: the table of the fewest holds what it is laid with; at most 4096 numbers, at most 1000 bytes behind. -/
import Derived.Test.YtbgipenonngccaaDoorX
namespace Go.Proofs.YtbgipenonngccaaDoor
open Go.RowKit

/-- What Decode tells of a code. -/
def DecIs (l behind : List Int) (w : World) (e : Ending) (w' : World) : Prop :=
  ∃ h h', e = .returned (.tuple #[.slice (some ⟨h, 0, none⟩) l.length l.length, .slice (some ⟨h', 0, none⟩) behind.length behind.length, .int .i64 0]) ∧
    w'.rowIs h 2 l.length (fun i => .int .i64 (l.getD i 0)) ∧ w'.ownsRow w.heap.size 5 1 (.slice (some ⟨h', 0, none⟩) behind.length behind.length) behind.length (behind.map (Value.int .u8)) ∧ Below w.heap.size w w'

def TakeIs (u r : Nat) (rest : List Int) (w : World) (e : Ending) (w' : World) : Prop :=
  ∃ h, e = .returned (.tuple #[.int .u64 (u : Int), .slice (some ⟨h, 0, none⟩) r r, .int .i64 0]) ∧ w'.ownsRow w.heap.size 5 1 (.slice (some ⟨h, 0, none⟩) r r) r (rest.map (Value.int .u8)) ∧ h < w'.heap.size ∧ Below w.heap.size w w'
theorem take_is (g off cap t : Nat) (u : Nat) (rest : List Int) (w : World) (ht : t = (bs u ++ rest).length) (hu : u < 18446744073709551616) (hg : g < w.heap.size)
    (hc : ∀ i, i < t → w.cell? ⟨g, off + i, none⟩ = some (.int .u8 ((bs u ++ rest).getD i 0))) (hm : t ≤ cap) (hcap : cap ≤ maxLen) (hs : rest.length ≤ 140737487000000) :
    Calls Tryd.prog 29 #[.slice (some ⟨g, off, none⟩) t cap] w (TakeIs u rest.length rest w) := by
  subst ht
  refine (take_ok g off cap u rest w hu hg hc hm hcap hs).mono ?_
  rintro e w' ⟨h, rfl, ho, hb⟩
  exact ⟨h, rfl, ho, (ho.lt h rfl).2, hb⟩
def AllIs (m r : Nat) (x rest : List Int) (w : World) (e : Ending) (w' : World) : Prop :=
  ∃ a c h, e = .returned (.tuple #[.slice a m c, .slice (some ⟨h, 0, none⟩) r r, .int .i64 0]) ∧ m ≤ c ∧ Rd .i64 w' a x ∧ w'.ownsRow w.heap.size 5 1 (.slice (some ⟨h, 0, none⟩) r r) r (rest.map (Value.int .u8)) ∧ Below w.heap.size w w'
theorem own_cap {w : World} {base n : Nat} {a : Option Addr} {m c : Nat} {e : TypeId} {xs : List Value} (h : w.ownsRow base e 1 (.slice a m c) n xs) : m ≤ c := by
  rcases h with ⟨_, ⟨h, _⟩ | ⟨g, cc, _, hv, _, _, h1, _⟩⟩
  · cases h; exact Nat.le_refl _
  · cases hv; exact h1
theorem takeall_is (g off cap len : Nat) (x rest : List Int) (h64 : All64 x) (hx : x.length ≤ 5000) (w : World) (hg : g < w.heap.size) (hlen : len = (zbs x ++ rest).length) (hcap : len ≤ cap) (hlb : len ≤ 140737480000000)
    (hc : ∀ i, i < len → w.cell? ⟨g, off + i, none⟩ = some (.int .u8 ((zbs x ++ rest).getD i 0))) :
    Calls Tryd.prog 30 #[.slice (some ⟨g, off, none⟩) len cap, .int .i64 (x.length : Int)] w (AllIs x.length rest.length x rest w) := by
  subst hlen
  refine (takeall_ok g off cap x rest h64 hx w hg hcap hlb hc).mono ?_
  rintro e w' ⟨v, h, rfl, hov, hob, hb⟩
  obtain ⟨a, c, rfl, hr⟩ := own_form hov
  exact ⟨a, c, h, rfl, own_cap hov, hr, hob, hb⟩

set_option maxHeartbeats 1600000 in
theorem dec_ok (k : Nat) (hk : k < 4) (l x behind : List Int) (h64 : All64 l) (hx : nms k l = some x) (hn : l.length ≤ 4096) (hbeh : behind.length ≤ 1000) (g off tot cap : Nat) (w : World) (hg : g < w.heap.size)
    (htot : tot = ((k : Int) :: (bs l.length ++ (zbs x ++ behind))).length)
    (hc : ∀ i, i < tot → w.cell? ⟨g, off + i, none⟩ = some (.int .u8 (((k : Int) :: (bs l.length ++ (zbs x ++ behind))).getD i 0))) (hm : tot ≤ cap) (hcap : cap ≤ maxLen) (hF : Fw w) :
    Calls Tryd.prog 14 #[.slice (some ⟨g, off, none⟩) tot cap] w (DecIs l behind w) := by
  obtain ⟨t, rfl, ht⟩ : ∃ t, tot = t + 1 ∧ t = (bs l.length ++ (zbs x ++ behind)).length := ⟨_, htot, rfl⟩
  have hbp := bs_pos l.length
  have hbl := bs_le10 (show l.length < 18446744073709551616 by omega)
  have ht1 : 1 ≤ t := by rw [ht, List.length_append]; omega
  have hc0 := hc 0 (by omega)
  rw [Nat.add_zero] at hc0
  have hc0' : w.cell? ⟨g, off, none⟩ = some (.int .u8 (k : Int)) := hc0
  obtain ⟨hx64, hxl⟩ := nms_all h64 hx
  have hzl := zbs_len x hx64 x.length (Nat.le_refl _)
  rw [List.take_length] at hzl
  have HT : Hid (Calls Tryd.prog 29 #[.slice (some ⟨g, off + 1, none⟩) t (cap - 1)] w (TakeIs l.length (zbs x ++ behind).length (zbs x ++ behind) w)) := by
    exact take_is g (off + 1) (cap - 1) t l.length (zbs x ++ behind) w ht (by omega) hg (fun i hi => by
      have := hc (i + 1) (by omega)
      rw [show off + 1 + i = off + (i + 1) by omega, this]; rfl) (by omega) (by unfold maxLen at *; omega) (by rw [List.length_append]; omega)
  have HM : Hid (∀ w', Below w.heap.size w w' → Calls Tryd.prog 18 #[.int .i64 (k : Int), .int .u64 (l.length : Int)] w' fun e w'' => e = .returned (.bool (decide (few k ≤ l.length ∧ l.length ≤ 4096))) ∧ w'' = w') := fun w' hb => mayHave_any k hk l.length (by omega) w' (hF.below hb)
  have HW : Hid (∀ w', Below w.heap.size w w' → Calls Tryd.prog 31 #[.int .i64 (k : Int), .int .i64 (l.length : Int)] w' fun e w'' => e = .returned (.int .i64 (wn k l.length : Int)) ∧ w'' = w') := fun w' hb => written_any k hk l.length w' (hF.below hb)
  obtain ⟨f1, f2⟩ := nms_facts hk hx
  have HX : Hid (All64 l ∧ nms k l = some x ∧ All64 x ∧ few k ≤ l.length ∧ x.length = wn k l.length) := ⟨h64, hx, hx64, f1, f2⟩
  have Hd : Hid (decide (few k ≤ l.length ∧ l.length ≤ 4096) = true) := decide_eq_true ⟨f1, hn⟩
  obtain ⟨r, hr⟩ : ∃ r, Hid (r = (zbs x ++ behind).length) := ⟨_, rfl⟩
  have hrl : r ≤ 100000 := by rw [hr.out, List.length_append]; omega
  have hx5 : x.length ≤ 5000 := by omega
  have hc1 : ¬ cap = 1 := by omega
  have hk4 : (k : Int) < 4 := by omega
  have hcast : ((t + 1 : Nat) : Int) = (t : Int) + 1 := by omega
  obtain ⟨n, hnn⟩ : ∃ n, Hid (n = l.length) := ⟨_, rfl⟩
  rw [← hnn.out] at hn HT HM HW Hd f1 f2
  rw [← hr.out] at HT
  obtain ⟨bh, hbh⟩ : ∃ n, Hid (n = behind.length) := ⟨_, rfl⟩
  clear ht hc hc0 htot hx h64 hx64 f1 f2 hF hzl
  go_enter Tryd.func14, Tryd.ntmps14
  go_wp2_with fail
  refine Calls.mono HT.out ?_
  rintro e w1 ⟨h, rfl, ho1, hlt1, hb1⟩
  have HO1 : Hid (∀ i, i < r → w1.cell? ⟨h, 0 + i, none⟩ = some (.int .u8 ((zbs x ++ behind).getD i 0))) := fun i hi => own_cells ho1 i (by rw [← hr.out]; exact hi)
  clear ho1
  go_wp2_with fail
  refine Calls.mono (HM.out w1 hb1) ?_
  rintro e w2 ⟨rfl, rfl⟩
  rw [Hd.out]
  go_wp2_with fail
  refine Calls.mono (HW.out w2 hb1) ?_
  rintro e w3 ⟨rfl, rfl⟩
  obtain ⟨m, hmm⟩ : ∃ m, Hid (m = wn k n) := ⟨_, rfl⟩
  have hmx : Hid (m = x.length) := (hmm.out.trans (by rw [HX.out.2.2.2.2, hnn.out]) : m = x.length)
  have Htk : Hid (Calls Tryd.prog 30 #[.slice (some ⟨h, 0, none⟩) r r, .int .i64 (m : Int)] w3 (AllIs m bh x behind w3)) := by
    rw [hmx.out, hbh.out]
    exact takeall_is h 0 r r x behind HX.out.2.2.1 hx5 w3 hlt1 hr.out (Nat.le_refl _) (by omega) HO1.out
  rw [← hmm.out]
  go_wp2_with fail
  refine Calls.mono Htk.out ?_
  rintro e w4 ⟨av, cv, h', rfl, hmc, hrv, hob, hb4⟩
  have Hun : Hid (Calls Tryd.prog 32 #[.int .i64 (k : Int), .int .i64 (n : Int), .slice av m cv] w4 fun e w' => ∃ h, e = .returned (.slice (some ⟨h, 0, none⟩) n n) ∧ w'.rowIs h 2 n (fun i => .int .i64 (l.getD i 0)) ∧ Below w4.heap.size w4 w') := by
    rw [hnn.out, hmx.out]
    exact unf_any k hk av cv l x w4 HX.out.2.1 (by rw [← hnn.out]; exact hn) (by rw [← hmx.out]; exact hmc) hrv HX.out.1
  have HOB : Hid _ := hob
  clear hob hrv
  go_wp2_with fail
  refine Calls.mono Hun.out ?_
  rintro e w5 ⟨h5, rfl, hr5, hb5⟩
  have H5 : Hid _ := hr5
  clear hr5
  go_wp2_with fail
  go_ret3
  refine ⟨h5, h', by rw [← hnn.out, ← hbh.out]; rfl, by rw [← hnn.out]; exact H5.out, ?_, hb1.trans ((hb4.trans (hb5.mono hb4.size)).mono hb1.size)⟩
  rw [← hbh.out]
  exact own_mono (own_below HOB.out hb5) hb1.size

theorem zb_cut {n : Int} (h : I64 n) : Sh (zb n).dropLast ∧ zb n ≠ [] := by
  obtain ⟨u, h1, h2, h3⟩ := zz_nat h.1 h.2
  rw [h3]
  have hp := bs_pos u
  have h10 := bs_le10 h2
  refine ⟨⟨by rw [List.length_dropLast]; omega, fun i hi => ?_⟩, fun e => by rw [e] at hp; simp at hp⟩
  rw [List.length_dropLast] at hi
  have := (bs_facts h2).1 i hi
  have hil : i < (bs u).length := by omega
  rw [List.getD_eq_getElem?_getD, List.getElem?_eq_getElem hil] at this
  rw [List.getD_eq_getElem?_getD, List.getElem?_eq_getElem (by rw [List.length_dropLast]; exact hi), List.getElem_dropLast]
  exact this

set_option maxHeartbeats 1600000 in
theorem dec_cut (k : Nat) (hk : k < 4) (l x : List Int) (y : Int) (h64 : All64 l) (hx : nms k l = some (x ++ [y])) (hn : l.length ≤ 4096) (g off tot cap : Nat) (w : World) (hg : g < w.heap.size)
    (htot : tot = ((k : Int) :: (bs l.length ++ (zbs x ++ (zb y).dropLast))).length)
    (hc : ∀ i, i < tot → w.cell? ⟨g, off + i, none⟩ = some (.int .u8 (((k : Int) :: (bs l.length ++ (zbs x ++ (zb y).dropLast))).getD i 0))) (hm : tot ≤ cap) (hcap : cap ≤ maxLen) (hF : Fw w) :
    Calls Tryd.prog 14 #[.slice (some ⟨g, off, none⟩) tot cap] w fun e w' => e = .returned (.tuple #[.slice none 0 0, .slice none 0 0, .int .i64 10]) ∧ Below w.heap.size w w' := by
  obtain ⟨t, rfl, ht⟩ : ∃ t, tot = t + 1 ∧ t = (bs l.length ++ (zbs x ++ (zb y).dropLast)).length := ⟨_, htot, rfl⟩
  have hbp := bs_pos l.length
  have hbl := bs_le10 (show l.length < 18446744073709551616 by omega)
  have ht1 : 1 ≤ t := by rw [ht, List.length_append]; omega
  have hc0 := hc 0 (by omega)
  rw [Nat.add_zero] at hc0
  have hc0' : w.cell? ⟨g, off, none⟩ = some (.int .u8 (k : Int)) := hc0
  obtain ⟨hx64', hxl'⟩ := nms_all h64 hx
  have hy64 : I64 y := all64_iff.1 hx64' y (by simp)
  have hx64 : All64 x := all64_iff.2 fun z hz => all64_iff.1 hx64' z (by simp [hz])
  have hxl : x.length + 1 ≤ l.length := by simpa using hxl'
  obtain ⟨hsh, _⟩ := zb_cut hy64
  have hzl := zbs_len x hx64 x.length (Nat.le_refl _)
  rw [List.take_length] at hzl
  have hshl := hsh.1
  have HT : Hid (Calls Tryd.prog 29 #[.slice (some ⟨g, off + 1, none⟩) t (cap - 1)] w (TakeIs l.length (zbs x ++ (zb y).dropLast).length (zbs x ++ (zb y).dropLast) w)) := by
    exact take_is g (off + 1) (cap - 1) t l.length (zbs x ++ (zb y).dropLast) w ht (by omega) hg (fun i hi => by
      have := hc (i + 1) (by omega)
      rw [show off + 1 + i = off + (i + 1) by omega, this]; rfl) (by omega) (by unfold maxLen at *; omega) (by rw [List.length_append]; omega)
  have HM : Hid (∀ w', Below w.heap.size w w' → Calls Tryd.prog 18 #[.int .i64 (k : Int), .int .u64 (l.length : Int)] w' fun e w'' => e = .returned (.bool (decide (few k ≤ l.length ∧ l.length ≤ 4096))) ∧ w'' = w') := fun w' hb => mayHave_any k hk l.length (by omega) w' (hF.below hb)
  have HW : Hid (∀ w', Below w.heap.size w w' → Calls Tryd.prog 31 #[.int .i64 (k : Int), .int .i64 (l.length : Int)] w' fun e w'' => e = .returned (.int .i64 (wn k l.length : Int)) ∧ w'' = w') := fun w' hb => written_any k hk l.length w' (hF.below hb)
  obtain ⟨f1, f2⟩ := nms_facts hk hx
  have HX : Hid (All64 x ∧ Sh (zb y).dropLast ∧ x.length + 1 = wn k l.length) := ⟨hx64, hsh, by rw [← f2]; simp⟩
  have Hd : Hid (decide (few k ≤ l.length ∧ l.length ≤ 4096) = true) := decide_eq_true ⟨f1, hn⟩
  obtain ⟨r, hr⟩ : ∃ r, Hid (r = (zbs x ++ (zb y).dropLast).length) := ⟨_, rfl⟩
  have hrl : r ≤ 100000 := by rw [hr.out, List.length_append]; omega
  have hx5 : x.length ≤ 5000 := by omega
  have hc1 : ¬ cap = 1 := by omega
  have hk4 : (k : Int) < 4 := by omega
  have hcast : ((t + 1 : Nat) : Int) = (t : Int) + 1 := by omega
  obtain ⟨n, hnn⟩ : ∃ n, Hid (n = l.length) := ⟨_, rfl⟩
  rw [← hnn.out] at hn HT HM HW Hd f1 f2
  rw [← hr.out] at HT
  clear ht hc hc0 htot hx h64 hx64 hx64' hxl' hxl hsh hshl f1 f2 hF hzl hy64
  go_enter Tryd.func14, Tryd.ntmps14
  go_wp2_with fail
  refine Calls.mono HT.out ?_
  rintro e w1 ⟨h, rfl, ho1, hlt1, hb1⟩
  have HO1 : Hid (∀ i, i < r → w1.cell? ⟨h, 0 + i, none⟩ = some (.int .u8 ((zbs x ++ (zb y).dropLast).getD i 0))) := fun i hi => own_cells ho1 i (by rw [← hr.out]; exact hi)
  clear ho1
  go_wp2_with fail
  refine Calls.mono (HM.out w1 hb1) ?_
  rintro e w2 ⟨rfl, rfl⟩
  rw [Hd.out]
  go_wp2_with fail
  refine Calls.mono (HW.out w2 hb1) ?_
  rintro e w3 ⟨rfl, rfl⟩
  obtain ⟨m, hmm⟩ : ∃ m, Hid (m = wn k n) := ⟨_, rfl⟩
  have hmx : Hid (m = x.length + 1) := (hmm.out.trans (by rw [HX.out.2.2, hnn.out]) : m = x.length + 1)
  have Htk : Hid (Calls Tryd.prog 30 #[.slice (some ⟨h, 0, none⟩) r r, .int .i64 (m : Int)] w3 fun e W' => e = .returned (.tuple #[.slice none 0 0, .slice none 0 0, .int .i64 10]) ∧ Below w3.heap.size w3 W') := by
    have e1 : (m : Int) = (x.length : Int) + 1 := by rw [hmx.out]; rfl
    rw [e1]
    have hc' := HO1.out
    rw [hr.out] at hc' ⊢
    exact takeall_short h 0 _ x (zb y).dropLast HX.out.2.1 HX.out.1 hx5 w3 hlt1 (Nat.le_refl _) (by rw [← hr.out]; omega) hc'
  rw [← hmm.out]
  go_wp2_with fail
  refine Calls.mono Htk.out ?_
  rintro e w4 ⟨rfl, hb4⟩
  go_wp2_with fail
  go_ret3
  exact ⟨rfl, hb1.trans (hb4.mono hb1.size)⟩

/-- Of the code of no numbers but its first byte. -/
theorem dec_nil (g off cap : Nat) (w : World) (hc : w.cell? ⟨g, off, none⟩ = some (.int .u8 2)) (hm : 2 ≤ cap) :
    Calls Tryd.prog 14 #[.slice (some ⟨g, off, none⟩) 1 cap] w fun e w' => e = .returned (.tuple #[.slice none 0 0, .slice none 0 0, .int .i64 10]) ∧ Below w.heap.size w w' := by
  have HT : Hid (∀ a c, Calls Tryd.prog 29 #[.slice a 0 c] w fun e w' => e = .returned (.tuple #[.int .u64 0, .slice none 0 0, .int .i64 10]) ∧ w' = w) := fun a c => take_short a c [] w (.inl rfl) (by decide) (fun i hi => by simp at hi)
  have hc1 : ¬ cap = 1 := by omega
  go_enter Tryd.func14, Tryd.ntmps14
  go_wp2_with fail
  refine Calls.mono (HT.out _ _) ?_
  rintro e w1 ⟨rfl, rfl⟩
  go_wp2_with fail
  go_ret3
  exact ⟨rfl, Below.refl _ _⟩
end Go.Proofs.YtbgipenonngccaaDoor
