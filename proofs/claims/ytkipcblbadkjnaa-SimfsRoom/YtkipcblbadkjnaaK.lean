/- The contracts of Create, Remove, Rename, Link, Sync and Read. Conditions: those of each theorem. -/
import Derived.Test.YtkipcblbadkjnaaJ
namespace Go.Proofs.Ytkipcblbadkjnaa
open Go.RowKit

theorem enter_ok (b : Nat) (x y : X) (w : World) (h : FW w b x) (he : ent x = (0, y)) :
    Calls Try.prog 51 #[.pointer (some ⟨b, 0, none⟩)] w fun e w' => e = .returned (.int .i64 0) ∧ Mv b w x w' y := by
  refine (enter_any b x w h).mono ?_
  rintro e w' ⟨rfl, hm⟩
  rw [he] at hm ⊢
  exact ⟨rfl, hm⟩
theorem ent_spent {x : X} (he : (ent x).1 ≠ 0) : x.fused = true ∧ x.left = 0 := by
  unfold ent at he
  split at he
  · simp at he
  · split at he
    · simp_all
    · simp at he
theorem enter_no (b : Nat) (x : X) (w : World) (h : FW w b x) (he : (ent x).1 ≠ 0) :
    Calls Try.prog 51 #[.pointer (some ⟨b, 0, none⟩)] w fun e w' => e = .returned (.int .i64 62) ∧ w' = w := by
  obtain ⟨h1, h2⟩ := ent_spent he
  have hf := h.fc
  rw [h1, h2] at hf
  exact enter_spent b _ _ _ _ _ w hf

theorem create_spent (b : Nat) (x : X) (s : ByteArray) (w : World) (h : FW w b x) (he : (ent x).1 ≠ 0) :
    Calls Try.prog 24 #[.pointer (some ⟨b, 0, none⟩), .string s] w fun e w' => e = .returned (.int .i64 62) ∧ w' = w := by
  have H : Hid (FW w b x) := h
  have HE : Hid ((ent x).1 ≠ 0) := he
  clear h he
  go_enter Try.func24, Try.ntmps24
  go_wp2_with (go_at_call 51; refine (enter_no b x w H.out HE.out).mono ?_; rintro e w1 ⟨rfl, rfl⟩)
  go_ret
  exact ⟨rfl, rfl⟩
theorem remove_spent (b : Nat) (x : X) (s : ByteArray) (w : World) (h : FW w b x) (he : (ent x).1 ≠ 0) :
    Calls Try.prog 30 #[.pointer (some ⟨b, 0, none⟩), .string s] w fun e w' => e = .returned (.int .i64 62) ∧ w' = w := by
  have H : Hid (FW w b x) := h
  have HE : Hid ((ent x).1 ≠ 0) := he
  clear h he
  go_enter Try.func30, Try.ntmps30
  go_wp2_with (go_at_call 51; refine (enter_no b x w H.out HE.out).mono ?_; rintro e w1 ⟨rfl, rfl⟩)
  go_ret
  exact ⟨rfl, rfl⟩
theorem sync_spent (b : Nat) (x : X) (s : ByteArray) (w : World) (h : FW w b x) (he : (ent x).1 ≠ 0) :
    Calls Try.prog 26 #[.pointer (some ⟨b, 0, none⟩), .string s] w fun e w' => e = .returned (.int .i64 62) ∧ w' = w := by
  have H : Hid (FW w b x) := h
  have HE : Hid ((ent x).1 ≠ 0) := he
  clear h he
  go_enter Try.func26, Try.ntmps26
  go_wp2_with (go_at_call 51; refine (enter_no b x w H.out HE.out).mono ?_; rintro e w1 ⟨rfl, rfl⟩)
  go_ret
  exact ⟨rfl, rfl⟩
theorem syncdir_spent (b : Nat) (x : X) (w : World) (h : FW w b x) (he : (ent x).1 ≠ 0) :
    Calls Try.prog 27 #[.pointer (some ⟨b, 0, none⟩)] w fun e w' => e = .returned (.int .i64 62) ∧ w' = w := by
  have H : Hid (FW w b x) := h
  have HE : Hid ((ent x).1 ≠ 0) := he
  clear h he
  go_enter Try.func27, Try.ntmps27
  go_wp2_with (go_at_call 51; refine (enter_no b x w H.out HE.out).mono ?_; rintro e w1 ⟨rfl, rfl⟩)
  go_ret
  exact ⟨rfl, rfl⟩
theorem rename_spent (b : Nat) (x : X) (s t : ByteArray) (w : World) (h : FW w b x) (he : (ent x).1 ≠ 0) :
    Calls Try.prog 29 #[.pointer (some ⟨b, 0, none⟩), .string s, .string t] w fun e w' => e = .returned (.int .i64 62) ∧ w' = w := by
  have H : Hid (FW w b x) := h
  have HE : Hid ((ent x).1 ≠ 0) := he
  clear h he
  go_enter Try.func29, Try.ntmps29
  go_wp2_with (go_at_call 51; refine (enter_no b x w H.out HE.out).mono ?_; rintro e w1 ⟨rfl, rfl⟩)
  go_ret
  exact ⟨rfl, rfl⟩
theorem link_spent (b : Nat) (x : X) (s t : ByteArray) (w : World) (h : FW w b x) (he : (ent x).1 ≠ 0) :
    Calls Try.prog 31 #[.pointer (some ⟨b, 0, none⟩), .string s, .string t] w fun e w' => e = .returned (.int .i64 62) ∧ w' = w := by
  have H : Hid (FW w b x) := h
  have HE : Hid ((ent x).1 ≠ 0) := he
  clear h he
  go_enter Try.func31, Try.ntmps31
  go_wp2_with (go_at_call 51; refine (enter_no b x w H.out HE.out).mono ?_; rintro e w1 ⟨rfl, rfl⟩)
  go_ret
  exact ⟨rfl, rfl⟩
theorem append_spent (b : Nat) (x : X) (s : ByteArray) (v : Value) (w : World) (h : FW w b x) (he : (ent x).1 ≠ 0) :
    Calls Try.prog 25 #[.pointer (some ⟨b, 0, none⟩), .string s, v] w fun e w' => e = .returned (.int .i64 62) ∧ w' = w := by
  have H : Hid (FW w b x) := h
  have HE : Hid ((ent x).1 ≠ 0) := he
  clear h he
  go_enter Try.func25, Try.ntmps25
  go_wp2_with (go_at_call 51; refine (enter_no b x w H.out HE.out).mono ?_; rintro e w1 ⟨rfl, rfl⟩)
  go_ret
  exact ⟨rfl, rfl⟩

set_option maxRecDepth 100000 in
theorem create_bad (b : Nat) (x y : X) (s : ByteArray) (w : World) (h : FW w b x) (he : ent x = (0, y)) (hs : s.size ≤ maxLen) (hm : mb s = false) :
    Calls Try.prog 24 #[.pointer (some ⟨b, 0, none⟩), .string s] w fun e w' => e = .returned (.int .i64 63) ∧ Mv b w x w' y := by
  have H : Hid (FW w b x) := h
  have HE : Hid (ent x = (0, y)) := he
  have HS : Hid (s.size ≤ maxLen) := hs
  clear h he hs
  go_enter Try.func24, Try.ntmps24
  go_wp2_with (first
    | (go_at_call 51; refine (enter_ok b x y w H.out HE.out).mono ?_; rintro e w1 ⟨rfl, hMv⟩; have HMv : Hid _ := hMv; clear hMv)
    | (go_at_call 52; refine (maybe_any s _ HS.out).mono ?_; rintro e w2 ⟨rfl, rfl⟩))
  go_ret
  exact ⟨rfl, HMv.out⟩
set_option maxRecDepth 100000 in
theorem create_there (b : Nat) (x y : X) (s : ByteArray) (w : World) (h : FW w b x) (he : ent x = (0, y)) (hs : s.size ≤ maxLen) (hm : mb s = true) (g : Nat) (hg : y.pm s = some g) :
    Calls Try.prog 24 #[.pointer (some ⟨b, 0, none⟩), .string s] w fun e w' => e = .returned (.int .i64 61) ∧ Mv b w x w' y := by
  have H : Hid (FW w b x) := h
  have HE : Hid (ent x = (0, y)) := he
  have HS : Hid (s.size ≤ maxLen) := hs
  have HG : Hid (y.pm s = some g) := hg
  clear h he hs hg
  go_enter Try.func24, Try.ntmps24
  go_wp2_with (first
    | (go_at_call 51; refine (enter_ok b x y w H.out HE.out).mono ?_; rintro e w1 ⟨rfl, hMv⟩; have c2 := hMv.fw.fc.c2; have lk := hMv.fw.pw.look s HS.out; rw [HG.out] at lk; simp only [pv] at lk; have HMv : Hid _ := hMv; clear hMv)
    | (go_at_call 52; refine (maybe_any s _ HS.out).mono ?_; rintro e w2 ⟨rfl, rfl⟩))
  go_ret
  exact ⟨rfl, HMv.out⟩
end Go.Proofs.Ytkipcblbadkjnaa
