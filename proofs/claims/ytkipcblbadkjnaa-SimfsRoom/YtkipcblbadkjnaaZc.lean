/- Contracts in what files are: their paths, their staying paths, their changes. Conditions: those of each theorem. -/
import Derived.Test.YtkipcblbadkjnaaZb
namespace Go.Proofs.Ytkipcblbadkjnaa
open Go.RowKit

/-- Files with room for R bytes and no fuse; N: no more paths and changes than these. -/
structure St (w : World) (b : Nat) (x : X) (R : Int) (N : Nat) (pm sm : ByteArray → Option Nat) (cs : List Ch) : Prop where
  fw : FW w b x
  room : x.room = R
  pm : x.pm = pm
  sm : x.sm = sm
  cs : x.cs = cs
  fused : x.fused = false
  cap : x.cap ≤ N
/-- All files but g are as they were. -/
def But (x x' : X) (g : Nat) : Prop := ∀ k, k ≠ g → x'.bs k = x.bs k ∧ x'.st k = x.st k
section
variable {w w' : World} {b g N : Nat} {x : X} {R : Int} {pm sm : ByteArray → Option Nat} {cs : List Ch} {s t : ByteArray}
theorem St.ent (h : St w b x R N pm sm cs) : ent x = (0, x) := if_pos h.fused
theorem St.kg (h : St w b x R N pm sm cs) (hg : pm s = some g) : x.K g := h.fw.pk s g (by rw [h.pm]; exact hg)
theorem St.below (h : St w b x R N pm sm cs) (hb : Below w.heap.size w w') : St w' b x R N pm sm cs := ⟨h.fw.below hb, h.room, h.pm, h.sm, h.cs, h.fused, h.cap⟩
theorem st_new (R : Int) (w : World) : St (w.alloc (.cells #[.int .i64 R, .int .i64 0, .map none, .map none, .slice none 0 0, .bool false, .int .i64 0] 67)) w.heap.size (xnew R) R 0 (fun _ => none) (fun _ => none) [] :=
  ⟨new_fw R w, rfl, rfl, rfl, rfl, rfl, Nat.le_refl _⟩
theorem st_create (h : St w b x R N pm sm cs) (hs : s.size ≤ maxLen) (hm : mb s = true) (hg : pm s = none) (hN : N + 2 ≤ 1000000) :
    Calls Try.prog 24 #[.pointer (some ⟨b, 0, none⟩), .string s] w fun e w' => e = .returned (.int .i64 0) ∧ ∃ x' g, Mv b w x w' x' ∧ w.heap.size ≤ g ∧ St w' b x' R (N + 2) (chg pm [(⟨#[]⟩, s, some g)]) sm (cs ++ [(⟨#[]⟩, s, some g)]) ∧ x'.bs g = [] ∧ x'.st g = 0 ∧ But x x' g := by
  have hc := h.cap
  refine (create_new b x x s w h.fw h.ent hs hm (by rw [h.pm]; exact hg) (by omega)).mono ?_
  rintro e w' ⟨rfl, g, pb, cv, hge, hM⟩
  refine ⟨rfl, _, g, hM, hge, ⟨hM.fw, h.room, ?_, h.sm, ?_, h.fused, ?_⟩, if_pos rfl, if_pos rfl, fun k hk => ⟨if_neg hk, if_neg hk⟩⟩
  · show chg x.pm _ = _
    rw [h.pm]
  · show x.cs ++ _ = _
    rw [h.cs]
  · show x.cap + 1 + 1 ≤ N + 2
    omega
theorem st_append (h : St w b x R N pm sm cs) (hs : s.size ≤ maxLen) (hg : pm s = some g) (a : Option Addr) (len cap : Nat) (zs : List Int) (hz : zs.length = len) (hrd : Rd .u8 w a zs) (hout : zs ≠ [] → Out (foot b x) a) (hnone : a = none → cap = 0 ∧ len = 0)
    (hl : (x.bs g).length + len ≤ 1048576) (n : Nat) (ys : List { g : Nat // x.K g }) (hH : Held pm n ys) (hn : n ≤ 1000000) (hrm : len = 0 ∨ lens x.bs ys + (len : Int) ≤ R) :
    Calls Try.prog 25 #[.pointer (some ⟨b, 0, none⟩), .string s, .slice a len cap] w fun e w' => e = .returned (.int .i64 0) ∧ ∃ x', Mv b w x w' x' ∧ St w' b x' R N pm sm cs ∧ x'.bs g = x.bs g ++ zs ∧ x'.st g = x.st g ∧ But x x' g := by
  refine (append_ok b x x s a len cap w h.fw h.ent hs g (by rw [h.pm]; exact hg) hl zs hz hrd hout hnone n ys (by rw [h.pm]; exact hH) hn (by rw [h.room]; exact hrm)).mono ?_
  rintro e w' ⟨rfl, v', hM⟩
  exact ⟨rfl, _, hM, ⟨hM.fw, h.room, h.pm, h.sm, h.cs, h.fused, h.cap⟩, if_pos rfl, if_pos rfl, fun k hk => ⟨if_neg hk, if_neg hk⟩⟩
theorem st_sync (h : St w b x R N pm sm cs) (hs : s.size ≤ maxLen) (hg : pm s = some g) :
    Calls Try.prog 26 #[.pointer (some ⟨b, 0, none⟩), .string s] w fun e w' => e = .returned (.int .i64 0) ∧ ∃ x', Mv b w x w' x' ∧ St w' b x' R N pm sm cs ∧ x'.bs g = x.bs g ∧ x'.st g = (x.bs g).length ∧ But x x' g := by
  refine (sync_ok b x x s w h.fw h.ent hs g (by rw [h.pm]; exact hg)).mono ?_
  rintro e w' ⟨rfl, hM⟩
  exact ⟨rfl, _, hM, ⟨hM.fw, h.room, h.pm, h.sm, h.cs, h.fused, h.cap⟩, if_pos rfl, if_pos rfl, fun k hk => ⟨if_neg hk, if_neg hk⟩⟩
theorem st_syncdir (h : St w b x R N pm sm cs) :
    Calls Try.prog 27 #[.pointer (some ⟨b, 0, none⟩)] w fun e w' => e = .returned (.int .i64 0) ∧ ∃ x', Mv b w x w' x' ∧ St w' b x' R N pm pm [] ∧ x'.bs = x.bs ∧ x'.st = x.st := by
  refine (syncdir_ok b x x w h.fw h.ent).mono ?_
  rintro e w' ⟨rfl, sb, hM⟩
  exact ⟨rfl, _, hM, ⟨hM.fw, h.room, h.pm, h.pm, rfl, h.fused, h.cap⟩, rfl, rfl⟩
theorem st_rename (h : St w b x R N pm sm cs) (hs : s.size ≤ maxLen) (ht : t.size ≤ maxLen) (hg : pm s = some g) (hm : mb t = true) (hN : N + 1 ≤ 1000000) :
    Calls Try.prog 29 #[.pointer (some ⟨b, 0, none⟩), .string s, .string t] w fun e w' => e = .returned (.int .i64 0) ∧ ∃ x', Mv b w x w' x' ∧ St w' b x' R (N + 1) (chg pm [(s, t, some g)]) sm (cs ++ [(s, t, some g)]) ∧ x'.bs = x.bs ∧ x'.st = x.st := by
  have hc := h.cap
  refine (rename_ok b x x s t w h.fw h.ent hs ht g (by rw [h.pm]; exact hg) hm (by omega)).mono ?_
  rintro e w' ⟨rfl, pb, cv, hM⟩
  refine ⟨rfl, _, hM, ⟨hM.fw, h.room, ?_, h.sm, ?_, h.fused, ?_⟩, rfl, rfl⟩
  · show chg x.pm _ = _
    rw [h.pm]
  · show x.cs ++ _ = _
    rw [h.cs]
  · show x.cap + 1 ≤ N + 1
    omega
theorem st_crash (h : St w b x R N pm sm cs) (n by_ : Int) :
    Calls Try.prog 28 #[.pointer (some ⟨b, 0, none⟩), .int .i64 n, .int .i64 by_] w fun e w' => e = .returned (.tuple #[]) ∧ ∃ x', Mv b w x w' x' ∧
      St w' b x' R N (chg sm (cs.take (wi n cs.length).toNat)) (chg sm (cs.take (wi n cs.length).toNat)) [] ∧ ∀ k, x'.bs k = (x.bs k).take (cl by_ (x.bs k) (x.st k)).toNat ∧ x'.st k = cl by_ (x.bs k) (x.st k) := by
  refine (crash_any b x n by_ w h.fw).mono ?_
  rintro e w' ⟨rfl, q, sb, rv, hM⟩
  refine ⟨rfl, _, hM, ⟨hM.fw, h.room, ?_, ?_, rfl, rfl, h.cap⟩, fun k => ⟨rfl, rfl⟩⟩
  · show chg x.sm (x.cs.take (wi n x.cs.length).toNat) = _
    rw [h.sm, h.cs]
  · show chg x.sm (x.cs.take (wi n x.cs.length).toNat) = _
    rw [h.sm, h.cs]
theorem st_read (h : St w b x R N pm sm cs) (hs : s.size ≤ maxLen) (hg : pm s = some g) :
    Calls Try.prog 15 #[.pointer (some ⟨b, 0, none⟩), .string s] w fun e w' => e = .returned (.tuple #[.slice (some ⟨w.heap.size, 0, none⟩) (x.bs g).length (x.bs g).length, .int .i64 0]) ∧ Rd .u8 w' (some ⟨w.heap.size, 0, none⟩) (x.bs g) ∧ w.heap.size < w'.heap.size ∧ Below w.heap.size w w' := by
  refine (read_ok b x s w h.fw hs g (by rw [h.pm]; exact hg)).mono ?_
  rintro e w' ⟨rfl, ho, hb⟩
  refine ⟨rfl, ?_, (ho.lt _ rfl).2, hb⟩
  obtain ⟨a, c, e1, e2, hr⟩ := own_rd ho
  cases e1
  exact hr
theorem st_read_none (h : St w b x R N pm sm cs) (hs : s.size ≤ maxLen) (hg : pm s = none) :
    Calls Try.prog 15 #[.pointer (some ⟨b, 0, none⟩), .string s] w fun e w' => e = .returned (.tuple #[.slice none 0 0, .int .i64 60]) ∧ w' = w :=
  read_none b x s w h.fw hs (by rw [h.pm]; exact hg)
end
end Go.Proofs.Ytkipcblbadkjnaa
