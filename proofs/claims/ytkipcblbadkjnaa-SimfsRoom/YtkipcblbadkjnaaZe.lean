/- What SimfsRoom asks of the program: Used, Remove, Append without room, rows of bytes that come in. Conditions: those of each theorem. -/
import Derived.Test.YtkipcblbadkjnaaFr
import Derived.Test.YtkipcblbadkjnaaZd
import Derived.Laws.OwnMore
import Derived.Deep.Matrix
namespace Go.Proofs.Ytkipcblbadkjnaa
open Go.ChangeShapes Go.WideShapes Go.ChangeAt Go.RowKit Go.Lib

section
variable {w w' : World} {b g N : Nat} {x : X} {R : Int} {pm sm : ByteArray → Option Nat} {cs : List Ch} {s t : ByteArray}
theorem st_used (h : St w b x R N pm sm cs) {n : Nat} {zs : List { g : Nat // x.K g }} (hH : Held pm n zs) :
    Calls Try.prog 17 #[.pointer (some ⟨b, 0, none⟩)] w fun e w' => e = .returned (.int .i64 (lens x.bs zs)) ∧ Below w.heap.size w w' := by
  refine (used_any b x w h.fw).mono ?_
  rintro e w' ⟨ys, hK, rfl, hb⟩
  rw [h.pm] at hK
  exact ⟨by rw [lens_perm x.bs hK hH], hb⟩
theorem st_remove (h : St w b x R N pm sm cs) (hs : s.size ≤ maxLen) (hg : pm s = some g) (hN : N + 1 ≤ 1000000) :
    Calls Try.prog 30 #[.pointer (some ⟨b, 0, none⟩), .string s] w fun e w' => e = .returned (.int .i64 0) ∧ ∃ x', Mv b w x w' x' ∧ St w' b x' R (N + 1) (chg pm [(s, ⟨#[]⟩, none)]) sm (cs ++ [(s, ⟨#[]⟩, none)]) ∧ x'.bs = x.bs ∧ x'.st = x.st := by
  have hc := h.cap
  refine (remove_ok b x x s w h.fw h.ent hs g (by rw [h.pm]; exact hg) (by omega)).mono ?_
  rintro e w' ⟨rfl, pb, cv, hM⟩
  refine ⟨rfl, _, hM, ⟨hM.fw, h.room, ?_, h.sm, ?_, h.fused, ?_⟩, rfl, rfl⟩
  · show chg x.pm _ = _
    rw [h.pm]
  · show x.cs ++ _ = _
    rw [h.cs]
  · show x.cap + 1 ≤ N + 1
    omega
theorem st_full (h : St w b x R N pm sm cs) (hs : s.size ≤ maxLen) (hg : pm s = some g) (a : Option Addr) (len cap : Nat) (hl : (x.bs g).length + len ≤ 1048576) (h0 : 0 < len) (n : Nat) (ys : List { g : Nat // x.K g }) (hH : Held pm n ys) (hn : n ≤ 1000000) (hrm : R < lens x.bs ys + (len : Int)) :
    Calls Try.prog 25 #[.pointer (some ⟨b, 0, none⟩), .string s, .slice a len cap] w fun e w' => e = .returned (.int .i64 62) ∧ Mv b w x w' x ∧ St w' b x R N pm sm cs := by
  refine (append_full b x x s a len cap w h.fw h.ent hs g (by rw [h.pm]; exact hg) hl (by omega) n ys (by rw [h.pm]; exact hH) hn (by rw [h.room]; exact hrm)).mono ?_
  rintro e w' ⟨rfl, hM⟩
  exact ⟨rfl, hM, ⟨hM.fw, h.room, h.pm, h.sm, h.cs, h.fused, h.cap⟩⟩
end
/-- Rows of bytes that read so. -/
def Rws (w : World) (a : Option Addr) (len : Nat) (L : Nat → Nat) (Z : Nat → List Int) : Prop :=
  len = 0 ∨ ∃ (g off : Nat) (A : Nat → Option Addr) (C : Nat → Nat), a = some ⟨g, off, none⟩ ∧ g < w.heap.size ∧ ∀ r, r < len → w.cell? ⟨g, off + r, none⟩ = some (.slice (A r) (L r) (C r)) ∧ (Z r).length = L r ∧ Rd .u8 w (A r) (Z r) ∧ (A r = none → C r = 0 ∧ L r = 0)
theorem Rws.below {w w' : World} {a : Option Addr} {len : Nat} {L : Nat → Nat} {Z : Nat → List Int} (h : Rws w a len L Z) (hb : Below w.heap.size w w') : Rws w' a len L Z := by
  rcases h with h | ⟨g, off, A, C, h1, h2, h3⟩
  · exact .inl h
  · exact .inr ⟨g, off, A, C, h1, Nat.lt_of_lt_of_le h2 hb.size, fun r hr => ⟨(hb.cell (p := ⟨g, off + r, none⟩) h2).trans (h3 r hr).1, (h3 r hr).2.1, (h3 r hr).2.2.1.below hb, (h3 r hr).2.2.2⟩⟩
theorem rws_of {H : Type} {enc : TypeId × Value → H} {W : World} {base : Nat} {held : Bool} {a : Option Addr} {len cap fuel : Nat} {x : DataW H × List MemPlace}
    (h : DataW.trod enc Try.prog W base (fun _ => true) held fuel 57 [.slice a len cap] = some x) : ∃ L Z, Rws W a len L Z := by
  rcases Deep.open_int_rows Try.underlying57 Try.underlying32 Try.underlying5 (by kernel_rfl) (by kernel_rfl) h with ⟨hcs, _⟩ | ⟨ad, l, c, A, L, C, Z, hcs, _, hl, hm, _, hr⟩
  · simp at hcs
    obtain ⟨rfl, rfl, rfl⟩ := hcs
    exact ⟨fun _ => 0, fun _ => [], .inl rfl⟩
  · simp at hcs
    obtain ⟨rfl, rfl, rfl⟩ := hcs
    refine ⟨L, fun r => (Z r).take (L r), ?_⟩
    by_cases h0 : len = 0
    · exact .inl h0
    · obtain ⟨b, off, spot⟩ := ad
      have hc := (hr 0 (by omega)).1
      have hspot : spot = none := by simpa [Addr.add] using World.cell?_spot hc
      subst hspot
      have hb : b < W.heap.size := by
        have := World.block_lt_of_cell? W _ hc
        simpa [Addr.add] using this
      refine .inr ⟨b, off, A, C, rfl, hb, fun r hr' => ?_⟩
      obtain ⟨h1, h2, h3, h4, h5, h6, h7⟩ := hr r (by omega)
      refine ⟨?_, by simp; omega, ?_, fun e => ⟨h6 e, by have := h6 e; omega⟩⟩
      · rw [Addr.add_lit] at h1; exact h1
      · by_cases hz : L r = 0
        · exact .inl (by simp [hz])
        · cases hA : A r with
          | none => have := h6 hA; omega
          | some a' =>
            obtain ⟨b', off', spot'⟩ := a'
            have hc' := (h7 _ hA).2
            have hc0 := hc' 0 (by omega)
            have hspot' : spot' = none := by simpa [Addr.add] using World.cell?_spot hc0
            subst hspot'
            have hb' : b' < W.heap.size := by
              have := World.block_lt_of_cell? W _ hc0
              simpa [Addr.add] using this
            refine .inr ⟨b', off', rfl, hb', fun i hi => ?_⟩
            simp only [List.length_take] at hi
            have := hc' i (by omega)
            rw [Addr.add_lit] at this
            rw [this]
            congr 2
            simp [List.getD, show i < L r by omega]
theorem i64_and1 (n : Int) : bits .and .i64 n 1 = n % 2 := by
  have h1 : (BitVec.ofInt 64 1).toNat = 2 ^ 1 - 1 := by decide
  have key : (BitVec.ofInt 64 n &&& BitVec.ofInt 64 1).toNat = (n % ((2 ^ 64 : Nat) : Int)).toNat % 2 ^ 1 := by
    rw [BitVec.toNat_and, BitVec.toNat_ofInt, h1, Nat.and_two_pow_sub_one_eq_mod]
  show IntKind.i64.wrap ((BitVec.ofInt 64 n &&& BitVec.ofInt 64 1).toNat : Nat) = n % 2
  rw [key, IntKind.wrap_i64]
  omega
def B1 : ByteArray := ⟨#[98]⟩
theorem a1_b1 : A1 ≠ B1 := by decide
theorem a1_ne : A1 ≠ ⟨#[]⟩ := by decide
theorem b1_ne : B1 ≠ ⟨#[]⟩ := by decide
theorem b1_size : B1.size ≤ maxLen := by decide
def PA (g : Nat) : ByteArray → Option Nat := fun s => if s = A1 then some g else none
def PB (g h : Nat) : ByteArray → Option Nat := fun s => if s = B1 then some h else PA g s
def PC (h : Nat) : ByteArray → Option Nat := fun s => if s = B1 then some h else none
theorem chg_pa (g : Nat) : chg (fun _ => none) [(⟨#[]⟩, A1, some g)] = PA g := by
  funext s
  simp only [chg, List.foldl_cons, List.foldl_nil, chg1, if_neg a1_ne, upd, PA]
  split
  · rfl
  · split <;> rfl
theorem chg_pb (g h : Nat) : chg (PA g) [(⟨#[]⟩, B1, some h)] = PB g h := by
  funext s
  simp only [chg, List.foldl_cons, List.foldl_nil, chg1, if_neg b1_ne, upd, PB]
  split
  · rfl
  · split
    · rename_i e
      subst e
      simp [PA, Ne.symm a1_ne]
    · rfl
theorem chg_pc (g h : Nat) : chg (PB g h) [(A1, ⟨#[]⟩, none)] = PC h := by
  funext s
  simp only [chg, List.foldl_cons, List.foldl_nil, chg1, if_pos, upd, PB, PC, PA]
  by_cases e1 : s = A1
  · rw [if_pos e1, if_neg (fun e => a1_b1 (e1.symm.trans e))]
  · rw [if_neg e1, if_neg e1]
theorem pb_a (g h : Nat) : PB g h A1 = some g := (if_neg a1_b1).trans (if_pos rfl)
theorem pb_b (g h : Nat) : PB g h B1 = some h := if_pos rfl
theorem pc_b (h : Nat) : PC h B1 = some h := if_pos rfl
theorem held_pb {K : Nat → Prop} {g h : Nat} (hk : K g) (hl : K h) (hne : g ≠ h) : Held (PB g h) 2 [(⟨g, hk⟩ : { g : Nat // K g }), ⟨h, hl⟩] := by
  refine ⟨by simp [hne], fun k => ?_, by simp⟩
  simp only [List.mem_cons, List.not_mem_nil, or_false]
  constructor
  · rintro (rfl | rfl)
    · exact ⟨A1, pb_a g h⟩
    · exact ⟨B1, pb_b g h⟩
  · rintro ⟨s, hs⟩
    unfold PB PA at hs
    split at hs
    · cases hs; exact .inr rfl
    · split at hs
      · cases hs; exact .inl rfl
      · cases hs
theorem held_pc {K : Nat → Prop} {h : Nat} (hl : K h) : Held (PC h) 2 [(⟨h, hl⟩ : { g : Nat // K g })] := by
  refine ⟨by simp, fun k => ?_, by simp⟩
  simp only [List.mem_singleton]
  constructor
  · rintro rfl
    exact ⟨B1, pc_b h⟩
  · rintro ⟨s, hs⟩
    unfold PC at hs
    split at hs
    · cases hs; rfl
    · cases hs
end Go.Proofs.Ytkipcblbadkjnaa
