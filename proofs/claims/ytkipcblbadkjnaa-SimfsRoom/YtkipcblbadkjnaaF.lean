/- Rows of bytes and of changes in memory; the contract of copied. Conditions: sizes far below what a slice may take. -/
import Derived.Test.YtkipcblbadkjnaaE
import Derived.Laws.CopyOwn
import Derived.Laws.Rows
import Derived.Deep.AppendLies
namespace Go.Proofs.Ytkipcblbadkjnaa
open Go.RowKit

/-- A slice of that address reads as these numbers. -/
def Rd (k : IntKind) (w : World) (a : Option Addr) (zs : List Int) : Prop :=
  zs = [] ∨ ∃ b off, a = some ⟨b, off, none⟩ ∧ b < w.heap.size ∧ ∀ i, i < zs.length → w.cell? ⟨b, off + i, none⟩ = some (.int k (zs.getD i 0))
theorem Rd.below {k : IntKind} {w w' : World} {a : Option Addr} {zs : List Int} (h : Rd k w a zs) (hb : Below w.heap.size w w') : Rd k w' a zs := by
  rcases h with h | ⟨b, off, h1, h2, h3⟩
  · exact .inl h
  · exact .inr ⟨b, off, h1, Nat.lt_of_lt_of_le h2 hb.size, fun i hi => (hb.cell (p := ⟨b, off + i, none⟩) h2).trans (h3 i hi)⟩
/-- The bytes lie in no block of P. -/
def Out (P : Nat → Prop) (a : Option Addr) : Prop := ∀ ad, a = some ad → ¬ P ad.block
theorem Rd.kp {k : IntKind} {P : Nat → Prop} {w w' : World} {a : Option Addr} {zs : List Int} (h : Rd k w a zs) (hb : Kp P w w') (hn : Out P a) : Rd k w' a zs := by
  rcases h with h | ⟨b, off, h1, h2, h3⟩
  · exact .inl h
  · have hnb := hn _ h1
    exact .inr ⟨b, off, h1, Nat.lt_of_lt_of_le h2 hb.size, fun i hi => (hb.cell (p := ⟨b, off + i, none⟩) h2 hnb).trans (h3 i hi)⟩
theorem Rd.at {k : IntKind} {w : World} {a : Option Addr} {zs : List Int} (h : Rd k w a zs) : 0 < (zs.map (Value.int k)).length →
    ∃ ad, a = some ad ∧ ∀ j v, (zs.map (Value.int k))[j]? = some v → w.cell? (ad.add j) = some v := by
  intro hp
  rcases h with h | ⟨b, off, h1, h2, h3⟩
  · subst h; simp at hp
  · refine ⟨_, h1, fun j v hv => ?_⟩
    have hj : j < zs.length := by simpa using (List.getElem?_eq_some_iff.1 hv).1
    rw [Addr.add_lit, h3 j hj]
    have e : (zs.map (Value.int k))[j]? = some (.int k (zs.getD j 0)) := by simp [List.getD, hj]
    rw [e] at hv
    exact hv
theorem Rd.take {k : IntKind} {w : World} {a : Option Addr} {zs : List Int} (h : Rd k w a zs) (n : Nat) : Rd k w a (zs.take n) := by
  rcases h with rfl | ⟨b, off, h1, h2, h3⟩
  · exact .inl (by simp)
  · refine .inr ⟨b, off, h1, h2, fun i hi => ?_⟩
    simp only [List.length_take] at hi
    rw [h3 i (by omega)]
    congr 2
    simp [List.getD, show i < n by omega]
/-- A row of bytes of one's own reads so. -/
theorem own_rd {w : World} {base n : Nat} {v : Value} {zs : List Int} {e : TypeId} {k : IntKind} (h : w.ownsRow base e 1 v n (zs.map (Value.int k))) : ∃ a c, v = .slice a n c ∧ zs.length = n ∧ Rd k w a zs := by
  have hl := h.1
  simp only [List.length_map, Nat.mul_one] at hl
  rcases h.2 with ⟨h1, h2⟩ | ⟨g, cap, cur, h1, h2, h3, h4, h5, h6, h7⟩
  · subst h2
    exact ⟨none, 0, h1, hl, .inl (List.eq_nil_of_length_eq_zero hl)⟩
  · refine ⟨_, cap, h1, hl, .inr ⟨g, 0, rfl, (Array.getElem?_eq_some_iff.1 h3).1, fun i hi => ?_⟩⟩
    have e : (zs.map (Value.int k))[i]? = some (.int k (zs.getD i 0)) := by simp [List.getD, hi]
    rw [← h7, List.getElem?_take, if_pos (by omega)] at e
    simp [World.cell?, h3]
    simpa using e

def zeros (n : Nat) : List Value := List.replicate n (.int .u8 0)
theorem zeros_made (n : Nat) : madeCells (Value.int IntKind.u8 0).cells (n * 1) = (zeros n).toArray := by
  unfold madeCells zeros
  apply Array.ext
  · simp
  · intro i h1 h2; simp [Value.cells, Nat.mod_one]
theorem wpList_make_any {P : Program} (w : World) {ops : Array Oper} {rest : List Oper} {o : Oper} {a : Act} {Q : Exit → Act → World → Prop}
    (hg : o.guard = none) (l c : Operand) (t : TypeId) (hop : o.op = Op.makeSlice t l c)
    (e : TypeId) (i : TypeInfo) (z : Value) (h1 : P.underlying t = some (.slice e)) (h2 : P.info? e = some i) (h3 : i.zero = some z)
    (kl kc : IntKind) (L C : Int) (n m : Nat) (hl : a.eval l = .int kl L) (hc : a.eval c = .int kc C) (hL : L = (n : Int)) (hC : C = (m : Int)) (hnm : n ≤ m) (b2 : i.bytes * m ≤ 281474976710656) (b3 : m ≤ maxLen)
    (cur : Array Value) (hcur : cur = madeCells z.cells (m * i.size))
    (hK : wpList P ops Q rest (a.put o.dst (.slice (some ⟨w.heap.size, 0, none⟩) n m)) (w.alloc (.cells cur e))) :
    wpList P ops Q (o :: rest) a w := by
  refine wpList_plain hg fun K hK' => ?_
  have b3' : (m : Int) ≤ 9223372036854775807 := by simp [maxLen] at b3; omega
  have b2' : (i.bytes : Int) * (m : Int) ≤ 281474976710656 := by
    have h : ((i.bytes * m : Nat) : Int) ≤ 281474976710656 := by omega
    rwa [Int.natCast_mul] at h
  have hrun := run_make (P := P) w t e i z h1 h2 h3 kl kc n m (by omega) (by omega) b2' b3'
  simp only [Int.toNat_natCast] at hrun
  subst hL; subst hC; subst hcur
  unfold Oper.wp
  simp [execOp, hop, hl, hc, hrun, Result.andThen]
  exact hK' _ _ hK
theorem Try.info5 : (Try.prog.info? 5).map (fun i => (i.zero, i.size, i.bytes)) = some (some (.int .u8 0), 1, 1) := by kernel_rfl
theorem Try.size5 : (Try.prog.info? 5).map (·.size) = some 1 := by kernel_rfl
theorem Try.info95 : (Try.prog.info? 95).map (fun i => (i.zero, i.size, i.bytes)) = some (some (.agg #[.string ⟨#[]⟩, .string ⟨#[]⟩, .pointer none]), 3, 40) := by kernel_rfl
theorem own_of {w : World} {base g n : Nat} {xs : List Value} (hb : base ≤ g) (hm : n ≤ maxLen) (hx : xs.length = n)
    (h : w.heap[g]? = some (.cells (splice (zeros n) 0 xs).toArray 5 (0, 0))) : w.ownsRow base 5 1 (.slice (some ⟨g, 0, none⟩) n n) n xs := by
  refine ⟨by omega, .inr ⟨g, n, _, rfl, hb, h, by omega, hm, ?_, ?_⟩⟩
  · simp only [List.size_toArray]; rw [length_splice]; · simp [zeros]
    · simp [zeros]; omega
  · simp only [splice]; simp [hx]

set_option maxHeartbeats 400000 in
theorem copied_any (a : Option Addr) (len cap : Nat) (zs : List Int) (w : World) (hz : zs.length = len) (hrd : Rd .u8 w a zs) (hs : len ≤ 140737488355328) :
    Calls Try.prog 46 #[.slice a len cap] w fun e w' => e = .returned (.slice (some ⟨w.heap.size, 0, none⟩) len len) ∧
      w'.ownsRow w.heap.size 5 1 (.slice (some ⟨w.heap.size, 0, none⟩) len len) len (zs.map (Value.int .u8)) ∧ Below w.heap.size w w' := by
  obtain ⟨i0, hi, hz0, hz1, hz2⟩ := info_parts Try.info5
  have hml : len ≤ maxLen := by unfold maxLen; omega
  have HR : Hid (Rd .u8 w a zs) := hrd
  have HZ : Hid (zs.length = len) := hz
  clear hrd hz
  go_enter Try.func46, Try.ntmps46
  go_wp2_with (first
    | (at_make; (refine wpList_make_any _ rfl (.tmp 5) (.tmp 5) 32 rfl 5 i0 (.int .u8 0) Try.underlying32 hi hz0 .i64 .i64 _ _ len len rfl rfl (by omega) (by omega) (by omega) (by rw [hz2]; omega) hml (zeros len).toArray (by rw [hz1, zeros_made]) ?_))
    | ((refine wpList_copy_splice rfl (.tmp 7) (.tmp 8) 32 32 rfl 5 Try.underlying32 Try.size5 _ _ len len len cap rfl rfl w.heap.size 0 (zeros len) 5 (heap_alloc_new w _) (zs.map (Value.int .u8)) (by simp [HZ.out]) (fun hp => ⟨rfl, (HR.out.below ((Below.refl _ _).alloc (Nat.le_refl _) _)).at hp⟩) (by simp [zeros, HZ.out]) (ints_oneCell _ _) w.heap.size w ((Below.refl _ _).alloc (Nat.le_refl _) _) (Nat.le_refl _) ?_); intro w' hg' hb'))
  go_ret
  exact ⟨rfl, own_of (Nat.le_refl _) hml (by simp [HZ.out]) hg'.out, hb'⟩

/-- What one call did to the paths: one is gone, one has a file. -/
abbrev Ch := ByteArray × ByteArray × Option Nat
def c0 : Ch := (⟨#[]⟩, ⟨#[]⟩, none)
/-- The cells of changes, one behind the other. -/
def ccs : List Ch → List Value
  | [] => []
  | x :: r => .string x.1 :: .string x.2.1 :: pv x.2.2 :: ccs r
theorem ccs_len : ∀ ls : List Ch, (ccs ls).length = ls.length * 3
  | [] => rfl
  | v :: r => by simp [ccs, ccs_len r]; omega
theorem ccs_append : ∀ (a b : List Ch), ccs (a ++ b) = ccs a ++ ccs b
  | [], b => rfl
  | v :: r, b => by simp [ccs, ccs_append r b]
theorem ccs_get : ∀ (ls : List Ch) (i : Nat), i < ls.length → (ccs ls)[i * 3]? = some (.string (ls.getD i c0).1) ∧ (ccs ls)[i * 3 + 1]? = some (.string (ls.getD i c0).2.1) ∧ (ccs ls)[i * 3 + 2]? = some (pv (ls.getD i c0).2.2)
  | [], i, h => by simp at h
  | v :: r, 0, _ => by simp [ccs]
  | v :: r, i + 1, h => by
    have := ccs_get r i (by simpa using h)
    rw [show (i + 1) * 3 = i * 3 + 3 by omega]
    simpa [ccs] using this
theorem pv_one (o : Option Nat) : (pv o).oneCell' = true := by cases o <;> rfl
theorem ccs_one (ls : List Ch) : ∀ u ∈ ccs ls, u.oneCell' = true := by
  induction ls with
  | nil => intro u hu; simp [ccs] at hu
  | cons v r ih =>
    intro u hu
    simp only [ccs, List.mem_cons] at hu
    rcases hu with rfl | rfl | rfl | hu
    · rfl
    · rfl
    · exact pv_one _
    · exact ih u hu
/-- A slice of that address reads as these changes. -/
def RdC (w : World) (a : Option Addr) (ls : List Ch) : Prop :=
  ls = [] ∨ ∃ b off, a = some ⟨b, off, none⟩ ∧ b < w.heap.size ∧ ∀ i, i < ls.length → w.cell? ⟨b, off + i * 3, none⟩ = some (.string (ls.getD i c0).1) ∧ w.cell? ⟨b, off + i * 3 + 1, none⟩ = some (.string (ls.getD i c0).2.1) ∧ w.cell? ⟨b, off + i * 3 + 2, none⟩ = some (pv (ls.getD i c0).2.2)
theorem RdC.kp {P : Nat → Prop} {w w' : World} {a : Option Addr} {ls : List Ch} (h : RdC w a ls) (hb : Kp P w w') (hn : Out P a) : RdC w' a ls := by
  rcases h with h | ⟨b, off, h1, h2, h3⟩
  · exact .inl h
  · have hnb := hn _ h1
    exact .inr ⟨b, off, h1, Nat.lt_of_lt_of_le h2 hb.size, fun i hi => ⟨(hb.cell (p := ⟨b, off + i * 3, none⟩) h2 hnb).trans (h3 i hi).1, (hb.cell (p := ⟨b, off + i * 3 + 1, none⟩) h2 hnb).trans (h3 i hi).2.1, (hb.cell (p := ⟨b, off + i * 3 + 2, none⟩) h2 hnb).trans (h3 i hi).2.2⟩⟩
theorem RdC.at {w : World} {a : Option Addr} {ls : List Ch} (h : RdC w a ls) {k : Nat} (hk : k < ls.length) : ∃ b off, a = some ⟨b, off, none⟩ ∧ b < w.heap.size ∧ w.cell? ⟨b, off + k * 3, none⟩ = some (.string (ls.getD k c0).1) ∧ w.cell? ⟨b, off + k * 3 + 1, none⟩ = some (.string (ls.getD k c0).2.1) ∧ w.cell? ⟨b, off + k * 3 + 2, none⟩ = some (pv (ls.getD k c0).2.2) := by
  rcases h with h | ⟨b, off, h1, h2, h3⟩
  · subst h; simp at hk
  · exact ⟨b, off, h1, h2, h3 k hk⟩
theorem RdC.take {w : World} {a : Option Addr} {ls : List Ch} (h : RdC w a ls) (n : Nat) : RdC w a (ls.take n) := by
  rcases h with rfl | ⟨b, off, h1, h2, h3⟩
  · exact .inl (by simp)
  · refine .inr ⟨b, off, h1, h2, fun i hi => ?_⟩
    simp only [List.length_take] at hi
    have e : (ls.take n).getD i c0 = ls.getD i c0 := by simp [List.getD, show i < n by omega]
    rw [e]
    exact h3 i (by omega)
/-- A row of changes of one's own reads so. -/
theorem own_rdC {w : World} {base n : Nat} {v : Value} {ls : List Ch} (h : w.ownsRow base 95 3 v n (ccs ls)) : ∃ a c, v = .slice a n c ∧ n ≤ c ∧ c ≤ maxLen ∧ ls.length = n ∧ RdC w a ls := by
  have hl := h.1
  rw [ccs_len] at hl
  have hl : ls.length = n := by omega
  rcases h.2 with ⟨h1, h2⟩ | ⟨g, cap, cur, h1, h2, h3, h4, h5, h6, h7⟩
  · subst h2
    exact ⟨none, 0, h1, Nat.le_refl _, Nat.zero_le _, hl, .inl (List.eq_nil_of_length_eq_zero hl)⟩
  · refine ⟨_, cap, h1, h4, h5, hl, .inr ⟨g, 0, rfl, (Array.getElem?_eq_some_iff.1 h3).1, fun i hi => ?_⟩⟩
    obtain ⟨e0, e1, e2⟩ := ccs_get ls i hi
    rw [← h7, List.getElem?_take, if_pos (by omega)] at e0 e1 e2
    simp [World.cell?, h3]
    simp at e0 e1 e2
    exact ⟨e0, e1, e2⟩
end Go.Proofs.Ytkipcblbadkjnaa
