/- The contracts of grown and add: the bytes of a slice in new memory; the bytes of a number behind a row of the call's own. Conditions: sizes far below what a slice may take. -/
import Derived.Test.YtkojbpifcflgfaaB
import Derived.Laws.CopyOwn
import Derived.Deep.RegionWith
namespace Go.Proofs.Ytkojbpifcflgfaa
open Go.RowKit

/-- A slice of that address reads as these numbers. -/
def Rd (k : IntKind) (w : World) (a : Option Addr) (zs : List Int) : Prop :=
  zs = [] ∨ ∃ b off, a = some ⟨b, off, none⟩ ∧ b < w.heap.size ∧ ∀ i, i < zs.length → w.cell? ⟨b, off + i, none⟩ = some (.int k (zs.getD i 0))

theorem Rd.below {k : IntKind} {w w' : World} {a : Option Addr} {zs : List Int} (h : Rd k w a zs) (hb : Below w.heap.size w w') : Rd k w' a zs := by
  rcases h with h | ⟨b, off, h1, h2, h3⟩
  · exact .inl h
  · exact .inr ⟨b, off, h1, Nat.lt_of_lt_of_le h2 hb.size, fun i hi => (hb.cell (p := ⟨b, off + i, none⟩) h2).trans (h3 i hi)⟩

theorem Rd.at {k : IntKind} {w : World} {a : Option Addr} {zs : List Int} (h : Rd k w a zs) : 0 < (zs.map (Value.int k)).length →
    ∃ ad, a = some ad ∧ ∀ j v, (zs.map (Value.int k))[j]? = some v → w.cell? (ad.add j) = some v := by
  intro hp
  rcases h with h | ⟨b, off, h1, h2, h3⟩
  · subst h; simp at hp
  · refine ⟨_, h1, fun j v hv => ?_⟩
    have hj : j < zs.length := by simpa using (List.getElem?_eq_some_iff.1 hv).1
    rw [Addr.add_lit, h3 j hj]
    have e : (zs.map (Value.int k))[j]? = some (.int k (zs.getD j 0)) := by simp [List.getD, hj]
    rw [e] at hv
    exact hv

def zeros (n : Nat) : List Value := List.replicate n (.int .u8 0)
theorem zeros_made (n : Nat) : madeCells (Value.int IntKind.u8 0).cells (n * 1) = (zeros n).toArray := by
  unfold madeCells zeros
  apply Array.ext
  · simp
  · intro i h1 h2; simp [Value.cells, Nat.mod_one]

theorem wpList_make_any {P : Program} (w : World) {ops : Array Oper} {rest : List Oper} {o : Oper} {a : Act} {Q : Exit → Act → World → Prop}
    (hg : o.guard = none) (l c : Operand) (t : TypeId) (hop : o.op = Op.makeSlice t l c)
    (e : TypeId) (i : TypeInfo) (z : Value) (h1 : P.underlying t = some (.slice e)) (h2 : P.info? e = some i) (h3 : i.zero = some z)
    (kl kc : IntKind) (L C : Int) (n m : Nat) (hl : a.eval l = .int kl L) (hc : a.eval c = .int kc C) (hL : L = (n : Int)) (hC : C = (m : Int)) (hnm : n ≤ m) (b2 : i.bytes * m ≤ 281474976710656) (b3 : m ≤ maxLen)
    (cur : Array Value) (hcur : cur = madeCells z.cells (m * i.size))
    (hK : wpList P ops Q rest (a.put o.dst (.slice (some ⟨w.heap.size, 0, none⟩) n m)) (w.alloc (.cells cur e))) :
    wpList P ops Q (o :: rest) a w := by
  refine wpList_plain hg fun K hK' => ?_
  have b3' : (m : Int) ≤ 9223372036854775807 := by simp [maxLen] at b3; omega
  have b2' : (i.bytes : Int) * (m : Int) ≤ 281474976710656 := by
    have h : ((i.bytes * m : Nat) : Int) ≤ 281474976710656 := by omega
    rwa [Int.natCast_mul] at h
  have hrun := run_make (P := P) w t e i z h1 h2 h3 kl kc n m (by omega) (by omega) b2' b3'
  simp only [Int.toNat_natCast] at hrun
  subst hL; subst hC; subst hcur
  unfold Oper.wp
  simp [execOp, hop, hl, hc, hrun, Result.andThen]
  exact hK' _ _ hK

theorem Try.info5 : (Try.prog.info? 5).map (fun i => (i.zero, i.size, i.bytes)) = some (some (.int .u8 0), 1, 1) := by kernel_rfl
theorem Try.size5 : (Try.prog.info? 5).map (·.size) = some 1 := by kernel_rfl

theorem own_of {w : World} {base g n m : Nat} {xs : List Value} (hb : base ≤ g) (hm : n + m ≤ maxLen) (hx : xs.length = n)
    (h : w.heap[g]? = some (.cells (splice (zeros (n + m)) 0 xs).toArray 5 (0, 0))) : w.ownsRow base 5 1 (.slice (some ⟨g, 0, none⟩) n (n + m)) n xs := by
  refine ⟨by omega, .inr ⟨g, n + m, _, rfl, hb, h, by omega, hm, ?_, ?_⟩⟩
  · simp only [List.size_toArray]; rw [length_splice]; · simp [zeros]
    · simp [zeros]; omega
  · simp only [splice]; simp [hx]

theorem num_u8 (x : Nat) : Value.int .u8 ((x : Int) % 128 + 128) = .int .u8 ((x % 128 + 128 : Nat) : Int) := by congr 1

theorem one_at (w : World) (x : Value) (t : TypeId) : ∀ j u, [x][j]? = some u → (w.alloc (.cells #[x] t)).cell? ((⟨w.heap.size, 0, none⟩ : Addr).add j) = some u := by
  intro j u hj
  match j, hj with
  | 0, hj => simp at hj; subst hj; simp [Addr.add]
theorem one_one {k : IntKind} (n : Int) : ∀ u ∈ [Value.int k n], u.oneCell' = true := by
  intro u hu; simp at hu; subst hu; rfl

end Go.Proofs.Ytkojbpifcflgfaa
