/- What a row has, rising, each once (items). Conditions: how the row lies; sizes. -/
import Derived.Test.YtkojbpifcflgfaaCgb
import Derived.Test.YtkojbpifcflgfaaClb
namespace Go.Proofs.Ytkojbpifcflgfaa.B
open Go.RowKit Go.Shelf
open Go.Sort (SWO)
variable {E : Type} [Inhabited E]

/-- These are what those have, rising, each once. -/
structure Rs (k : Ks E) (xs ys : List E) : Prop where
  inc : ys.Pairwise (fun x y => k.lt x y = true)
  sub : ∀ y ∈ ys, y ∈ xs
  all : ∀ x ∈ xs, ∃ y ∈ ys, k.cf x y = 0
theorem rs_of {k : Ks E} {xs zs ys : List E} {n : Nat} (hp : zs.Perm xs) (hl : zs.length = n) (h : Cpt k zs n ys) : Rs k xs ys :=
  ⟨h.inc, fun y hy => hp.mem_iff.1 (h.sub y hy), fun x hx => by
    obtain ⟨j, hj, e⟩ := List.getElem_of_mem (hp.mem_iff.2 hx)
    obtain ⟨y, hy, hc⟩ := h.all j (by omega)
    have e2 : zs.getD j default = x := by simp [List.getD, hj, e]
    rw [e2] at hc
    exact ⟨y, hy, hc⟩⟩

/-- What is handed back. -/
def Risen (k : Ks E) (xs : List E) (w : World) (e : Ending) (w' : World) : Prop :=
  ∃ r : Row E, e = .returned (encR r) ∧ IsW k r w' ∧ Rs k xs r.xs ∧ r.xs.length ≤ xs.length ∧ w.heap.size ≤ r.b ∧ Below w.heap.size w w'
theorem risen_of {k : Ks E} {xs zs : List E} {n g cap N : Nat} {w w1 w2 : World} (hp : zs.Perm xs) (hl : xs.length = n) (hb : Below N w w1) (hN : N = w.heap.size) (hN1 : N ≤ w1.heap.size) (hg : N < g) (hn0 : k.n0 ≤ N) {e : Ending} (h : Cmpd k (N + 1) g n cap zs w1 e w2) : Risen k xs w e w2 := by
  obtain ⟨m, ys, hmn, rfl, ho, hc, hb2⟩ := h
  subst hN
  have hlen : ys.length = m := by simpa using ho.1
  rcases ho.2 with ⟨h', _⟩ | ⟨g', cap', cur, h', hbg, hgg, hnc, hcm, hcs, ht⟩
  · cases h'
  · cases h'
    have hpos : 0 < ys.length := by
      have := hc.pos
      cases ys with
      | nil => exact absurd rfl this
      | cons x r => simp
    refine ⟨⟨g, 0, cap, ys⟩, ?_, ⟨hpos, by show ys.length ≤ cap; omega, hcm, by show k.n0 ≤ g; omega, cur, hgg, fun i hi => ?_⟩, rs_of hp (by rw [hp.length_eq]; exact hl) hc, by show ys.length ≤ _; omega, by show w.heap.size ≤ g; omega, hb.trans (hb2.mono (by omega))⟩
    · simp only [encR, hlen]
    · have := congrArg (fun l => l[i]?) ht
      have hi' : i < ys.length := hi
      simp only [Nat.mul_one, List.getElem?_take, if_pos (show i < m by omega), Array.getElem?_toList, List.getElem?_map] at this
      show cur[0 + i]? = _
      rw [Nat.zero_add, this, List.getElem?_eq_getElem hi']
      simp [List.getD, hi']

set_option maxRecDepth 100000 in
set_option maxHeartbeats 2000000 in
theorem rising_any {k : Ks E} (hk : Ok k) (ht : Tot k) (a : Option Addr) (n c : Nat) (xs : List E) (w : World) (h : IsS k w a n c xs) (hn : 0 < n) (hn2 : n ≤ 1000000) (hw : Below k.n0 k.w0 w) (hn0 : k.n0 ≤ w.heap.size) :
    Calls Try.prog 34 #[fnv k, .slice a n c] w (Risen k xs w) := by
  have hmf : ∀ (fn : Fn) (first cap : Array Value) (w : World), (Instr.makeFunc fn first cap).run Try.prog w = .ok (.func fn first cap) w := fun _ _ _ _ => rfl
  have hlen := h.len
  have hal : ∀ o, Below w.heap.size w (w.alloc o) := fun o => (Below.refl _ w).alloc (Nat.le_refl _) o
  have hS1 : IsS k (w.alloc (.cells #[fnv k] 47)) a n c xs := ⟨h.len, h.le, h.max, h.nil, fun ad e j u hu => Lib.cell?_alloc_some _ (h.rd ad e j u hu)⟩
  have HC : Hid _ := clone_any hk a n c xs (w.alloc (.cells #[fnv k] 47)) hS1 hn hn2
  have HB : Hid (Below w.heap.size w (w.alloc (.cells #[fnv k] 47)) ∧ Below k.n0 k.w0 w ∧ k.n0 ≤ w.heap.size ∧ Ok k ∧ Tot k ∧ xs.length = n ∧ (w.alloc (.cells #[fnv k] 47)).cell? ⟨w.heap.size, 0, none⟩ = some (fnv k) ∧ (w.alloc (.cells #[fnv k] 47)).heap.size = w.heap.size + 1) := ⟨hal _, hw, hn0, hk, ht, h.len, by simp, by simp⟩
  have hfz : ∀ v', (w.alloc (.cells #[fnv k] v')).frozen? ⟨w.heap.size, 0, none⟩ = false := fun v' => by simp
  obtain ⟨gc, hgc⟩ : ∃ gc, gc = k.gc := ⟨_, rfl⟩
  have hfv : fnv k = .func (.func gc) #[] #[] := by rw [hgc]; rfl
  have HG : Hid (gc = k.gc ∧ fnv k = .func (.func gc) #[] #[]) := ⟨hgc, hfv⟩
  rw [hfv] at HC ⊢
  clear h hk ht hw hn0 hlen hal hS1 hgc hfv hfz
  go_enter Try.func34, Try.ntmps34
  go_wp2_with fail
  refine Calls.mono HC.out ?_
  rintro e w1 ⟨v, rfl, ho, hb1⟩
  rw [← HG.out.2] at ho hb1
  obtain ⟨g, cap, rfl, hg1⟩ : ∃ g cap, v = .slice (some ⟨g, 0, none⟩) n cap ∧ w.heap.size + 1 ≤ g := by
    rcases ho.2 with ⟨_, h0⟩ | ⟨g, cap, cur, h1, h2, _⟩
    · omega
    · exact ⟨g, cap, h1, by rw [HB.out.2.2.2.2.2.2.2] at h2; exact h2⟩
  rw [HB.out.2.2.2.2.2.2.2] at ho hb1
  have cb : w1.cell? ⟨w.heap.size, 0, none⟩ = some (.func (.func gc) #[] #[]) := by
    rw [← HG.out.2]
    exact (hb1.cell (p := ⟨w.heap.size, 0, none⟩) (by simp)).trans HB.out.2.2.2.2.2.2.1
  have hb : Below w.heap.size w w1 := HB.out.1.trans (hb1.mono (by omega))
  have hS : Hid _ := sort_any HB.out.2.2.2.1 (w.heap.size + 1) g n cap xs w1 ho hn hn2 (HB.out.2.1.trans (hb.mono HB.out.2.2.1)) (by have := HB.out.2.2.1; omega)
  rw [HG.out.2] at hS
  have H1 : Hid (Below w.heap.size w w1) := hb
  clear ho hb1 hb HC
  go_wp2_with fail
  refine Calls.mono hS.out ?_
  rintro e w2 ⟨rfl, zs, hp, hso, ho2, hb2⟩
  have cb2 : w2.cell? ⟨w.heap.size, 0, none⟩ = some (.func (.func gc) #[] #[]) := (hb2.cell (p := ⟨w.heap.size, 0, none⟩) (by show w.heap.size < g; omega)).trans cb
  have hbw : Below w.heap.size w w2 := H1.out.trans (hb2.mono (by omega))
  have hc := compact_any HB.out.2.2.2.1 HB.out.2.2.2.2.1 (w.heap.size + 1) g n cap w.heap.size zs w2 ho2 hn hn2 (by rw [HG.out.2]; exact cb2) (by omega) (HB.out.2.1.trans (hbw.mono HB.out.2.2.1)) (by have := HB.out.2.2.1; omega) hso
  have HCC : Hid _ := hc
  have H2 : Hid (zs.Perm xs ∧ Below w.heap.size w w2) := ⟨hp, hbw⟩
  clear hp hso ho2 hb2 hbw hc hS cb
  go_wp2_with fail
  refine Calls.mono HCC.out ?_
  rintro e w3 h3
  have HR : Hid _ := risen_of H2.out.1 HB.out.2.2.2.2.2.1 H2.out.2 rfl H2.out.2.size (by omega) HB.out.2.2.1 h3
  obtain ⟨m, ys, _, rfl, _⟩ := h3
  clear HCC
  go_wp2_with fail
  go_ret
  exact HR.out
end Go.Proofs.Ytkojbpifcflgfaa.B
