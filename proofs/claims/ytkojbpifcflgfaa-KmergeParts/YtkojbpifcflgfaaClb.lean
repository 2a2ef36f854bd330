/- A row cloned and sorted (items). Conditions: how the row lies; sizes. -/
import Derived.Test.YtkojbpifcflgfaaCfb
import Derived.Test.YtkojbpifcflgfaaSo
import Derived.Test.YtkojbpifcflgfaaVa
import Derived.Lib.OwnBridge
namespace Go.Proofs.Ytkojbpifcflgfaa.B
open Go.RowKit Go.Shelf
open Go.Sort (SWO)
variable {E : Type} [Inhabited E]

/-- A slice that reads as these values. -/
structure IsS (k : Ks E) (w : World) (a : Option Addr) (n c : Nat) (xs : List E) : Prop where
  len : xs.length = n
  le : n ≤ c
  max : c ≤ maxLen
  nil : a = none → c = 0
  rd : ∀ ad, a = some ad → ∀ j u, (xs.map k.enc)[j]? = some u → w.cell? (ad.add j) = some u

theorem Try.infoE : (Try.prog.info? 41).map (fun i => (i.zero, i.size, i.bytes)) = some (some (.slice none 0 0), 1, 24) := by kernel_rfl

omit [Inhabited E] in
set_option maxRecDepth 20000 in
theorem clone_any {k : Ks E} (hk : Ok k) (a : Option Addr) (n c : Nat) (xs : List E) (w : World) (h : IsS k w a n c xs) (hn : 0 < n) (hn2 : n ≤ 1000000) :
    Calls Try.prog 46 #[.slice a n c] w fun e w' => ∃ v, e = .returned v ∧ w'.ownsRow w.heap.size 41 1 v n (xs.map k.enc) ∧ Below w.heap.size w w' := by
  obtain ⟨ad, rfl⟩ : ∃ ad, a = some ad := by
    cases a with
    | none => have := h.nil rfl; have := h.le; omega
    | some ad => exact ⟨ad, rfl⟩
  have hnil : Sem.run Try.prog (binOp .eql 26 (.slice (some ad) n c) (.slice none 0 0)) w = .ok (.bool false) w := Lib.run_eql_slice_nil w 26 41 (some ad) n c 0 0 Try.underlying26
  obtain ⟨i0, hi, hz0, hz1, hz2⟩ := info_parts Try.infoE
  have hrd := h.rd ad rfl
  have hl : (xs.map k.enc).length = n * 1 := by simp [h.len]
  have h1 : ∀ u ∈ xs.map k.enc, u.oneCell' = true := by
    intro u hu
    obtain ⟨x, _, rfl⟩ := List.mem_map.1 hu
    exact hk.one' x
  have hrd' : ∀ j u, (xs.map k.enc)[j]? = some u → (w.alloc (.cells #[] 41)).cell? (ad.add j) = some u := fun j u hu => Lib.cell?_alloc_some _ (hrd j u hu)
  generalize xs.map k.enc = L at *
  have hm : 0 + n ≤ maxLen := by unfold maxLen; omega
  have hb : (0 + n) * 24 ≤ 140737488355328 := by omega
  have HB : Hid (∀ w', (w.alloc (.cells #[] 41)).grownBy w' (some w.heap.size) → Below w.heap.size w w') := fun w' hg => ⟨hg.os, hg.tape, hg.output, by have := hg.size; simp at this; omega, fun j hj => (hg.block j (by simp; omega) (by simp; omega)).trans (Below.heap_alloc _ _ _ (by omega))⟩
  clear h hk hrd
  go_enter Try.func46, Try.ntmps46
  go_wp2_with (refine wpList_append_own _ rfl (.tmp 5) (.tmp 6) 26 rfl w.heap.size 41 i0 _ 1 24 Try.underlying26 hi hz0 hz1 hz2 rfl (by decide) (.slice (some ⟨w.heap.size, 0, none⟩) 0 0) 0 [] rfl (World.ownsRow_made w #[] 0 (Nat.le_refl _) (by decide) rfl) ad n c L rfl hl hrd' h1 hm hb (by simp) ?_; intro v w1 ho hg _)
  go_ret
  rw [Nat.zero_add] at ho
  exact ⟨v, rfl, by simpa using ho, HB.out w1 hg⟩

theorem below_sorted {enc : E → Value} {B : Nat} {w0 w : World} {g q : Nat} {F : Array E} (os : Array Obj) (h : Below B w0 w) (hg : B ≤ g) (hB : B ≤ w.heap.size) : Below B w0 (sortWorld enc w g 0 q F os) := by
  have h1 : Below B w0 (Go.Sort.putRow enc (Sort.ahead w q) g 0 F) := Lib.below_putRow h hg
  have hs : (Go.Sort.putRow enc (Sort.ahead w q) g 0 F).heap.size = w.heap.size := by simp [Go.Sort.putRow, Go.Sort.mapBlock, Sort.ahead]
  refine ⟨h1.os, h1.tape, h1.output, ?_, fun k hk => ?_⟩
  · rw [sortWorld, Go.Sort.size_grow]; exact Nat.le_trans h1.size (Nat.le_add_right _ _)
  · rw [← h1.block k hk]
    simp only [sortWorld, Go.Sort.grow]
    rw [Array.getElem?_append_left (by rw [hs]; omega)]

/-- What the sort leaves. -/
def Srt (k : Ks E) (base g n cap : Nat) (xs : List E) (w : World) (e : Ending) (w' : World) : Prop :=
  e = .returned (.tuple #[]) ∧ ∃ ys : List E, ys.Perm xs ∧ (∀ j, 0 < j → j < n → k.lt (ys.getD j default) (ys.getD (j - 1) default) = false) ∧ w'.ownsRow base 41 1 (.slice (some ⟨g, 0, none⟩) n cap) n (ys.map k.enc) ∧ Below g w w'

theorem sort_any {k : Ks E} (hk : Ok k) (base g n cap : Nat) (xs : List E) (w : World) (h : w.ownsRow base 41 1 (.slice (some ⟨g, 0, none⟩) n cap) n (xs.map k.enc)) (hn : 0 < n) (hn2 : n ≤ 1000000) (hw : Below k.n0 k.w0 w) (hg0 : k.n0 ≤ g) :
    Calls Try.prog 47 #[.slice (some ⟨g, 0, none⟩) n cap, fnv k] w (Srt k base g n cap xs w) := by
  have hl : xs.length = n := by simpa using h.1
  have hsz : xs.toArray.size = n := by simpa using hl
  have hlt : g < w.heap.size := by
    rcases h.2 with ⟨h', _⟩ | ⟨g', cap', cur, h', hb, hg, _⟩
    · cases h'
    · cases h'; exact (Array.getElem?_eq_some_iff.1 hg).1
  have hH : Go.Sort.Holds k.enc w g 0 xs.toArray := by
    obtain ⟨g', cap', e1, _, _, _, _, _, e2⟩ := Lib.holds_of_ownsRow h (by simp)
    cases e1; exact e2
  have hcmp : CmpLays1 Try.prog k.gc #[] k.enc k.cf g 0 n w := fun m os dk hs x y =>
    (hk.cmp x y _ (below_sorted os hw hg0 (by omega))).mono fun e w' ⟨h1, q, h2⟩ => ⟨h1, q, #[], by rw [h2, Go.Sort.grow_empty]⟩
  have hS := Any.slices_SortFunc Try.soB k.enc (fun x => hk.one' x) k.cf hk.swo k.gc #[] g 0 cap xs.toArray w hk.enters (by rw [hsz]; exact hcmp) hH hlt (by rw [hsz]; omega)
  rw [hsz] at hS
  change Calls Try.prog 47 _ _ _ at hS
  refine Calls.mono hS ?_
  rintro e w' ⟨rfl, d', q, os, hp, hso, rfl⟩
  obtain ⟨hp1, hp2, hp3⟩ := hp
  have hd' : d'.size = n := by rw [hp1, hsz]
  have hx : ∀ d : Array E, d.size = n → (d.extract 0 n).toList = d.toList := fun d hd => by rw [← hd]; simp
  rw [hx d' hd', hx _ hsz] at hp3
  refine ⟨rfl, d'.toList, hp3, fun j j0 jn => ?_, ?_, below_sorted os (Below.refl _ _) (Nat.le_refl _) (by omega)⟩
  · have := hso (j - 1) j (Nat.zero_le _) (by omega) jn
    have e1 : ∀ i, i < n → d'.toList.getD i default = d'[i]! := fun i hi => by simp [List.getD, show i < d'.size by omega]
    rw [e1 j jn, e1 (j - 1) (by omega)]; exact this
  · have h1 := Lib.ownsRow_putRow (q := q) (k := n) h (ys := d'.toList) (by simpa using hd') (Nat.le_refl _)
    rw [List.take_of_length_le (by simp; omega)] at h1
    exact own_below h1 ⟨rfl, rfl, rfl, by rw [sortWorld, Go.Sort.size_grow]; exact Nat.le_add_right _ _, fun i hi => by
      simp only [sortWorld, Go.Sort.grow]
      rw [Array.getElem?_append_left hi]⟩
end Go.Proofs.Ytkojbpifcflgfaa.B
