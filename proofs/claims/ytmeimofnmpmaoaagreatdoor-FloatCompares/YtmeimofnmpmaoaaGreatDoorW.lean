/- What the listed package variables hold, as the contracts ask for it, and that what a call makes does not touch it. -/
import Derived.Test.YtmeimofnmpmaoaaGreatDoorE
import Derived.Test.YtmeimofnmpmaoaaGreatDoorL
import GoSem.PinnedTables
import Derived.Lib.AppendIntMem
namespace Go.Proofs.YtmeimofnmpmaoaaGreatDoor
open Go.RowKit Go.Shelf

def pow10Bits : List Nat := [4607182418800017408, 4621819117588971520, 4636737291354636288, 4652007308841189376, 4666723172467343360, 4681608360884174848, 4696837146684686336, 4711630319722168320, 4726483295884279808, 4741671816366391296, 4756540486875873280, 4771362005757984768, 4786511204640096256, 4801453603149578240, 4816244402031689728, 4831355200913801216, 4846369599423283200, 4861130398305394688, 4876203697187506176, 4891288408196988160, 4906019910204099648, 4921056587992461136, 4936209963552724370]
def markBits : List Nat := [0, 9218868437227405314, 9218868437227405312, 18442240474082181120, 9223372036854775808]

structure Ground (w : World) : Prop where
  size : 15 < w.heap.size
  c2 : w.cell? ⟨2, 0, none⟩ = some (.bool true)
  c8 : w.cell? ⟨8, 0, none⟩ = some (.int .u64 52)
  c9 : ∀ i h l, Pinned.pow10Rows[i]? = some (h, l) → w.cell? ⟨9, i * 2, none⟩ = some (.int .u64 ((h : Nat) : Int)) ∧ w.cell? ⟨9, i * 2 + 1, none⟩ = some (.int .u64 ((l : Nat) : Int))
  c15 : ∃ tb to tc, tb < w.heap.size ∧ w.cell? ⟨15, 0, none⟩ = some (.slice (some ⟨tb, to, none⟩) 23 tc) ∧ ∀ i x, pow10Bits[i]? = some x → w.cell? ⟨tb, to + i, none⟩ = some (.float .f64 x)
  c0 : ∀ i x, markBits[i]? = some x → w.cell? ⟨0, i, none⟩ = some (.int .u64 ((x : Nat) : Int))
  tab : Lib.TabIs Tryz.prog w "internal/strconv.uint64pow10" .u64 Lib.pow10Tab
  maxLen : ∃ m : Int, w.cell? ⟨Tryz.laysCut_ren.g 1, 0, none⟩ = some (.int .i64 m)

theorem Ground.below {w w' : World} (h : Ground w) (hb : Below w.heap.size w w') : Ground w' := by
  have hs := h.size
  refine ⟨Nat.lt_of_lt_of_le hs hb.size, ?_, ?_, ?_, ?_, ?_, (Lib.tabBelow_of_tabIs h.tab) w' hb, ?_⟩
  · rw [hb.cell (show 2 < _ by omega)]; exact h.c2
  · rw [hb.cell (show 8 < _ by omega)]; exact h.c8
  · intro i a b hr
    rw [hb.cell (show 9 < _ by omega), hb.cell (show 9 < _ by omega)]; exact h.c9 i a b hr
  · obtain ⟨tb, to, tc, h1, h2, h3⟩ := h.c15
    refine ⟨tb, to, tc, Nat.lt_of_lt_of_le h1 hb.size, ?_, fun i x hx => ?_⟩
    · rw [hb.cell (show 15 < _ by omega)]; exact h2
    · rw [hb.cell (show tb < _ from h1)]; exact h3 i x hx
  · intro i x hx
    rw [hb.cell (show 0 < _ by omega)]; exact h.c0 i x hx
  · obtain ⟨m, hm⟩ := h.maxLen
    exact ⟨m, by rw [hb.cell (show Tryz.laysCut_ren.g 1 < _ from block_lt_of_cell hm)]; exact hm⟩

theorem own_below {u u' : World} {base : Nat} {e : TypeId} {size : Nat} {v : Value} {n : Nat} {xs : List Value} (h : u.ownsRow base e size v n xs) (hb : Below u.heap.size u u') : u'.ownsRow base e size v n xs := by
  refine h.kept (row := none) ⟨hb.os, hb.tape, hb.output, hb.size, fun k hk _ => hb.block k hk⟩ ?_
  cases v.ownBlock with
  | none => exact .inl rfl
  | some k => exact .inr (by simp)
end Go.Proofs.YtmeimofnmpmaoaaGreatDoor
