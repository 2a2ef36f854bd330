/- The contracts of mayHave, made and As: a row's code by a kind. Conditions: the table of the fewest holds what it is laid with. -/
import Derived.Test.YtbgipenonngccaaDoorS
namespace Go.Proofs.YtbgipenonngccaaDoor
open Go.RowKit

/-- The table of the fewest numbers. -/
def Fw (w : World) : Prop := 0 < w.heap.size ∧ w.cell? ⟨0, 0, none⟩ = some (.int .i64 1) ∧ w.cell? ⟨0, 1, none⟩ = some (.int .i64 2) ∧ w.cell? ⟨0, 2, none⟩ = some (.int .i64 0) ∧ w.cell? ⟨0, 3, none⟩ = some (.int .i64 2)
theorem Fw.below {w w' : World} (h : Fw w) (hb : Below w.heap.size w w') : Fw w' :=
  ⟨Nat.lt_of_lt_of_le h.1 hb.size, (hb.cell (p := ⟨0, 0, none⟩) h.1).trans h.2.1, (hb.cell (p := ⟨0, 1, none⟩) h.1).trans h.2.2.1, (hb.cell (p := ⟨0, 2, none⟩) h.1).trans h.2.2.2.1, (hb.cell (p := ⟨0, 3, none⟩) h.1).trans h.2.2.2.2⟩
def few : Nat → Nat
  | 0 => 1
  | 1 => 2
  | 2 => 0
  | _ => 2
theorem four {k : Nat} (h : k < 4) : k = 0 ∨ k = 1 ∨ k = 2 ∨ k = 3 := by omega

theorem mayHave0 (u : Nat) (b : Bool) (hb : Hid (b = decide (1 ≤ u ∧ u ≤ 4096))) (hu : u < 18446744073709551616) (w : World) (c : w.cell? ⟨0, 0, none⟩ = some (.int .i64 1)) :
    Calls Tryd.prog 18 #[.int .i64 0, .int .u64 (u : Int)] w fun e w' => e = .returned (.bool b) ∧ w' = w := by
  go_enter Tryd.func18, Tryd.ntmps18
  by_cases h1 : (1 : Int) ≤ (u : Int)
  · by_cases h2 : (u : Int) ≤ 4096
    · go_wp2
      go_ret
      exact ⟨by rw [hb.out, decide_eq_true (show 1 ≤ u ∧ u ≤ 4096 by omega)]; rfl, rfl⟩
    · go_wp2
      go_ret
      exact ⟨by rw [hb.out, decide_eq_false (show ¬ (1 ≤ u ∧ u ≤ 4096) by omega)]; rfl, rfl⟩
  · go_wp2
    go_ret
    exact ⟨by rw [hb.out, decide_eq_false (show ¬ (1 ≤ u ∧ u ≤ 4096) by omega)]; rfl, rfl⟩
theorem mayHave1 (u : Nat) (b : Bool) (hb : Hid (b = decide (2 ≤ u ∧ u ≤ 4096))) (hu : u < 18446744073709551616) (w : World) (c : w.cell? ⟨0, 1, none⟩ = some (.int .i64 2)) :
    Calls Tryd.prog 18 #[.int .i64 1, .int .u64 (u : Int)] w fun e w' => e = .returned (.bool b) ∧ w' = w := by
  go_enter Tryd.func18, Tryd.ntmps18
  by_cases h1 : (2 : Int) ≤ (u : Int)
  · by_cases h2 : (u : Int) ≤ 4096
    · go_wp2
      go_ret
      exact ⟨by rw [hb.out, decide_eq_true (show 2 ≤ u ∧ u ≤ 4096 by omega)]; rfl, rfl⟩
    · go_wp2
      go_ret
      exact ⟨by rw [hb.out, decide_eq_false (show ¬ (2 ≤ u ∧ u ≤ 4096) by omega)]; rfl, rfl⟩
  · go_wp2
    go_ret
    exact ⟨by rw [hb.out, decide_eq_false (show ¬ (2 ≤ u ∧ u ≤ 4096) by omega)]; rfl, rfl⟩
theorem mayHave2 (u : Nat) (b : Bool) (hb : Hid (b = decide (0 ≤ u ∧ u ≤ 4096))) (hu : u < 18446744073709551616) (w : World) (c : w.cell? ⟨0, 2, none⟩ = some (.int .i64 0)) :
    Calls Tryd.prog 18 #[.int .i64 2, .int .u64 (u : Int)] w fun e w' => e = .returned (.bool b) ∧ w' = w := by
  have h1 : (0 : Int) ≤ (u : Int) := by omega
  go_enter Tryd.func18, Tryd.ntmps18
  by_cases h2 : (u : Int) ≤ 4096
  · go_wp2
    go_ret
    exact ⟨by rw [hb.out, decide_eq_true (show 0 ≤ u ∧ u ≤ 4096 by omega)]; rfl, rfl⟩
  · go_wp2
    go_ret
    exact ⟨by rw [hb.out, decide_eq_false (show ¬ (0 ≤ u ∧ u ≤ 4096) by omega)]; rfl, rfl⟩
theorem mayHave3 (u : Nat) (b : Bool) (hb : Hid (b = decide (2 ≤ u ∧ u ≤ 4096))) (hu : u < 18446744073709551616) (w : World) (c : w.cell? ⟨0, 3, none⟩ = some (.int .i64 2)) :
    Calls Tryd.prog 18 #[.int .i64 3, .int .u64 (u : Int)] w fun e w' => e = .returned (.bool b) ∧ w' = w := by
  go_enter Tryd.func18, Tryd.ntmps18
  by_cases h1 : (2 : Int) ≤ (u : Int)
  · by_cases h2 : (u : Int) ≤ 4096
    · go_wp2
      go_ret
      exact ⟨by rw [hb.out, decide_eq_true (show 2 ≤ u ∧ u ≤ 4096 by omega)]; rfl, rfl⟩
    · go_wp2
      go_ret
      exact ⟨by rw [hb.out, decide_eq_false (show ¬ (2 ≤ u ∧ u ≤ 4096) by omega)]; rfl, rfl⟩
  · go_wp2
    go_ret
    exact ⟨by rw [hb.out, decide_eq_false (show ¬ (2 ≤ u ∧ u ≤ 4096) by omega)]; rfl, rfl⟩
theorem mayHave_any (k : Nat) (hk : k < 4) (u : Nat) (hu : u < 18446744073709551616) (w : World) (hF : Fw w) :
    Calls Tryd.prog 18 #[.int .i64 (k : Int), .int .u64 (u : Int)] w fun e w' => e = .returned (.bool (decide (few k ≤ u ∧ u ≤ 4096))) ∧ w' = w := by
  obtain ⟨_, c0, c1, c2, c3⟩ := hF
  rcases four hk with rfl | rfl | rfl | rfl
  · exact mayHave0 u _ rfl hu w c0
  · exact mayHave1 u _ rfl hu w c1
  · exact mayHave2 u _ rfl hu w c2
  · exact mayHave3 u _ rfl hu w c3
theorem made0 (a : Option Addr) (n cap : Nat) (l : List Int) (w : World) (g : Nat) (hc : w.cell? ⟨g, 0, none⟩ = some (.func (.func 20) #[.slice a n cap] #[])) (HM : Hid (Calls Tryd.prog 20 #[.slice a n cap] w (Nm 0 l w))) :
    Calls Tryd.prog 19 #[.int .i64 0, .slice (some ⟨g, 0, none⟩) 4 4] w (Nm 0 l w) := by
  go_enter Tryd.func19, Tryd.ntmps19
  go_wp2_with fail
  refine HM.out.mono ?_
  rintro r w1 ⟨⟨x, v, h1, rfl, h2⟩ | ⟨h1, rfl⟩, hb⟩
  · have H2 : Hid _ := h2
    clear h2
    go_wp2_with fail
    go_ret2
    exact ⟨.inl ⟨x, v, h1, rfl, H2.out⟩, hb⟩
  · go_wp2_with fail
    go_ret2
    exact ⟨.inr ⟨h1, rfl⟩, hb⟩
theorem made1 (a : Option Addr) (n cap : Nat) (l : List Int) (w : World) (g : Nat) (hc : w.cell? ⟨g, 1, none⟩ = some (.func (.func 21) #[.slice a n cap] #[])) (HM : Hid (Calls Tryd.prog 21 #[.slice a n cap] w (Nm 1 l w))) :
    Calls Tryd.prog 19 #[.int .i64 1, .slice (some ⟨g, 0, none⟩) 4 4] w (Nm 1 l w) := by
  go_enter Tryd.func19, Tryd.ntmps19
  go_wp2_with fail
  refine HM.out.mono ?_
  rintro r w1 ⟨⟨x, v, h1, rfl, h2⟩ | ⟨h1, rfl⟩, hb⟩
  · have H2 : Hid _ := h2
    clear h2
    go_wp2_with fail
    go_ret2
    exact ⟨.inl ⟨x, v, h1, rfl, H2.out⟩, hb⟩
  · go_wp2_with fail
    go_ret2
    exact ⟨.inr ⟨h1, rfl⟩, hb⟩
theorem made2 (a : Option Addr) (n cap : Nat) (l : List Int) (w : World) (g : Nat) (hc : w.cell? ⟨g, 2, none⟩ = some (.func (.func 22) #[.slice a n cap] #[])) (HM : Hid (Calls Tryd.prog 22 #[.slice a n cap] w (Nm 2 l w))) :
    Calls Tryd.prog 19 #[.int .i64 2, .slice (some ⟨g, 0, none⟩) 4 4] w (Nm 2 l w) := by
  go_enter Tryd.func19, Tryd.ntmps19
  go_wp2_with fail
  refine HM.out.mono ?_
  rintro r w1 ⟨⟨x, v, h1, rfl, h2⟩ | ⟨h1, rfl⟩, hb⟩
  · have H2 : Hid _ := h2
    clear h2
    go_wp2_with fail
    go_ret2
    exact ⟨.inl ⟨x, v, h1, rfl, H2.out⟩, hb⟩
  · go_wp2_with fail
    go_ret2
    exact ⟨.inr ⟨h1, rfl⟩, hb⟩
theorem made3 (a : Option Addr) (n cap : Nat) (l : List Int) (w : World) (g : Nat) (hc : w.cell? ⟨g, 3, none⟩ = some (.func (.func 23) #[.slice a n cap] #[])) (HM : Hid (Calls Tryd.prog 23 #[.slice a n cap] w (Nm 3 l w))) :
    Calls Tryd.prog 19 #[.int .i64 3, .slice (some ⟨g, 0, none⟩) 4 4] w (Nm 3 l w) := by
  go_enter Tryd.func19, Tryd.ntmps19
  go_wp2_with fail
  refine HM.out.mono ?_
  rintro r w1 ⟨⟨x, v, h1, rfl, h2⟩ | ⟨h1, rfl⟩, hb⟩
  · have H2 : Hid _ := h2
    clear h2
    go_wp2_with fail
    go_ret2
    exact ⟨.inl ⟨x, v, h1, rfl, H2.out⟩, hb⟩
  · go_wp2_with fail
    go_ret2
    exact ⟨.inr ⟨h1, rfl⟩, hb⟩

theorem nms_none {k : Nat} {l : List Int} (hk : k < 4) (h : ¬ few k ≤ l.length) : nms k l = none := by
  rcases four hk with rfl | rfl | rfl | rfl
  · exact if_neg fun h' => h h'.1
  · exact if_neg fun h' => h h'.1
  · exact absurd (Nat.zero_le _) h
  · exact if_neg h
/-- A row's code by a kind that may be none. -/
def codeI (k : Int) (l : List Int) : Option (List Int) := if k < 0 then none else code k.toNat l
theorem code_none {k : Nat} {l : List Int} (hk : k < 4) (h : ¬ (few k ≤ l.length ∧ l.length ≤ 4096)) : code k l = none := by
  unfold code
  split
  · rename_i h2
    rw [nms_none hk fun h' => h ⟨h', h2⟩]; rfl
  · rfl
/-- What As tells. -/
def AsIs (k : Int) (l : List Int) (w : World) (e : Ending) (w' : World) : Prop :=
  ((∃ c g cp, codeI k l = some c ∧ e = .returned (.tuple #[.slice (some ⟨g, 0, none⟩) c.length cp, .bool true]) ∧ w'.ownsRow w.heap.size 5 1 (.slice (some ⟨g, 0, none⟩) c.length cp) c.length (c.map (Value.int .u8))) ∨
    (codeI k l = none ∧ e = .returned (.tuple #[.slice none 0 0, .bool false]))) ∧ Below w.heap.size w w'
end Go.Proofs.YtbgipenonngccaaDoor
