/- The contract of special: a text that begins with a digit, or with a minus and a digit, is none. -/
import Derived.Test.YtmeimofnmpmaoaaGreatDoorX
namespace Go.Proofs.YtmeimofnmpmaoaaGreatDoor
open Go.RowKit Go.Shelf

theorem special_digit (s : ByteArray) (h : 0 < s.size) (x : Int) (hx : ((s[0]'h).toNat : Int) = x) (h0 : 48 ≤ x) (h1 : x ≤ 57) (w : World) :
    Calls Tryz.prog 107 #[.string s] w fun e w' => e = .returned (.tuple #[.float .f64 0, .int .i64 0, .bool false]) ∧ w' = w := by
  have hz : ¬ (s.size : Int) = 0 := by omega
  have hl : (0 : Int) < (s.size : Int) := by omega
  go_enter Tryz.func107, Tryz.ntmps107
  go_wp2_with fail
  go_ret3
  exact ⟨rfl, rfl⟩

theorem common_none (t : ByteArray) (h : 0 < t.size) (x : Int) (hx : ((t[0]'h).toNat : Int) = x) (h0 : 48 ≤ x) (h1 : x ≤ 57) (w : World) :
    Calls Tryz.prog 126 #[.string t, .string ⟨#[105, 110, 102, 105, 110, 105, 116, 121]⟩] w fun e w' => e = .returned (.int .i64 0) ∧ w' = w := by
  obtain ⟨mn, hmn⟩ : ∃ mn : Int, min 8 (t.size : Int) = mn := ⟨_, rfl⟩
  have h2 : (0 : Int) < mn := by omega
  have h3 : ¬ x = 105 := by omega
  have h4 : ¬ 65 ≤ x := by omega
  have hk : ((({ data := #[105, 110, 102, 105, 110, 105, 116, 121] } : ByteArray)[0]'(by decide)).toNat : Int) = 105 := by rfl
  have hl : (0 : Int) < (t.size : Int) := by omega
  go_enter Tryz.func126, Tryz.ntmps126
  go_wp2
  go_loop [6] (fun a => a = .int .i64 0) (fun _ => 0)
  case atStart => rfl
  case round =>
    subst hrel
    go_wp2
    try rw [Exit.noGoto_ret]
    go_ret
    exact ⟨rfl, rfl⟩

theorem special_minus (s : ByteArray) (h : 1 < s.size) (hm : ((s[0]'(by omega)).toNat : Int) = 45) (x : Int) (hx : ((s[1]'h).toNat : Int) = x) (h0 : 48 ≤ x) (h1 : x ≤ 57) (w : World) :
    Calls Tryz.prog 107 #[.string s] w fun e w' => e = .returned (.tuple #[.float .f64 0, .int .i64 0, .bool false]) ∧ w' = w := by
  have hz : ¬ (s.size : Int) = 0 := by omega
  have hl : (1 : Int) < (s.size : Int) := by omega
  have hl' : (0 : Int) < (s.size : Int) := by omega
  go_enter Tryz.func107, Tryz.ntmps107
  go_wp2_with fail
  have hs : 0 < (s.extract 1 s.size).size := by simp; omega
  have hg : (((s.extract 1 s.size)[0]'hs).toNat : Int) = x := by rw [← hx]; simp [ByteArray.getElem_extract]
  refine (common_none (s.extract 1 s.size) hs x hg h0 h1 _).mono ?_
  rintro e w' ⟨rfl, rfl⟩
  go_wp2_with fail
  go_ret3
  exact ⟨rfl, rfl⟩
end Go.Proofs.YtmeimofnmpmaoaaGreatDoor
