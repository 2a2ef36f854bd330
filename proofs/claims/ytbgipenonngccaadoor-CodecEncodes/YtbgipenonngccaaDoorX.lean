/- The contract of Decode of a row's code, whole and with its last byte cut off. Conditions: the table of the fewest holds what it is laid with; at most 4096 numbers. -/
import Derived.Test.YtbgipenonngccaaDoorU
import Derived.Test.YtbgipenonngccaaDoorW
import Derived.Test.YtbgipenonngccaaDoorO
namespace Go.Proofs.YtbgipenonngccaaDoor
open Go.RowKit

/-- How many numbers stand in a code. -/
def wn (k n : Nat) : Nat :=
  match k with
  | 0 => 1
  | 1 => 2
  | _ => n
theorem written_any (k : Nat) (hk : k < 4) (n : Nat) (w : World) (hF : Fw w) :
    Calls Tryd.prog 31 #[.int .i64 (k : Int), .int .i64 (n : Int)] w fun e w' => e = .returned (.int .i64 (wn k n : Int)) ∧ w' = w := by
  obtain ⟨_, c0, c1, c2, c3⟩ := hF
  clear c2 c3
  rcases four hk with rfl | rfl | rfl | rfl
  · show Calls Tryd.prog 31 #[.int .i64 0, .int .i64 (n : Int)] w fun e w' => e = .returned (.int .i64 1) ∧ w' = w
    go_enter Tryd.func31, Tryd.ntmps31
    go_wp2
    go_ret
    exact ⟨rfl, rfl⟩
  · show Calls Tryd.prog 31 #[.int .i64 1, .int .i64 (n : Int)] w fun e w' => e = .returned (.int .i64 2) ∧ w' = w
    go_enter Tryd.func31, Tryd.ntmps31
    go_wp2
    go_ret
    exact ⟨rfl, rfl⟩
  · show Calls Tryd.prog 31 #[.int .i64 2, .int .i64 (n : Int)] w fun e w' => e = .returned (.int .i64 (n : Int)) ∧ w' = w
    go_enter Tryd.func31, Tryd.ntmps31
    go_wp2
    go_ret
    exact ⟨rfl, rfl⟩
  · show Calls Tryd.prog 31 #[.int .i64 3, .int .i64 (n : Int)] w fun e w' => e = .returned (.int .i64 (n : Int)) ∧ w' = w
    go_enter Tryd.func31, Tryd.ntmps31
    go_wp2
    go_ret
    exact ⟨rfl, rfl⟩

theorem nms_0 (l : List Int) : nms 0 l = if 1 ≤ l.length ∧ alk l = true then some (l.take 1) else none := rfl
theorem nms_1 (l : List Int) : nms 1 l = if 2 ≤ l.length ∧ alk (dfs 0 l).tail = true then some ((dfs 0 l).take 2) else none := rfl
theorem nms_3 (l : List Int) : nms 3 l = if 2 ≤ l.length then some ((dfs 0 l).take 1 ++ dfs 0 (dfs 0 l).tail) else none := rfl
theorem nms_facts {k : Nat} {l x : List Int} (hk : k < 4) (h : nms k l = some x) : few k ≤ l.length ∧ x.length = wn k l.length := by
  rcases four hk with rfl | rfl | rfl | rfl
  · rw [nms_0] at h
    split at h <;> cases h
    rename_i h1
    exact ⟨h1.1, by simp [wn]; omega⟩
  · rw [nms_1] at h
    split at h <;> cases h
    rename_i h1
    exact ⟨h1.1, by simp [wn, dfs_length]; omega⟩
  · cases h
    exact ⟨Nat.zero_le _, dfs_length _ _⟩
  · rw [nms_3] at h
    split at h <;> cases h
    rename_i h1
    refine ⟨h1, ?_⟩
    show _ = l.length
    rw [List.length_append, List.length_take, dfs_length, dfs_length, List.length_tail, dfs_length]; omega

theorem alk_rep : ∀ (l : List Int), alk l = true → ∀ x t, l = x :: t → t = List.replicate t.length x := by
  intro l h x t e
  subst e
  unfold alk at h
  rw [List.all_cons, Bool.and_eq_true] at h
  exact List.eq_replicate_iff.2 ⟨rfl, fun y hy => by simpa using List.all_eq_true.1 h.2 y hy⟩
theorem dfs_rep (x : Int) : ∀ n, dfs x (List.replicate n x) = List.replicate n 0
  | 0 => rfl
  | n + 1 => by
    rw [List.replicate_succ, dfs_cons, dfs_rep x n, List.replicate_succ]
    congr 1
    unfold dif wrap64; omega
theorem steps_is {k : Nat} {l x : List Int} (h64 : All64 l) (h : nms k l = some x) (hk : k < 4) : stepsOf k l.length x = dfs 0 l := by
  rcases four hk with rfl | rfl | rfl | rfl
  · rw [nms_0] at h
    split at h <;> cases h
    rename_i h1
    cases l with
    | nil => simp at h1
    | cons y t =>
      have e := alk_rep _ h1.2 y t rfl
      show (List.take 1 (y :: t)).take 1 ++ List.replicate (t.length + 1 - 1) 0 = dfs 0 (y :: t)
      rw [dfs_cons, dif_zero (all64_cons.1 h64).1]
      have e2 : dfs y t = List.replicate t.length 0 := by
        have := dfs_rep y t.length
        rw [← e] at this; exact this
      rw [e2]; simp
  · rw [nms_1] at h
    split at h <;> cases h
    rename_i h1
    match l, h1 with
    | y :: z :: t, h1 =>
      show ((dfs 0 (y :: z :: t)).take 2).take 1 ++ List.replicate (t.length + 2 - 1) (((dfs 0 (y :: z :: t)).take 2).getD 1 0) = dfs 0 (y :: z :: t)
      have e := alk_rep _ h1.2 (dif y z) (dfs z t) rfl
      rw [dfs_length] at e
      rw [dfs_cons, dfs_cons]
      have e2 : List.replicate (t.length + 2 - 1) (dif y z) = dif y z :: dfs z t := by
        rw [e]; rfl
      show [dif 0 y] ++ List.replicate (t.length + 2 - 1) (dif y z) = _
      rw [e2]; rfl
  · cases h; rfl
  · rw [nms_3] at h
    split at h <;> cases h
    rename_i h1
    cases l with
    | nil => simp at h1
    | cons y t =>
      show (List.take 1 (dfs 0 (y :: t)) ++ dfs 0 (dfs 0 (y :: t)).tail).take 1 ++ sms 0 (List.take 1 (dfs 0 (y :: t)) ++ dfs 0 (dfs 0 (y :: t)).tail).tail = _
      rw [dfs_cons]
      show [dif 0 y] ++ sms 0 (dfs 0 (dfs y t)) = dif 0 y :: dfs y t
      rw [sms_dfs _ _ (dfs_all _ _)]; rfl

theorem unf_any (k : Nat) (hk : k < 4) (a : Option Addr) (cap : Nat) (l x : List Int) (w : World) (h : nms k l = some x) (hn : l.length ≤ 4096) (hcap : x.length ≤ cap) (hrd : Rd .i64 w a x) (h64 : All64 l) :
    Calls Tryd.prog 32 #[.int .i64 (k : Int), .int .i64 (l.length : Int), .slice a x.length cap] w fun e w' => ∃ h, e = .returned (.slice (some ⟨h, 0, none⟩) l.length l.length) ∧ w'.rowIs h 2 l.length (fun i => .int .i64 (l.getD i 0)) ∧ Below w.heap.size w w' := by
  have hs := steps_is h64 h hk
  have hf := nms_facts hk h
  have key : Calls Tryd.prog 32 #[.int .i64 (k : Int), .int .i64 (l.length : Int), .slice a x.length cap] w (UnIs k l.length x w) := by
    rcases four hk with rfl | rfl | rfl | rfl
    · match x, hf.2 with
      | [y], _ => exact unf0 a l.length cap y w hn hf.1 hrd
    · match x, hf.2 with
      | [y, z], _ => exact unf1 a l.length cap y z w hn hf.1 hrd
    · have := unf2 a l.length cap x w hf.2 hn hrd
      rw [show x.length = l.length from hf.2]; exact this
    · have := unf3 a l.length cap x w hf.2 hn hf.1 (by rw [← show x.length = l.length from hf.2]; exact hcap) hrd
      rw [show x.length = l.length from hf.2]; exact this
  refine key.mono ?_
  rintro e w' ⟨g, rfl, hr, hb⟩
  rw [hs, sms_dfs _ _ h64] at hr
  exact ⟨g, rfl, hr, hb⟩
end Go.Proofs.YtbgipenonngccaaDoor
