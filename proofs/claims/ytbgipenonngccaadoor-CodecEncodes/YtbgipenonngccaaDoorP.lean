/- Plain numbers of codec: differences that go round, the numbers of each kind, a row's code, the kind that is chosen. Conditions: those of each theorem. -/
import Derived.Test.YtbgipenonngccaaDoorJ
namespace Go.Proofs.YtbgipenonngccaaDoor
open Go.RowKit

def I64 (x : Int) : Prop := -9223372036854775808 ≤ x ∧ x ≤ 9223372036854775807
theorem wrap_bd (x : Int) : I64 (wrap64 x) := by unfold I64; unfold wrap64; omega
theorem wrap_id {x : Int} (h : I64 x) : wrap64 x = x := by unfold I64 at h; unfold wrap64; omega
def dif (p x : Int) : Int := wrap64 (x - p)
def sm (p d : Int) : Int := wrap64 (p + d)
theorem sm_dif {p x : Int} (h : I64 x) : sm p (dif p x) = x := by
  unfold I64 at h; unfold sm dif; unfold wrap64; omega
theorem dif_zero {x : Int} (h : I64 x) : dif 0 x = x := by
  unfold I64 at h; unfold dif; unfold wrap64; omega
theorem sm_zero {x : Int} (h : I64 x) : sm 0 x = x := by
  unfold I64 at h; unfold sm; unfold wrap64; omega
theorem dif_move (p x b : Int) : dif (wrap64 (p + b)) (wrap64 (x + b)) = dif p x := by
  unfold dif; unfold wrap64; omega

theorem all64_cons {x : Int} {l : List Int} : All64 (x :: l) ↔ I64 x ∧ All64 l := by
  constructor
  · intro h; exact ⟨by simpa [I64] using h 0, fun k => by simpa using h (k + 1)⟩
  · intro h k
    cases k with
    | zero => simpa [I64] using h.1
    | succ k => simpa using h.2 k
theorem all64_nil : All64 [] := fun k => by simp
theorem all64_iff {l : List Int} : All64 l ↔ ∀ x ∈ l, I64 x := by
  induction l with
  | nil => exact ⟨(fun _ x h => (by cases h)), fun _ => all64_nil⟩
  | cons x l ih => rw [all64_cons, ih]; simp
theorem all64_tail {l : List Int} (h : All64 l) : All64 l.tail := by
  cases l with
  | nil => exact h
  | cons x l => exact (all64_cons.1 h).2
theorem all64_take {l : List Int} (h : All64 l) (n : Nat) : All64 (l.take n) := all64_iff.2 fun x hx => all64_iff.1 h x (List.mem_of_mem_take hx)
theorem all64_append {a b : List Int} (ha : All64 a) (hb : All64 b) : All64 (a ++ b) := all64_iff.2 fun x hx => (List.mem_append.1 hx).elim (all64_iff.1 ha x) (all64_iff.1 hb x)

/-- What a closure with a state tells of numbers one by one. -/
def scan (f : Int → Int → Int × Int) (p : Int) : List Int → List Int
  | [] => []
  | x :: l => (f p x).1 :: scan f (f p x).2 l
def stt (f : Int → Int → Int × Int) (p : Int) : List Int → Int
  | [] => p
  | x :: l => stt f (f p x).2 l
theorem scan_length (f : Int → Int → Int × Int) : ∀ (l : List Int) (p : Int), (scan f p l).length = l.length
  | [], _ => rfl
  | x :: l, p => by simp [scan, scan_length f l]
theorem scan_at (f : Int → Int → Int × Int) : ∀ (l : List Int) (p : Int) (k : Nat), k < l.length →
    (scan f p l).getD k 0 = (f (stt f p (l.take k)) (l.getD k 0)).1 ∧ stt f p (l.take (k + 1)) = (f (stt f p (l.take k)) (l.getD k 0)).2
  | [], _, k, h => by simp at h
  | x :: l, p, 0, _ => by simp [scan, stt]
  | x :: l, p, k + 1, h => by
    have := scan_at f l (f p x).2 k (by simpa using h)
    simpa [scan, stt] using this
theorem scan_append (f : Int → Int → Int × Int) : ∀ (a b : List Int) (p : Int), scan f p (a ++ b) = scan f p a ++ scan f (stt f p a) b
  | [], b, p => rfl
  | x :: a, b, p => by simp [scan, stt, scan_append f a]

def fD (p x : Int) : Int × Int := (dif p x, x)
def fS (p d : Int) : Int × Int := (sm p d, sm p d)
def dfs (p : Int) (l : List Int) : List Int := scan fD p l
def sms (p : Int) (l : List Int) : List Int := scan fS p l
theorem dfs_nil (p : Int) : dfs p [] = [] := rfl
theorem dfs_cons (p x : Int) (l : List Int) : dfs p (x :: l) = dif p x :: dfs x l := rfl
theorem sms_nil (p : Int) : sms p [] = [] := rfl
theorem sms_cons (p x : Int) (l : List Int) : sms p (x :: l) = sm p x :: sms (sm p x) l := rfl
theorem dfs_length (p : Int) (l : List Int) : (dfs p l).length = l.length := scan_length _ _ _
theorem sms_length (p : Int) (l : List Int) : (sms p l).length = l.length := scan_length _ _ _
theorem dfs_all (l : List Int) : ∀ p, All64 (dfs p l) := by
  induction l with
  | nil => exact fun _ => all64_nil
  | cons x l ih => exact fun p => all64_cons.2 ⟨wrap_bd _, ih x⟩
theorem sms_all (l : List Int) : ∀ p, All64 (sms p l) := by
  induction l with
  | nil => exact fun _ => all64_nil
  | cons x l ih => exact fun p => all64_cons.2 ⟨wrap_bd _, ih _⟩
theorem sms_dfs : ∀ (l : List Int) (p : Int), All64 l → sms p (dfs p l) = l
  | [], _, _ => rfl
  | x :: l, p, h => by
    obtain ⟨h1, h2⟩ := all64_cons.1 h
    rw [dfs_cons, sms_cons, sm_dif h1, sms_dfs l x h2]

/-- All numbers are alike. -/
def alk (l : List Int) : Bool := l.all (fun x => x == l.getD 0 0)
/-- The numbers that stand in the code by each kind, if it may be. -/
def nms (k : Nat) (l : List Int) : Option (List Int) :=
  match k with
  | 0 => if 1 ≤ l.length ∧ alk l = true then some (l.take 1) else none
  | 1 => if 2 ≤ l.length ∧ alk (dfs 0 l).tail = true then some ((dfs 0 l).take 2) else none
  | 2 => some (dfs 0 l)
  | 3 => if 2 ≤ l.length then some ((dfs 0 l).take 1 ++ dfs 0 (dfs 0 l).tail) else none
  | _ => none
def code (k : Nat) (l : List Int) : Option (List Int) := if l.length ≤ 4096 then (nms k l).map (fun x => (k : Int) :: (bs l.length ++ zbs x)) else none
theorem nms_all {k : Nat} {l x : List Int} (hl : All64 l) (h : nms k l = some x) : All64 x ∧ x.length ≤ l.length := by
  unfold nms at h
  split at h
  · split at h
    · cases h; exact ⟨all64_take hl 1, by simp; omega⟩
    · cases h
  · split at h
    · cases h; exact ⟨all64_take (dfs_all _ _) 2, by rw [List.length_take, dfs_length]; omega⟩
    · cases h
  · cases h; exact ⟨dfs_all _ _, by rw [dfs_length]; exact Nat.le_refl _⟩
  · split at h
    · cases h; refine ⟨all64_append (all64_take (dfs_all _ _) 1) (dfs_all _ _), ?_⟩
      rw [List.length_append, List.length_take, dfs_length, dfs_length, List.length_tail, dfs_length]; omega
    · cases h
  · cases h
/-- One step of the choice. -/
def pick (l : List Int) (k : Nat) (b : Int × Int) : Int × Int :=
  match code k l with
  | some c => if b.2 < 0 ∨ (c.length : Int) < b.2 then ((k : Int), (c.length : Int)) else b
  | none => b
def picks (l : List Int) : Nat → Int × Int
  | 0 => (2, -1)
  | k + 1 => pick l k (picks l k)
def best (l : List Int) : Int := (picks l 4).1
theorem picks_bd (l : List Int) : ∀ k, 0 ≤ (picks l k).1 ∧ (picks l k).1 ≤ (k : Int) + 2
  | 0 => by simp [picks]
  | k + 1 => by
    have := picks_bd l k
    unfold picks pick
    split
    · split <;> simp <;> omega
    · omega
end Go.Proofs.YtbgipenonngccaaDoor
