/- The contracts of HasPrefix, of what a filter asks as a function, of questionOf. Conditions: those of each theorem. -/
import Derived.Test.YtejdpelolihpeaaD
import Derived.Laws.Cover1
namespace Go.Proofs.Ytejdpelolihpeaa
open Go.RowKit

set_option maxHeartbeats 800000 in
theorem pre_lite (s q : ByteArray) (w : World) : Calls Try.prog 32 #[.string s, .string q] w fun e w' => e = .returned (.bool (beg s q)) ∧ w' = w := by
  obtain ⟨b, hb⟩ : ∃ b, Hid (b = beg s q) := ⟨_, rfl⟩
  rw [← hb.out]
  by_cases h : q.size ≤ s.size
  · have h' : (q.size : Int) ≤ (s.size : Int) := by omega
    by_cases e : s.extract 0 q.size = q
    · have e' : ((s.extract 0 q.size).toList == q.toList) = true := by rw [beq_eq]; simpa using e
      have HE : Hid (s.extract 0 q.size = q) := e
      clear e
      go_enter Try.func32, Try.ntmps32
      go_wp2
      go_ret
      refine ⟨ret_bool ?_, rfl⟩
      rw [hb.out, beg]; simp [h, HE.out]
    · have e' : ((s.extract 0 q.size).toList == q.toList) = false := by rw [beq_eq]; simpa using e
      have HE : Hid (¬ s.extract 0 q.size = q) := e
      clear e
      go_enter Try.func32, Try.ntmps32
      go_wp2
      go_ret
      refine ⟨ret_bool ?_, rfl⟩
      rw [hb.out, beg]; simp [HE.out]
  · have h' : ¬ (q.size : Int) ≤ (s.size : Int) := by omega
    go_enter Try.func32, Try.ntmps32
    go_wp2
    go_ret
    refine ⟨ret_bool ?_, rfl⟩
    rw [hb.out, beg]; simp [h]
theorem pre_any (s q : ByteArray) (w : World) : Calls Try.prog 28 #[.string s, .string q] w fun e w' => e = .returned (.bool (beg s q)) ∧ w' = w := by
  have H : Hid _ := pre_lite s q w
  generalize beg s q = b at H ⊢
  go_enter Try.func28, Try.ntmps28
  go_wp2_with (go_at_call 32; refine Calls.mono H.out ?_; rintro e w' ⟨rfl, rfl⟩)
  go_ret
  exact ⟨rfl, rfl⟩

/-- A filter in a block of its own. -/
def Bx (w : World) (b : Nat) (f : Ft) : Prop := b < w.heap.size ∧ At w b 0 f
theorem Bx.below {w w' : World} {b : Nat} {f : Ft} (h : Bx w b f) (hb : Below w.heap.size w w') : Bx w' b f := ⟨Nat.lt_of_lt_of_le h.1 hb.size, h.2.below hb h.1⟩
abbrev Wf (f : Ft) : Prop := f.n.size ≤ maxLen ∧ f.v.size ≤ maxLen
abbrev WfF (fs : List Ft) : Prop := ∀ f ∈ fs, Wf f

theorem is_any (s : ByteArray) (b : Nat) (f : Ft) (w : World) (hx : Bx w b f) : Calls Try.prog 26 #[.string s, .pointer (some ⟨b, 0, none⟩)] w fun e w' => e = .returned (.bool (decide (s = f.v))) ∧ w' = w := by
  obtain ⟨hlt, c0, c1, c2, c3⟩ := hx
  simp only [Nat.zero_add] at c1 c2 c3
  have e' := beq_eq s f.v
  generalize decide (s = f.v) = d at e' ⊢
  go_enter Try.func26, Try.ntmps26
  go_wp2
  go_ret
  exact ⟨rfl, rfl⟩
theorem begins_any (s : ByteArray) (b : Nat) (f : Ft) (w : World) (hx : Bx w b f) : Calls Try.prog 27 #[.string s, .pointer (some ⟨b, 0, none⟩)] w fun e w' => e = .returned (.bool (beg s f.v)) ∧ w' = w := by
  obtain ⟨hlt, c0, c1, c2, c3⟩ := hx
  simp only [Nat.zero_add] at c1 c2 c3
  have H : Hid _ := pre_any s f.v w
  go_enter Try.func27, Try.ntmps27
  go_wp2_with (go_at_call 28; refine Calls.mono H.out ?_; rintro e w' ⟨rfl, rfl⟩)
  go_ret
  exact ⟨rfl, rfl⟩

/-- A function value that tells of texts whether it is so. -/
def IsFn (w : World) (v : Value) (p : ByteArray → Bool) : Prop :=
  ∃ F B, v = .func (.func F) #[] #[.pointer (some ⟨B, 0, none⟩)] ∧
    (∀ (s : ByteArray) (W : World), Sem.run Try.prog (callFunc F #[.string s, .pointer (some ⟨B, 0, none⟩)]) W = .ok (.enter F #[.string s, .pointer (some ⟨B, 0, none⟩)]) W) ∧
    ∀ (s : ByteArray) (W : World), Below w.heap.size w W → Calls Try.prog F #[.string s, .pointer (some ⟨B, 0, none⟩)] W fun e w' => e = .returned (.bool (p s)) ∧ w' = W
theorem IsFn.below {w w' : World} {v : Value} {p : ByteArray → Bool} (h : IsFn w v p) (hb : Below w.heap.size w w') : IsFn w' v p := by
  obtain ⟨F, B, h1, h2, h3⟩ := h
  exact ⟨F, B, h1, h2, fun s W hW => h3 s W (hb.trans (hW.mono hb.size))⟩
theorem cf26 (s : ByteArray) (B : Nat) (w : World) : Sem.run Try.prog (callFunc 26 #[.string s, .pointer (some ⟨B, 0, none⟩)]) w = .ok (.enter 26 #[.string s, .pointer (some ⟨B, 0, none⟩)]) w := by simp [go_sem]
theorem cf27 (s : ByteArray) (B : Nat) (w : World) : Sem.run Try.prog (callFunc 27 #[.string s, .pointer (some ⟨B, 0, none⟩)]) w = .ok (.enter 27 #[.string s, .pointer (some ⟨B, 0, none⟩)]) w := by simp [go_sem]
theorem cf33 (s : ByteArray) (B : Nat) (w : World) : Sem.run Try.prog (callFunc 33 #[.string s, .pointer (some ⟨B, 0, none⟩)]) w = .ok (.enter 33 #[.string s, .pointer (some ⟨B, 0, none⟩)]) w := by simp [go_sem]
theorem fn_is {w : World} {b : Nat} {f : Ft} (hx : Bx w b f) : IsFn w (.func (.func 26) #[] #[.pointer (some ⟨b, 0, none⟩)]) (fun s => decide (s = f.v)) :=
  ⟨26, b, rfl, fun s W => cf26 s b W, fun s W hW => is_any s b f W (hx.below hW)⟩
theorem fn_begins {w : World} {b : Nat} {f : Ft} (hx : Bx w b f) : IsFn w (.func (.func 27) #[] #[.pointer (some ⟨b, 0, none⟩)]) (fun s => beg s f.v) :=
  ⟨27, b, rfl, fun s W => cf27 s b W, fun s W hW => begins_any s b f W (hx.below hW)⟩

theorem notOne_any {p : ByteArray → Bool} (s : ByteArray) (b : Nat) (fv : Value) (w0 w : World) (hf : IsFn w0 fv p) (hb : Below w0.heap.size w0 w) (hc : w.cell? ⟨b, 0, none⟩ = some fv) :
    Calls Try.prog 33 #[.string s, .pointer (some ⟨b, 0, none⟩)] w fun e w' => e = .returned (.bool (!p s)) ∧ w' = w := by
  obtain ⟨F, B, rfl, h2, h3⟩ := hf
  have H : Hid _ := h3 s w hb
  clear h3
  go_enter Try.func33, Try.ntmps33
  go_wp2_with fail
  refine Calls.mono H.out ?_
  rintro e w' ⟨rfl, rfl⟩
  go_wp2
  go_ret
  exact ⟨rfl, rfl⟩
theorem fn_not {p : ByteArray → Bool} {w0 w : World} {fv : Value} {b : Nat} (hf : IsFn w0 fv p) (hb : Below w0.heap.size w0 w) (hlt : b < w.heap.size) (hc : w.cell? ⟨b, 0, none⟩ = some fv) : IsFn w (.func (.func 33) #[] #[.pointer (some ⟨b, 0, none⟩)]) (fun s => !p s) :=
  ⟨33, b, rfl, fun s W => cf33 s _ W, fun s W hW => notOne_any s b fv w0 W hf (hb.trans (hW.mono hb.size)) ((hW.cell (p := ⟨b, 0, none⟩) hlt).trans hc)⟩
theorem not_any (F : FuncId) (B : Nat) (w : World) :
    Calls Try.prog 29 #[.func (.func F) #[] #[.pointer (some ⟨B, 0, none⟩)]] w fun e w' => e = .returned (.func (.func 33) #[] #[.pointer (some ⟨w.heap.size, 0, none⟩)]) ∧ w' = w.alloc (.cells #[.func (.func F) #[] #[.pointer (some ⟨B, 0, none⟩)]] 36) := by
  go_enter Try.func29, Try.ntmps29
  go_wp2
  go_ret
  exact ⟨rfl, rfl⟩
end Go.Proofs.Ytejdpelolihpeaa
