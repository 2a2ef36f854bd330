/- Plain: the sum of bytes as chapter 5 tells it, bit by bit; by half bytes; that it tells one byte's change. Conditions: those of each theorem. -/
import GoSem.Claim
import Derived.Test.YtocjmbhfpofoeaaDoorVa
namespace Go.Proofs.YtocjmbhfpofoeaaDoor

def pl : Nat := 3988292384
/-- One bit. -/
def st (r : Nat) : Nat := if r % 2 = 1 then (r / 2) ^^^ pl else r / 2
def sts : Nat → Nat → Nat
  | 0, r => r
  | k + 1, r => sts k (st r)
/-- One byte. -/
def ab (r b : Nat) : Nat := sts 8 (r ^^^ b)
def cr (r : Nat) : List Int → Nat
  | [] => r
  | b :: l => cr (ab r b.toNat) l
/-- The sum of bytes. -/
def crc (l : List Int) : Nat := 4294967295 - cr 4294967295 l

theorem xor_lt32 {a b : Nat} (ha : a < 4294967296) (hb : b < 4294967296) : a ^^^ b < 4294967296 := Nat.xor_lt_two_pow (n := 32) ha hb
theorem st_lt {r : Nat} (h : r < 4294967296) : st r < 4294967296 := by
  unfold st
  split
  · exact xor_lt32 (by omega) (by decide)
  · omega
theorem sts_lt : ∀ (k : Nat) {r : Nat}, r < 4294967296 → sts k r < 4294967296
  | 0, _, h => h
  | k + 1, _, h => sts_lt k (st_lt h)
theorem xor_mod2 (a b : Nat) : (a ^^^ b) % 2 = (a + b) % 2 := by
  have := Nat.xor_mod_two_pow (a := a) (b := b) (n := 1)
  simp only [Nat.pow_one] at this
  rw [this]
  have ha : a % 2 = 0 ∨ a % 2 = 1 := by omega
  have hb : b % 2 = 0 ∨ b % 2 = 1 := by omega
  rcases ha with ha | ha <;> rcases hb with hb | hb <;> rw [ha, hb] <;> simp <;> omega
theorem xor_div2 (a b : Nat) : (a ^^^ b) / 2 = (a / 2) ^^^ (b / 2) := by
  have := Nat.xor_div_two_pow (a := a) (b := b) (n := 1)
  simpa using this
theorem xor_swap (a b p : Nat) : (a ^^^ p) ^^^ (b ^^^ p) = a ^^^ b := by
  rw [Nat.xor_comm b p, Nat.xor_assoc, ← Nat.xor_assoc p p b, Nat.xor_self, Nat.zero_xor]
theorem st_xor (a b : Nat) : st (a ^^^ b) = st a ^^^ st b := by
  unfold st
  rw [xor_mod2, xor_div2]
  by_cases ha : a % 2 = 1 <;> by_cases hb : b % 2 = 1
  · rw [if_neg (by omega), if_pos ha, if_pos hb, xor_swap]
  · rw [if_pos (by omega), if_pos ha, if_neg hb, Nat.xor_assoc, Nat.xor_comm (b / 2) pl, ← Nat.xor_assoc]
  · rw [if_pos (by omega), if_neg ha, if_pos hb, Nat.xor_assoc]
  · rw [if_neg (by omega), if_neg ha, if_neg hb]
theorem sts_xor : ∀ (k a b : Nat), sts k (a ^^^ b) = sts k a ^^^ sts k b
  | 0, _, _ => rfl
  | k + 1, a, b => by show sts k (st (a ^^^ b)) = _; rw [st_xor, sts_xor k]; rfl
theorem sts_add : ∀ (j k r : Nat), sts (j + k) r = sts k (sts j r)
  | 0, k, r => by rw [Nat.zero_add]; rfl
  | j + 1, k, r => by rw [show j + 1 + k = (j + k) + 1 by omega]; exact sts_add j k (st r)

theorem bit31 {x : Nat} (h : x < 2147483648) : 2147483648 ≤ x ^^^ pl := by
  have e : (x ^^^ pl) / 2147483648 = (x / 2147483648) ^^^ (pl / 2147483648) := by
    have := Nat.xor_div_two_pow (a := x) (b := pl) (n := 31)
    simpa using this
  have e0 : x / 2147483648 = 0 := Nat.div_eq_of_lt h
  rw [e0, Nat.zero_xor] at e
  have : pl / 2147483648 = 1 := by decide
  rw [this] at e
  omega
theorem st_inj {a b : Nat} (ha : a < 4294967296) (hb : b < 4294967296) (h : st a = st b) : a = b := by
  unfold st at h
  by_cases h1 : a % 2 = 1 <;> by_cases h2 : b % 2 = 1
  · rw [if_pos h1, if_pos h2] at h
    have := congrArg (· ^^^ pl) h
    simp only [Nat.xor_assoc, Nat.xor_self, Nat.xor_zero] at this
    omega
  · rw [if_pos h1, if_neg h2] at h
    have := bit31 (x := a / 2) (by omega)
    omega
  · rw [if_neg h1, if_pos h2] at h
    have := bit31 (x := b / 2) (by omega)
    omega
  · rw [if_neg h1, if_neg h2] at h
    omega
theorem sts_inj : ∀ (k : Nat) {a b : Nat}, a < 4294967296 → b < 4294967296 → sts k a = sts k b → a = b
  | 0, _, _, _, _, h => h
  | k + 1, _, _, ha, hb, h => st_inj ha hb (sts_inj k (st_lt ha) (st_lt hb) h)
theorem xor_cancel {a b c : Nat} (h : a ^^^ c = b ^^^ c) : a = b := by
  have := congrArg (· ^^^ c) h
  simpa only [Nat.xor_assoc, Nat.xor_self, Nat.xor_zero] using this
theorem ab_lt {r b : Nat} (hr : r < 4294967296) (hb : b < 4294967296) : ab r b < 4294967296 := sts_lt 8 (xor_lt32 hr hb)
theorem ab_inj {r r' b : Nat} (hr : r < 4294967296) (hr' : r' < 4294967296) (hb : b < 4294967296) (h : ab r b = ab r' b) : r = r' :=
  xor_cancel (sts_inj 8 (xor_lt32 hr hb) (xor_lt32 hr' hb) h)
theorem ab_byte {r b b' : Nat} (hr : r < 4294967296) (hb : b < 4294967296) (hb' : b' < 4294967296) (h : ab r b = ab r b') : b = b' := by
  have := sts_inj 8 (xor_lt32 hr hb) (xor_lt32 hr hb') h
  rw [Nat.xor_comm r b, Nat.xor_comm r b'] at this
  exact xor_cancel this

theorem Bytes.toNat {l : List Int} (h : Bytes l) {x : Int} (hx : x ∈ l) : x.toNat < 4294967296 := by
  have := h x hx; omega
theorem cr_lt : ∀ (l : List Int) {r : Nat}, Bytes l → r < 4294967296 → cr r l < 4294967296
  | [], _, _, h => h
  | _ :: l, _, hl, h => cr_lt l (fun x hx => hl x (List.mem_cons_of_mem _ hx)) (ab_lt h (hl.toNat (List.mem_cons_self ..)))
theorem cr_append : ∀ (a b : List Int) (r : Nat), cr r (a ++ b) = cr (cr r a) b
  | [], _, _ => rfl
  | x :: a, b, r => cr_append a b (ab r x.toNat)
theorem cr_inj : ∀ (l : List Int) {r r' : Nat}, Bytes l → r < 4294967296 → r' < 4294967296 → cr r l = cr r' l → r = r'
  | [], _, _, _, _, _, h => h
  | b :: l, _, _, hl, hr, hr', h => by
    have hb := hl.toNat (List.mem_cons_self ..)
    exact ab_inj hr hr' hb (cr_inj l (fun x hx => hl x (List.mem_cons_of_mem _ hx)) (ab_lt hr hb) (ab_lt hr' hb) h)
/-- One byte's change is told. -/
theorem crc_turn {a b : List Int} {x y : Int} (ha : Bytes a) (hb : Bytes b) (hx : 0 ≤ x ∧ x ≤ 255) (hy : 0 ≤ y ∧ y ≤ 255) (hne : x ≠ y) : crc (a ++ x :: b) ≠ crc (a ++ y :: b) := by
  intro h
  have h1 : cr 4294967295 (a ++ x :: b) < 4294967296 := cr_lt _ (fun z hz => by
    rcases List.mem_append.1 hz with hz | hz
    · exact ha z hz
    · rcases List.mem_cons.1 hz with rfl | hz
      · exact hx
      · exact hb z hz) (by decide)
  have h2 : cr 4294967295 (a ++ y :: b) < 4294967296 := cr_lt _ (fun z hz => by
    rcases List.mem_append.1 hz with hz | hz
    · exact ha z hz
    · rcases List.mem_cons.1 hz with rfl | hz
      · exact hy
      · exact hb z hz) (by decide)
  unfold crc at h
  have h3 : cr 4294967295 (a ++ x :: b) = cr 4294967295 (a ++ y :: b) := by omega
  rw [cr_append, cr_append] at h3
  have hr := cr_lt a (r := 4294967295) ha (by decide)
  have hxn : x.toNat < 4294967296 := by omega
  have hyn : y.toNat < 4294967296 := by omega
  have h4 := cr_inj b hb (ab_lt hr hxn) (ab_lt hr hyn) h3
  have h5 := ab_byte hr hxn hyn h4
  omega
theorem crc_lt (l : List Int) : crc l < 4294967296 := by unfold crc; omega

/-- By half bytes. -/
theorem sts_even : ∀ (k h : Nat), sts k (2 ^ k * h) = h
  | 0, h => by simp [sts]
  | k + 1, h => by
    show sts k (st (2 ^ (k + 1) * h)) = h
    have e : st (2 ^ (k + 1) * h) = 2 ^ k * h := by
      unfold st
      rw [Nat.pow_succ, Nat.mul_comm (2 ^ k) 2, Nat.mul_assoc, if_neg (by omega)]; omega
    rw [e, sts_even k h]
theorem split16 (r : Nat) : r = (16 * (r / 16)) ^^^ (r % 16) := by
  have h := Nat.two_pow_add_eq_or_of_lt (i := 4) (b := r % 16) (by omega) (r / 16)
  have h2 : (2 ^ 4 * (r / 16)) ||| (r % 16) = (2 ^ 4 * (r / 16)) ^^^ (r % 16) := by
    apply Nat.eq_of_testBit_eq
    intro i
    rw [Nat.testBit_or, Nat.testBit_xor]
    by_cases hi : i < 4
    · have : (2 ^ 4 * (r / 16)).testBit i = false := by
        rw [Nat.testBit_two_pow_mul]; simp; omega
      rw [this]; simp
    · have : (r % 16).testBit i = false := Nat.testBit_lt_two_pow (Nat.lt_of_lt_of_le (Nat.mod_lt r (by decide)) (Nat.pow_le_pow_right (n := 2) (by decide) (show 4 ≤ i by omega)))
      rw [this]; simp
  rw [← h2, ← h]
  have : (2 : Nat) ^ 4 = 16 := by decide
  omega
theorem nib (r : Nat) : sts 4 r = (r / 16) ^^^ sts 4 (r % 16) := by
  have e : sts 4 r = sts 4 ((16 * (r / 16)) ^^^ (r % 16)) := by rw [← split16]
  rw [e, sts_xor, show 16 * (r / 16) = 2 ^ 4 * (r / 16) from rfl, sts_even]

/-- The four bytes of a sum, the highest first. -/
def tl (s : Nat) : List Int := [((s / 16777216 : Nat) : Int), ((s / 65536 % 256 : Nat) : Int), ((s / 256 % 256 : Nat) : Int), ((s % 256 : Nat) : Int)]
theorem tl_inj {s t : Nat} (h : tl s = tl t) : s = t := by
  unfold tl at h
  simp only [List.cons.injEq, and_true] at h
  omega
theorem tl_length (s : Nat) : (tl s).length = 4 := rfl
theorem tl_bytes {s : Nat} (h : s < 4294967296) : Bytes (tl s) := by
  intro x hx
  simp only [tl, List.mem_cons, List.not_mem_nil, or_false] at hx
  omega
end Go.Proofs.YtocjmbhfpofoeaaDoor
