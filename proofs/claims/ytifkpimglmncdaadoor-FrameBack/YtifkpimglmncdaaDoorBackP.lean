/- Frames one behind the other, in plain lists; a slice of rows of bytes that comes in. Conditions: those of each theorem. -/
import Derived.Test.YtifkpimglmncdaaDoorTurnedP
import Derived.Deep.Matrix
namespace Go.Proofs.YtifkpimglmncdaaDoor
open Go.ChangeShapes Go.WideShapes Go.ChangeAt Go.RowKit Go.Lib

/-- The first k frames. -/
def pre (kd : Nat → Nat) (Z : Nat → List Int) : Nat → List Int
  | 0 => []
  | k + 1 => pre kd Z k ++ frm (kd k) (Z k)
/-- d frames from number k on. -/
def sf (kd : Nat → Nat) (Z : Nat → List Int) : Nat → Nat → List Int
  | _, 0 => []
  | k, d + 1 => frm (kd k) (Z k) ++ sf kd Z (k + 1) d
theorem pre_sf (kd : Nat → Nat) (Z : Nat → List Int) : ∀ (d k : Nat), pre kd Z k ++ sf kd Z k d = pre kd Z (k + d)
  | 0, k => by simp [sf]
  | d + 1, k => by
    have ih := pre_sf kd Z d (k + 1)
    rw [show k + (d + 1) = k + 1 + d by omega, ← ih]
    simp [sf, pre]
theorem pre_all (kd : Nat → Nat) (Z : Nat → List Int) (n : Nat) : pre kd Z n = sf kd Z 0 n := by
  have := pre_sf kd Z n 0
  simpa [pre] using this.symm
theorem pre_le (kd : Nat → Nat) (Z : Nat → List Int) : ∀ (k : Nat), (∀ i, i < k → (Z i).length ≤ 500) → (pre kd Z k).length ≤ k * 508
  | 0, _ => by simp [pre]
  | k + 1, h => by
    have ih := pre_le kd Z k (fun i hi => h i (by omega))
    have h1 := h k (by omega)
    have h2 : (bs (Z k).length).length ≤ 3 := bs_le3 (by omega)
    rw [pre, List.length_append, frm_length]
    omega
theorem pre_bytes (kd : Nat → Nat) (Z : Nat → List Int) (hk : ∀ i, kd i ≤ 255) : ∀ (k : Nat), (∀ i, i < k → (Z i).length ≤ 500 ∧ Bytes (Z i)) → Bytes (pre kd Z k)
  | 0, _ => fun x hx => by cases hx
  | k + 1, h => by
    have h1 := h k (by omega)
    exact bytes_append (pre_bytes kd Z hk k (fun i hi => h i (by omega))) (frm_bytes (hk k) (by omega) h1.2)
theorem sf_bytes (kd : Nat → Nat) (Z : Nat → List Int) (hk : ∀ i, kd i ≤ 255) : ∀ (d k : Nat), (∀ i, k ≤ i → i < k + d → (Z i).length ≤ 500 ∧ Bytes (Z i)) → Bytes (sf kd Z k d)
  | 0, _, _ => fun x hx => by cases hx
  | d + 1, k, h => by
    have h1 := h k (by omega) (by omega)
    exact bytes_append (frm_bytes (hk k) (by omega) h1.2) (sf_bytes kd Z hk d (k + 1) (fun i h1 h2 => h i (by omega) (by omega)))
theorem sf_le (kd : Nat → Nat) (Z : Nat → List Int) : ∀ (d k : Nat), (∀ i, k ≤ i → i < k + d → (Z i).length ≤ 500) → (sf kd Z k d).length ≤ d * 508
  | 0, _, _ => by simp [sf]
  | d + 1, k, h => by
    have ih := sf_le kd Z d (k + 1) (fun i h1 h2 => h i (by omega) (by omega))
    have h1 := h k (by omega) (by omega)
    have h2 : (bs (Z k).length).length ≤ 3 := bs_le3 (by omega)
    rw [sf, List.length_append, frm_length]
    omega

/-- A slice of rows of bytes: each of its cells holds a slice that reads so. -/
def Rws (w : World) (a : Option Addr) (len : Nat) (L : Nat → Nat) (Z : Nat → List Int) : Prop :=
  len = 0 ∨ ∃ (g off : Nat) (A : Nat → Option Addr) (C : Nat → Nat), a = some ⟨g, off, none⟩ ∧ g < w.heap.size ∧ ∀ r, r < len → w.cell? ⟨g, off + r, none⟩ = some (.slice (A r) (L r) (C r)) ∧ IsI .u8 w (A r) (L r) (C r) (Z r) ∧ Bytes (Z r)
theorem Rws.below {w w' : World} {a : Option Addr} {len : Nat} {L : Nat → Nat} {Z : Nat → List Int} (h : Rws w a len L Z) (hb : Below w.heap.size w w') : Rws w' a len L Z := by
  rcases h with h | ⟨g, off, A, C, h1, h2, h3⟩
  · exact .inl h
  · exact .inr ⟨g, off, A, C, h1, Nat.lt_of_lt_of_le h2 hb.size, fun r hr => ⟨(hb.cell (p := ⟨g, off + r, none⟩) h2).trans (h3 r hr).1, (h3 r hr).2.1.below hb, (h3 r hr).2.2⟩⟩
theorem rws_30 {H : Type} {enc : TypeId × Value → H} {W : World} {base : Nat} {held : Bool} {a : Option Addr} {len cap fuel : Nat} {x : DataW H × List MemPlace}
    (h : DataW.trod enc Tryd.prog W base (fun _ => true) held fuel 30 [.slice a len cap] = some x) : ∃ L Z, Rws W a len L Z := by
  rcases Deep.open_int_rows Tryd.underlying30 Tryd.underlying22 Tryd.underlying5 (by kernel_rfl) (by kernel_rfl) h with ⟨hcs, _⟩ | ⟨ad, l, c, A, L, C, Z, hcs, _, hl, hm, _, hr⟩
  · simp at hcs
    obtain ⟨rfl, rfl, rfl⟩ := hcs
    exact ⟨fun _ => 0, fun _ => [], .inl rfl⟩
  · simp at hcs
    obtain ⟨rfl, rfl, rfl⟩ := hcs
    refine ⟨L, fun r => (Z r).take (L r), ?_⟩
    by_cases h0 : len = 0
    · exact .inl h0
    · obtain ⟨b, off, spot⟩ := ad
      have hc := (hr 0 (by omega)).1
      have hspot : spot = none := by simpa [Addr.add] using World.cell?_spot hc
      subst hspot
      have hb : b < W.heap.size := by
        have := World.block_lt_of_cell? W _ hc
        simpa [Addr.add] using this
      refine .inr ⟨b, off, A, C, rfl, hb, fun r hr' => ?_⟩
      obtain ⟨h1, h2, h3, h4, h5, h6, h7⟩ := hr r (by omega)
      refine ⟨?_, ⟨by simp; omega, h2, h3, ?_, h6⟩, bytes_wf fun n hn => h5 n (List.mem_of_mem_take hn)⟩
      · rw [Addr.add_lit] at h1; exact h1
      · by_cases hz : L r = 0
        · exact .inl (by simp [hz])
        · cases hA : A r with
          | none => have := h6 hA; omega
          | some a' =>
            obtain ⟨b', off', spot'⟩ := a'
            have hc' := (h7 _ hA).2
            have hc0 := hc' 0 (by omega)
            have hspot' : spot' = none := by simpa [Addr.add] using World.cell?_spot hc0
            subst hspot'
            have hb' : b' < W.heap.size := by
              have := World.block_lt_of_cell? W _ hc0
              simpa [Addr.add] using this
            refine .inr ⟨b', off', rfl, hb', fun i hi => ?_⟩
            simp only [List.length_take] at hi
            have := hc' i (by omega)
            rw [Addr.add_lit] at this
            rw [this]
            congr 2
            simp [List.getD, show i < L r by omega]
theorem kind_at (kind : Int) (k : Nat) : ∃ c d : Nat, bits .and .i64 (wrap64 (kind + (k : Int))) 255 = (c : Int) ∧ bits .and .i64 (wrap64 (wrap64 (kind + (k : Int)) + 1)) 255 = (d : Int) ∧ c = ((kind + (k : Int)) % 256).toNat ∧ c ≤ 255 ∧ c ≠ d := by
  refine ⟨((kind + (k : Int)) % 256).toNat, ((kind + (k : Int) + 1) % 256).toNat, ?_, ?_, rfl, by omega, by omega⟩
  · rw [i64_and255, wrap_mod256]; omega
  · rw [i64_and255, wrap_mod256]
    have := wrap_mod256 (kind + (k : Int))
    omega
end Go.Proofs.YtifkpimglmncdaaDoor
