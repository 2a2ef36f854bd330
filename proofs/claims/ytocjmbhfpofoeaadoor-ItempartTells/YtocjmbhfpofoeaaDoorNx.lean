/- The contracts of Next and Only. Conditions: the table of half bytes; sizes. -/
import Derived.Test.YtocjmbhfpofoeaaDoorFk
namespace Go.Proofs.YtocjmbhfpofoeaaDoor
open Go.RowKit

/-- What first needs of the bytes of a slice. -/
structure Sb (w : World) (g off len cap : Nat) (l : List Int) : Prop where
  hl : l.length = len
  hc : len ≤ cap
  hm : cap ≤ maxLen
  hg : g < w.heap.size
  cells : ∀ i, i < l.length → w.cell? ⟨g, off + i, none⟩ = some (.int .u8 (l.getD i 0))
  by_ : Bytes l
theorem Sb.below {w w' : World} {g off len cap : Nat} {l : List Int} (h : Sb w g off len cap l) (hb : Below w.heap.size w w') : Sb w' g off len cap l :=
  ⟨h.hl, h.hc, h.hm, Nat.lt_of_lt_of_le h.hg hb.size, fun i hi => (hb.cell (p := ⟨g, off + i, none⟩) h.hg).trans (h.cells i hi), h.by_⟩
theorem sb_of {w : World} {a : Option Addr} {len cap : Nat} {l : List Int} (h : IsI .u8 w a len cap l) (hb : Bytes l) (hp : 1 ≤ len) : ∃ g off, a = some ⟨g, off, none⟩ ∧ Sb w g off len cap l := by
  have := h.hl
  rcases h.rd with rfl | ⟨g, off, h1, h2, h3⟩
  · simp at this; omega
  · exact ⟨g, off, h1, h.hl, h.hc, h.hm, h2, h3, hb⟩
/-- A piece of the bytes. -/
theorem Sb.piece {w : World} {g off len cap : Nat} {l : List Int} (h : Sb w g off len cap l) (i : Nat) (p : List Int) (hp : ∀ j, j < p.length → l[i + j]? = some (p.getD j 0)) : ∀ j, j < p.length → w.cell? ⟨g, off + i + j, none⟩ = some (.int .u8 (p.getD j 0)) := by
  intro j hj
  have h1 := hp j hj
  have hlt : i + j < l.length := (List.getElem?_eq_some_iff.1 h1).1
  rw [Nat.add_assoc, h.cells (i + j) hlt]
  simp [List.getD, h1]
theorem Sb.rd {w : World} {g off len cap : Nat} {l : List Int} (h : Sb w g off len cap l) (i : Nat) (p : List Int) (hp : ∀ j, j < p.length → l[i + j]? = some (p.getD j 0)) : Rd .u8 w (some ⟨g, off + i, none⟩) p :=
  .inr ⟨g, off + i, rfl, h.hg, h.piece i p hp⟩
theorem at_mid (a b c : List Int) (j : Nat) (hj : j < b.length) : (a ++ b ++ c)[a.length + j]? = some (b.getD j 0) := by
  rw [List.append_assoc, List.getElem?_append_right (by omega), Nat.add_sub_cancel_left, List.getElem?_append_left hj]
  simp [List.getD, hj]
theorem bs_le3 {n : Nat} (h : n ≤ 65535) : (bs n).length ≤ 3 := bs_le 2 n (Nat.lt_of_le_of_lt h (by decide))
theorem take_split (l : List Int) (n : Nat) : l = l.take n ++ l.drop n := (List.take_append_drop n l).symm

/-- A frame's bytes, with any four bytes in the place of its sum. -/
theorem first_any (g off len cap kind : Nat) (zs s4 rest l : List Int) (w : World) (hk : kind ≤ 255) (hn : zs.length ≤ 65535) (h4 : s4.length = 4) (hl : l = hd kind zs ++ s4 ++ rest) (hS : Sb w g off len cap l) (hH : Ha w) (hlen : len ≤ 1000000) (eq : Bool) (heq : eq = ((jn s4 0 : Int) == (crc (hd kind zs) : Int))) :
    Calls Tryd.prog 63 #[.slice (some ⟨g, off, none⟩) len cap] w fun e w' => Below w.heap.size w w' ∧ (if eq = true then ∃ a1 c1 a2 c2, e = .returned (.tuple #[.agg #[.int .i64 (kind : Int), .slice a1 zs.length c1, .slice a2 rest.length c2], .int .i64 0]) ∧ IsI .u8 w' a1 zs.length c1 zs ∧ IsI .u8 w' a2 rest.length c2 rest else e = .returned (.tuple #[zagg, .int .i64 50])) := by
  have hhl := hd_length kind zs
  have hb3 := bs_le3 hn
  have hbp := bs_pos zs.length
  have hll : len = 1 + (bs zs.length).length + zs.length + 4 + rest.length := by rw [← hS.hl, hl, List.length_append, List.length_append, hhl, h4]
  have hbyz : Bytes zs := fun x hx => hS.by_ x (by rw [hl]; simp [hd, hx])
  have hbyr : Bytes rest := fun x hx => hS.by_ x (by rw [hl]; simp [hx])
  have hby4 : Bytes s4 := fun x hx => hS.by_ x (by rw [hl]; simp [hx])
  have hbyh : Bytes (hd kind zs) := fun x hx => hS.by_ x (by rw [hl]; simp [hx])
  have hhc := hS.hc
  obtain ⟨M, hM⟩ : ∃ M, M + 1 = min len 11 := ⟨min len 11 - 1, by omega⟩
  -- what Take is given
  obtain ⟨tk, htk⟩ : ∃ tk, (l.drop 1).take M = bs zs.length ++ tk := by
    refine ⟨(zs ++ s4 ++ rest).take (M - (bs zs.length).length), ?_⟩
    have e : l.drop 1 = bs zs.length ++ (zs ++ s4 ++ rest) := by rw [hl]; simp [hd]
    rw [e, List.take_append]
    congr 1
    exact List.take_of_length_le (by omega)
  have htl : (bs zs.length ++ tk).length = M := by rw [← htk, List.length_take, List.length_drop, hS.hl]; omega
  have hpt : ∀ j, j < (bs zs.length ++ tk).length → l[1 + j]? = some ((bs zs.length ++ tk).getD j 0) := by
    intro j hj
    have hjM : j < M := by omega
    rw [← htk]
    have hj2 : 1 + j < l.length := by rw [hS.hl]; omega
    have e : ((l.drop 1).take M)[j]? = l[1 + j]? := by rw [List.getElem?_take_of_lt hjM, List.getElem?_drop]
    rw [List.getD_eq_getElem?_getD, e, List.getElem?_eq_getElem hj2]; rfl
  have hp4 : ∀ j, j < s4.length → l[(hd kind zs).length + j]? = some (s4.getD j 0) := by intro j hj; rw [hl]; exact at_mid _ _ _ j hj
  have hph : ∀ j, j < (hd kind zs).length → l[0 + j]? = some ((hd kind zs).getD j 0) := by
    intro j hj
    have := at_mid [] (hd kind zs) (s4 ++ rest) j hj
    rw [hl]; simpa using this
  have hpz : ∀ j, j < zs.length → l[1 + (bs zs.length).length + j]? = some (zs.getD j 0) := by
    intro j hj
    have := at_mid ((kind : Int) :: bs zs.length) zs (s4 ++ rest) j hj
    rw [hl]
    have e : ((kind : Int) :: bs zs.length).length = 1 + (bs zs.length).length := by simp; omega
    rw [e] at this
    simpa [hd] using this
  have hpr : ∀ j, j < rest.length → l[(hd kind zs).length + 4 + j]? = some (rest.getD j 0) := by
    intro j hj
    have := at_mid (hd kind zs ++ s4) rest [] j hj
    rw [hl]
    have e : (hd kind zs ++ s4).length = (hd kind zs).length + 4 := by simp [h4]
    rw [e] at this
    simpa using this
  have hmx := hS.hm
  have hk0 : w.cell? ⟨g, off, none⟩ = some (.int .u8 (kind : Int)) := by
    have := hS.cells 0 (by rw [hS.hl]; omega)
    rw [hl] at this
    simpa [hd] using this
  refine (first_walk g off len cap M zs.length (1 + (bs zs.length).length) (hd kind zs).length (kind : Int) (jn s4 0 : Int) (crc (hd kind zs) : Int) eq w (by omega) (by omega) hhc hmx hS.hg hn (by omega) (by omega) (by rw [hhl]; omega) (by rw [hhl]; omega) hM hk0 rfl ?_ ?_ ?_ heq.symm).mono ?_
  · intro w' hb
    have hS' := hS.below hb
    have h := take_ok g (off + 1) (cap - 1) zs.length tk w' (by omega) hS'.hg (hS'.piece 1 _ hpt) (by omega) (by omega) (by rw [List.length_append] at htl; omega)
    rw [htl] at h
    refine Calls.mono h ?_
    rintro e w'' ⟨h, rfl, _, hb'⟩
    exact ⟨_, rfl, hb'⟩
  · intro w' c hb
    have h := joined_any (some ⟨g, off + (hd kind zs).length, none⟩) 4 c s4 w' h4 (by decide) ((hS.below hb).rd _ s4 hp4) hby4
    exact h
  · intro w' c hb
    have h := sum_any (some ⟨g, off, none⟩) (hd kind zs).length c (hd kind zs) w' rfl (by rw [hhl]; omega) ((hS.below hb).rd 0 _ hph) hbyh (hH.below hb)
    exact h
  · intro e w' hp
    refine ⟨hp.1, ?_⟩
    have hS' := hS.below hp.1
    cases eq with
    | false => exact hp.2
    | true =>
      obtain ⟨ar, rfl, har⟩ := hp.2
      have hrl : len - ((hd kind zs).length + 4) = rest.length := by rw [hhl]; omega
      refine ⟨_, _, ar, _, by rw [hrl], ⟨rfl, by omega, by omega, hS'.rd _ zs hpz, fun h => by cases h⟩, ⟨rfl, by omega, by omega, ?_, ?_⟩⟩
      · by_cases hc : cap = (hd kind zs).length + 4
        · exact .inl (List.eq_nil_of_length_eq_zero (by omega))
        · rw [har hc]; exact hS'.rd _ rest hpr
      · intro ha
        by_cases hc : cap = (hd kind zs).length + 4
        · omega
        · rw [har hc] at ha; cases ha

/-- Bytes that end ahead of a frame's end. -/
theorem first_cut (g off len cap kind : Nat) (zs s4 l : List Int) (w : World) (hk : kind ≤ 255) (hn : zs.length ≤ 65535) (h4 : s4.length = 4) (h1 : 1 ≤ len) (hlt : len < (hd kind zs ++ s4).length) (hl : l = (hd kind zs ++ s4).take len) (hS : Sb w g off len cap l) :
    Calls Tryd.prog 63 #[.slice (some ⟨g, off, none⟩) len cap] w fun e w' => e = .returned (.tuple #[zagg, .int .i64 10]) ∧ Below w.heap.size w w' := by
  have hhl := hd_length kind zs
  have hb3 := bs_le3 hn
  have hbp := bs_pos zs.length
  have hfl : (hd kind zs ++ s4).length = 1 + (bs zs.length).length + zs.length + 4 := by rw [List.length_append, hhl, h4]
  have hhc := hS.hc
  have hmx := hS.hm
  obtain ⟨M, hM⟩ : ∃ M, M + 1 = min len 11 := ⟨min len 11 - 1, by omega⟩
  have hk0 : w.cell? ⟨g, off, none⟩ = some (.int .u8 (kind : Int)) := by
    have := hS.cells 0 (by rw [hS.hl]; omega)
    have e : l.getD 0 0 = (kind : Int) := by
      rw [hl, List.getD_eq_getElem?_getD, List.getElem?_take_of_lt (by omega)]; simp [hd]
    rw [e] at this
    exact this
  have hdr : (l.drop 1).take M = (bs zs.length ++ (zs ++ s4)).take M := by
    have e : (hd kind zs ++ s4).drop 1 = bs zs.length ++ (zs ++ s4) := by simp [hd]
    rw [hl, List.drop_take, e, List.take_take]
    congr 1; omega
  have hptl : ∀ p : List Int, p = (l.drop 1).take M → ∀ j, j < p.length → l[1 + j]? = some (p.getD j 0) := by
    intro p hp j hj
    rw [hp] at hj ⊢
    rw [List.length_take, List.length_drop] at hj
    have hj2 : 1 + j < l.length := by omega
    have e : ((l.drop 1).take M)[j]? = l[1 + j]? := by rw [List.getElem?_take_of_lt (by omega), List.getElem?_drop]
    rw [List.getD_eq_getElem?_getD, e, List.getElem?_eq_getElem hj2]; rfl
  have hpl : ((l.drop 1).take M).length = M := by rw [List.length_take, List.length_drop, hS.hl]; omega
  by_cases hs : len ≤ (bs zs.length).length
  · -- within the length
    have hMb : M + 1 = len := by omega
    have e : (l.drop 1).take M = (bs zs.length).take M := by rw [hdr, List.take_append_of_le_length (by omega)]
    refine first_take g off len cap M (kind : Int) 10 w (by omega) (by omega) h1 hhc hmx hS.hg (by decide) hM hk0 ?_
    intro w' a c ha hb
    have hfa := bs_facts (u := zs.length) (by omega)
    have hrd : Rd .u8 w' a ((bs zs.length).take M) := by
      by_cases hc1 : cap = 1
      · exact .inl (by rw [show M = 0 by omega]; rfl)
      · rw [ha hc1, ← e]
        exact (hS.below hb).rd 1 _ (hptl _ rfl)
    have hlen : ((bs zs.length).take M).length = M := by rw [← e]; exact hpl
    have h := take_short a c ((bs zs.length).take M) w' hrd (by omega) (by
      intro i hi
      rw [hlen] at hi
      rw [List.getD_eq_getElem?_getD, List.getElem?_take_of_lt hi, ← List.getD_eq_getElem?_getD]
      exact hfa.1 i (by omega))
    rw [hlen] at h
    exact h
  · obtain ⟨tk, htk⟩ : ∃ tk, (l.drop 1).take M = bs zs.length ++ tk := by
      refine ⟨(zs ++ s4).take (M - (bs zs.length).length), ?_⟩
      rw [hdr, List.take_append]
      congr 1
      exact List.take_of_length_le (by omega)
    have htl : (bs zs.length ++ tk).length = M := by rw [← htk]; exact hpl
    refine first_short g off len cap M zs.length (bs zs.length).length (kind : Int) w (by omega) (by omega) h1 hhc hS.hg hn (by omega) (by omega) hM hk0 rfl (by omega) ?_
    intro w' hb
    have hS' := hS.below hb
    have h := take_ok g (off + 1) (cap - 1) zs.length tk w' (by omega) hS'.hg (hS'.piece 1 _ (hptl _ htk.symm)) (by omega) (by omega) (by rw [List.length_append] at htl; omega)
    rw [htl] at h
    refine Calls.mono h ?_
    rintro e w'' ⟨h, rfl, _, hb'⟩
    exact ⟨_, rfl, hb'⟩
end Go.Proofs.YtocjmbhfpofoeaaDoor
