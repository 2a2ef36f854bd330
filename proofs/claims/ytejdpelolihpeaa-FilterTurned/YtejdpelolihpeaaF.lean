/- The contracts of questionOf, answer, One. Conditions: those of each theorem. -/
import Derived.Test.YtejdpelolihpeaaE
import Derived.Laws.EntriesVeiled
namespace Go.Proofs.Ytejdpelolihpeaa
open Go.RowKit

theorem asks_t (n v : ByteArray) : asks ⟨n, v, false, false⟩ = (fun s => decide (s = v)) := by funext s; simp [asks]
theorem asks_p (n v : ByteArray) : asks ⟨n, v, true, false⟩ = (fun s => beg s v) := by funext s; simp [asks]
theorem asks_nt (n v : ByteArray) : asks ⟨n, v, false, true⟩ = (fun s => !decide (s = v)) := by funext s; simp [asks]
theorem asks_np (n v : ByteArray) : asks ⟨n, v, true, true⟩ = (fun s => !beg s v) := by funext s; simp [asks]

theorem bcell {W w1 : World} (hb : Below W.heap.size W w1) : (∀ b o, b < W.heap.size → w1.cell? ⟨b, o, none⟩ = W.cell? ⟨b, o, none⟩) ∧ (∀ b o, b < W.heap.size → w1.frozen? ⟨b, o, none⟩ = W.frozen? ⟨b, o, none⟩) :=
  ⟨fun b o h => hb.cell (p := ⟨b, o, none⟩) h, fun b o h => hb.frozen (p := ⟨b, o, none⟩) h⟩
set_option maxHeartbeats 1600000 in
theorem question_any (n v : ByteArray) (p t : Bool) (w : World) :
    Calls Try.prog 18 #[.agg #[.string n, .string v, .bool p, .bool t]] w fun e w' => ∃ u, e = .returned (.agg #[.string n, u]) ∧ IsFn w' u (asks ⟨n, v, p, t⟩) ∧ Below w.heap.size w w' := by
  have HX : Hid (Bx (w.alloc (.cells #[.string n, .string v, .bool p, .bool t] 28)) w.heap.size ⟨n, v, p, t⟩) := ⟨by simp, by simp [At]⟩
  have HB : Hid (Below w.heap.size w (w.alloc (.cells #[.string n, .string v, .bool p, .bool t] 28))) := (Below.refl _ _).alloc (Nat.le_refl _) _
  cases p <;> cases t
  · rw [asks_t]
    go_enter Try.func18, Try.ntmps18
    go_wp2
    refine bodyPost_ret (v := .agg #[.string n, .func (.func 26) #[] #[.pointer (some ⟨w.heap.size, 0, none⟩)]]) (by simp [results, Try.results18, go_sem]) rfl ⟨_, rfl, ?_, ?_⟩
    · exact (fn_is HX.out).below ((Below.refl _ _).alloc (by simp) _)
    · exact HB.out.alloc (by simp) _
  · rw [asks_nt]
    go_enter Try.func18, Try.ntmps18
    go_wp2_with fail
    refine (not_any 26 w.heap.size _).mono ?_
    rintro e w2 ⟨rfl, rfl⟩
    go_wp2
    refine bodyPost_ret (v := .agg #[.string n, .func (.func 33) #[] #[.pointer (some ⟨w.heap.size + 1 + 1, 0, none⟩)]]) (by simp [results, Try.results18, go_sem]) rfl ⟨_, rfl, ?_, ?_⟩
    · refine fn_not (fn_is HX.out) (((Below.refl _ _).alloc (by simp) _).alloc (by simp) _) (by simp) ?_
      rw [World.cell?_alloc_at _ _ _ _ (by simp)]; rfl
    · exact (HB.out.alloc (by simp) _).alloc (by simp; omega) _
  · rw [asks_p]
    go_enter Try.func18, Try.ntmps18
    go_wp2
    refine bodyPost_ret (v := .agg #[.string n, .func (.func 27) #[] #[.pointer (some ⟨w.heap.size, 0, none⟩)]]) (by simp [results, Try.results18, go_sem]) rfl ⟨_, rfl, ?_, ?_⟩
    · exact (fn_begins HX.out).below ((Below.refl _ _).alloc (by simp) _)
    · exact HB.out.alloc (by simp) _
  · rw [asks_np]
    go_enter Try.func18, Try.ntmps18
    go_wp2_with fail
    refine (not_any 27 w.heap.size _).mono ?_
    rintro e w2 ⟨rfl, rfl⟩
    go_wp2
    refine bodyPost_ret (v := .agg #[.string n, .func (.func 33) #[] #[.pointer (some ⟨w.heap.size + 1 + 1, 0, none⟩)]]) (by simp [results, Try.results18, go_sem]) rfl ⟨_, rfl, ?_, ?_⟩
    · refine fn_not (fn_begins HX.out) (((Below.refl _ _).alloc (by simp) _).alloc (by simp) _) (by simp) ?_
      rw [World.cell?_alloc_at _ _ _ _ (by simp)]; rfl
    · exact (HB.out.alloc (by simp) _).alloc (by simp; omega) _

set_option maxHeartbeats 1600000 in
theorem answer_any (n : ByteArray) (u : Value) (p : ByteArray → Bool) (sa : Option Addr) (len cap : Nat) (ls : List Lb) (w : World) (hf : IsFn w u p) (hI : IsL w sa len cap ls) :
    Calls Try.prog 19 #[.agg #[.string n, u], .slice sa len cap] w fun e w' => e = .returned (.bool (p (get ls n))) ∧ Below w.heap.size w w' := by
  obtain ⟨F, B, rfl, h2, h3⟩ := hf
  have hB : Below w.heap.size w (w.alloc (.cells #[.string n, .func (.func F) #[] #[.pointer (some ⟨B, 0, none⟩)]] 38)) := (Below.refl _ _).alloc (Nat.le_refl _) _
  have c0 : (w.alloc (.cells #[.string n, .func (.func F) #[] #[.pointer (some ⟨B, 0, none⟩)]] 38)).cell? ⟨w.heap.size, 0, none⟩ = some (.string n) := by simp
  have c1 : (w.alloc (.cells #[.string n, .func (.func F) #[] #[.pointer (some ⟨B, 0, none⟩)]] 38)).cell? ⟨w.heap.size, 1, none⟩ = some (.func (.func F) #[] #[.pointer (some ⟨B, 0, none⟩)]) := by simp
  have HG : Hid (∀ W, Below (w.alloc (.cells #[.string n, .func (.func F) #[] #[.pointer (some ⟨B, 0, none⟩)]] 38)).heap.size (w.alloc (.cells #[.string n, .func (.func F) #[] #[.pointer (some ⟨B, 0, none⟩)]] 38)) W → Calls Try.prog 30 #[.slice sa len cap, .string n] W fun e w' => e = .returned (.string (get ls n)) ∧ Below W.heap.size W w') := fun W hW => get_any sa len cap ls n W ((hI.below hB).below hW)
  have HF : Hid (∀ W, Below (w.alloc (.cells #[.string n, .func (.func F) #[] #[.pointer (some ⟨B, 0, none⟩)]] 38)).heap.size (w.alloc (.cells #[.string n, .func (.func F) #[] #[.pointer (some ⟨B, 0, none⟩)]] 38)) W → Calls Try.prog F #[.string (get ls n), .pointer (some ⟨B, 0, none⟩)] W fun e w' => e = .returned (.bool (p (get ls n))) ∧ w' = W) := fun W hW => h3 _ W (hB.trans (hW.mono hB.size))
  have HR : Hid _ := h2
  have HBB : Hid _ := hB
  clear h2 h3 hB hI
  generalize get ls n = g at *
  generalize p g = r at *
  go_enter Try.func19, Try.ntmps19
  go_wp2
  refine wp_region_K (by kernel_rfl) (by kernel_rfl) [.eq (.pointer (some ⟨w.heap.size, 1, none⟩)), .eq (.func (.func F) #[] #[.pointer (some ⟨B, 0, none⟩)]), .eq (.slice sa len cap), .eq (.pointer (some ⟨w.heap.size, 0, none⟩)), .eq (.string n), .eq (.string g), .eq (.bool r), .eq (.bool r)] _ (Below.refl _ _) (allOps_cons ?_ (allOps_cons ?_ (allOps_cons ?_ (allOps_cons ?_ (allOps_cons ?_ (allOps_cons ?_ (allOps_cons ?_ (allOps_cons ?_ allOps_nil)))))))) ?_
  · intro a wx hS hb hf
    have s2 : a.eval (.tmp 2) = .pointer (some ⟨w.heap.size, 0, none⟩) := (hf 2 (by kernel_rfl)).trans rfl
    rw [if_pos (wanted_none rfl)]
    refine does_val (v := .pointer (some ⟨w.heap.size, 1, none⟩)) (w' := wx) ?_ ⟨rfl, Below.refl _ _⟩
    have t2 := (ev_tmp a 2).symm.trans s2
    simp [execOp, go_sem, t2]
  · intro a wx hS hb hf
    have s5 : a.eval (.tmp 5) = .pointer (some ⟨w.heap.size, 1, none⟩) := slot hb 0 0 5 rfl rfl
    rw [if_pos (wanted_none rfl)]
    have d0 := (hS.cell (p := ⟨w.heap.size, 1, none⟩) (by simp)).trans (c1)
    refine does_val (v := .func (.func F) #[] #[.pointer (some ⟨B, 0, none⟩)]) (w' := wx) ?_ ⟨rfl, Below.refl _ _⟩
    have t5 := (ev_tmp a 5).symm.trans s5
    simp [execOp, go_sem, t5, d0]
  · intro a wx hS hb hf
    have s1 : a.eval (.tmp 1) = .slice sa len cap := (hf 1 (by kernel_rfl)).trans rfl
    rw [if_pos (wanted_none rfl)]
    refine does_val (v := .slice sa len cap) (w' := wx) ?_ ⟨rfl, Below.refl _ _⟩
    have t1 := (ev_tmp a 1).symm.trans s1
    simp [execOp, go_sem, t1]
  · intro a wx hS hb hf
    have s2 : a.eval (.tmp 2) = .pointer (some ⟨w.heap.size, 0, none⟩) := (hf 2 (by kernel_rfl)).trans rfl
    rw [if_pos (wanted_none rfl)]
    refine does_val (v := .pointer (some ⟨w.heap.size, 0, none⟩)) (w' := wx) ?_ ⟨rfl, Below.refl _ _⟩
    have t2 := (ev_tmp a 2).symm.trans s2
    simp [execOp, go_sem, t2]
  · intro a wx hS hb hf
    have s8 : a.eval (.tmp 8) = .pointer (some ⟨w.heap.size, 0, none⟩) := slot hb 0 3 8 rfl rfl
    rw [if_pos (wanted_none rfl)]
    have d0 := (hS.cell (p := ⟨w.heap.size, 0, none⟩) (by simp)).trans (c0)
    refine does_val (v := .string n) (w' := wx) ?_ ⟨rfl, Below.refl _ _⟩
    have t8 := (ev_tmp a 8).symm.trans s8
    simp [execOp, go_sem, t8, d0]
  · intro a wx hS hb hf
    have s7 : a.eval (.tmp 7) = .slice sa len cap := slot hb 0 2 7 rfl rfl
    have s9 : a.eval (.tmp 9) = .string n := slot hb 1 4 9 rfl rfl
    rw [if_pos (wanted_none rfl)]
    have t7 := (ev_tmp a 7).symm.trans s7
    have t9 := (ev_tmp a 9).symm.trans s9
    refine does_call (f := 30) (args := #[.slice sa len cap, .string n]) (w' := wx) (by simp [go_sem, t7, t9]) ?_
    refine Calls.mono (HG.out wx hS) ?_
    rintro r' w' ⟨rfl, hbb⟩
    exact ⟨_, rfl, rfl, hbb⟩
  · intro a wx hS hb hf
    have s6 : a.eval (.tmp 6) = .func (.func F) #[] #[.pointer (some ⟨B, 0, none⟩)] := slot hb 0 1 6 rfl rfl
    have s10 : a.eval (.tmp 10) = .string g := slot hb 1 5 10 rfl rfl
    rw [if_pos (wanted_none rfl)]
    have t6 := (ev_tmp a 6).symm.trans s6
    have t10 := (ev_tmp a 10).symm.trans s10
    refine does_call (f := F) (args := #[.string g, .pointer (some ⟨B, 0, none⟩)]) (w' := wx) (by simp [execOp, resolve, invoke, go_sem, t6, t10, HR.out]) ?_
    refine Calls.mono (HF.out wx hS) ?_
    rintro r' w' ⟨rfl, rfl⟩
    exact ⟨_, rfl, rfl, Below.refl _ _⟩
  · intro a wx hS hb hf
    have s11 : a.eval (.tmp 11) = .bool r := slot hb 0 6 11 rfl rfl
    rw [if_pos (wanted_none rfl)]
    refine does_val (v := .bool r) (w' := wx) ?_ ⟨rfl, Below.refl _ _⟩
    have t11 := (ev_tmp a 11).symm.trans s11
    simp [execOp, go_sem, t11]
  rename_i hK
  intro a u hbu hts hd hdone hfree
  exact hK _ _ (ret_K (t := 4) rfl hd (done_slot hdone 7 4 rfl) ⟨rfl, HBB.out.trans (hbu.mono HBB.out.size)⟩)

theorem one_any (f : Ft) (sa : Option Addr) (len cap : Nat) (ls : List Lb) (w : World) (hI : IsL w sa len cap ls) :
    Calls Try.prog 10 #[.agg #[.string f.n, .string f.v, .bool f.p, .bool f.t], .slice sa len cap] w fun e w' => e = .returned (.bool (one f ls)) ∧ Below w.heap.size w w' := by
  obtain ⟨n, v, p, t⟩ := f
  simp only
  obtain ⟨r, hr⟩ : ∃ r, Hid (r = one ⟨n, v, p, t⟩ ls) := ⟨_, rfl⟩
  rw [← hr.out]
  have HI : Hid (IsL w sa len cap ls) := hI
  clear hI
  go_enter Try.func10, Try.ntmps10
  go_wp2_with fail
  refine (question_any n v p t _).mono ?_
  rintro e w2 ⟨u, rfl, hf, hb⟩
  have hb2 : Below w.heap.size w w2 := ((Below.refl _ _).alloc (Nat.le_refl _) _).trans (hb.mono (by simp))
  have H2 : Hid (Below w.heap.size w w2 ∧ IsFn w2 u (asks ⟨n, v, p, t⟩)) := ⟨hb2, hf⟩
  obtain ⟨F, B, rfl, _, _⟩ := hf
  clear hb hb2
  go_wp2_with fail
  refine Calls.mono (answer_any n _ _ sa len cap ls w2 H2.out.2 (HI.out.below H2.out.1)) ?_
  rintro e w3 ⟨rfl, hb⟩
  have H3 : Hid (Below w.heap.size w w3) := H2.out.1.trans (hb.mono H2.out.1.size)
  clear hb
  rw [show asks ⟨n, v, p, t⟩ (get ls n) = r from hr.out.symm]
  go_wp2
  go_ret
  exact ⟨rfl, H3.out⟩
end Go.Proofs.Ytejdpelolihpeaa
