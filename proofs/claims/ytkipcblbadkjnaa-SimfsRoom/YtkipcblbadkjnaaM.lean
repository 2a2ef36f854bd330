/- The contracts of Sync and Read; what a change of one file leaves. Conditions: those of each theorem. -/
import Derived.Test.YtkipcblbadkjnaaL
namespace Go.Proofs.Ytkipcblbadkjnaa
open Go.RowKit

/-- Files of which one has become another. -/
def setF (y : X) (g : Nat) (rv : Value) (bs : List Int) (st : Int) : X := { y with rv := fun k => if k = g then rv else y.rv k, bs := fun k => if k = g then bs else y.bs k, st := fun k => if k = g then st else y.st k }
theorem FW.setFile {w w' : World} {b : Nat} {y : X} (h : FW w b y) {g : Nat} (hg : y.K g) {rv : Value} {bs : List Int} {st : Int} (hk : Kp (fun k => k = g ∨ (y.rv g).ownBlock = some k) w w')
    (hf : w'.heap[g]? = some (.cells #[.int .i64 (y.num g), rv, .int .i64 st] 79)) (hr : w'.ownsRow 0 5 1 rv bs.length (bs.map (Value.int .u8))) (hs : ∀ k, rv.ownBlock = some k → (y.rv g).ownBlock = some k ∨ w.heap.size ≤ k)
    (h0 : 0 ≤ st ∧ st ≤ bs.length ∧ bs.length ≤ 1048576) : Mv b w y w' (setF y g rv bs st) := by
  have far : ∀ k t, tg w k = some t → t ≠ 80 → t ≠ 6 → w'.heap[k]? = w.heap[k]? := fun k t ht n1 n2 =>
    hk.block k (tg_lt ht) (fun hc => by
      rcases hc with e | e
      · exact tg_ne ht (h.tf hg) n1 e
      · exact tg_ne ht (h.tr hg e) n2 rfl)
  have f2 : ∀ g', y.K g' → g' ≠ g → w'.heap[g']? = w.heap[g']? := fun g' hg' n => hk.block g' (tg_lt (h.tf hg')) (fun hc => by
      rcases hc with e | e
      · exact n e
      · exact tg_ne (h.tf hg') (h.tr hg e) (by decide) rfl)
  have f3 : ∀ g' k, y.K g' → g' ≠ g → (y.rv g').ownBlock = some k → w'.heap[k]? = w.heap[k]? := fun g' k hg' n e => hk.block k (tg_lt (h.tr hg' e)) (fun hc => by
      rcases hc with e' | e'
      · exact tg_ne (h.tr hg' e) (h.tf hg) (by decide) e'
      · exact n (h.fl.sep g' g hg' hg k e e'))
  refine ⟨⟨h.fc.kept (far b _ h.tb (by decide) (by decide)), h.pw.kept (fun k e => far k _ (h.tp e) (by decide) (by decide)), h.sw.kept (fun k e => far k _ (h.ts e) (by decide) (by decide)), h.ps, own_kept h.cw (fun k e => far k _ (h.tc e) (by decide) (by decide)),
    ⟨?_, ?_, ?_, h.fl.num1, h.fl.nle, ?_⟩, h.pk, h.sk, h.ck, h.b1, h.b2, h.b3, h.b4, h.b5⟩, hk.mono ?_, ?_⟩
  · intro g' hg'
    by_cases e : g' = g
    · subst e; simpa [setF] using hf
    · have := (f2 g' hg' e).trans (h.fl.fl g' hg')
      simpa [setF, e] using this
  · intro g' hg'
    by_cases e : g' = g
    · subst e; simpa [setF] using hr
    · have := own_kept (h.fl.fr g' hg') (fun k hk' => f3 g' k hg' e hk')
      simpa [setF, e] using this
  · intro g1 g2 h1 h2 k e1 e2
    simp only [setF] at e1 e2
    split at e1 <;> split at e2
    · rw [‹g1 = g›, ‹g2 = g›]
    · exfalso
      rcases hs k e1 with e | e
      · exact absurd (h.fl.sep g2 g h2 hg k e2 e) ‹_›
      · have := tg_lt (h.tr h2 e2); omega
    · exfalso
      rcases hs k e2 with e | e
      · exact absurd (h.fl.sep g1 g h1 hg k e1 e) ‹_›
      · have := tg_lt (h.tr h1 e1); omega
    · exact h.fl.sep g1 g2 h1 h2 k e1 e2
  · intro g' hg'
    by_cases e : g' = g
    · simp only [setF, if_pos e]; exact h0
    · simp only [setF, if_neg e]; exact h.fl.st0 g' hg'
  · intro k _ hc
    rcases hc with e | e
    · exact .inr (.inr (.inr (.inr (.inl (e ▸ hg)))))
    · exact .inr (.inr (.inr (.inr (.inr ⟨g, hg, e⟩))))
  · intro k hf
    rcases hf with e | e | e | e | e | ⟨g', hg', e⟩
    · exact .inl (.inl e)
    · exact .inl (.inr (.inl e))
    · exact .inl (.inr (.inr (.inl e)))
    · exact .inl (.inr (.inr (.inr (.inl e))))
    · exact .inl (.inr (.inr (.inr (.inr (.inl e)))))
    · simp only [setF] at e
      split at e
      · rcases hs k e with e | e
        · exact .inl (.inr (.inr (.inr (.inr (.inr ⟨g, hg, e⟩)))))
        · exact .inr e
      · exact .inl (.inr (.inr (.inr (.inr (.inr ⟨g', hg', e⟩)))))
/-- A file's cells. -/
theorem FW.cells {w : World} {b : Nat} {y : X} (h : FW w b y) {g : Nat} (hg : y.K g) : w.cell? ⟨g, 0, none⟩ = some (.int .i64 (y.num g)) ∧ w.cell? ⟨g, 1, none⟩ = some (y.rv g) ∧ w.cell? ⟨g, 2, none⟩ = some (.int .i64 (y.st g)) ∧ ∀ i, w.frozen? ⟨g, i, none⟩ = false := by
  have := h.fl.fl g hg
  simp [World.cell?, World.frozen?, this]
theorem FW.setSt {w : World} {b : Nat} {y : X} (h : FW w b y) {g : Nat} (hg : y.K g) (v : Int) (hv : 0 ≤ v ∧ v ≤ (y.bs g).length) : Mv b w y (w.setCell ⟨g, 2, none⟩ (.int .i64 v)) (setF y g (y.rv g) (y.bs g) v) := by
  refine h.setFile hg ((kp_set w g 2 _).mono (fun k _ e => .inl e)) ?_ ?_ (fun k e => .inl e) ⟨hv.1, hv.2, (h.fl.st0 g hg).2.2⟩
  · simp [World.setCell, Array.getElem?_modify, h.fl.fl g hg]
  · exact own_kept (h.fl.fr g hg) (fun k e => Below.heap_setCell _ _ _ _ (tg_ne (h.tr hg e) (h.tf hg) (by decide)))

set_option maxHeartbeats 1600000 in
set_option maxRecDepth 100000 in
theorem sync_ok (b : Nat) (x y : X) (s : ByteArray) (w : World) (h : FW w b x) (he : ent x = (0, y)) (hs : s.size ≤ maxLen) (g : Nat) (hg : y.pm s = some g) :
    Calls Try.prog 26 #[.pointer (some ⟨b, 0, none⟩), .string s] w fun e w' => e = .returned (.int .i64 0) ∧ Mv b w x w' (setF y g (y.rv g) (y.bs g) (y.bs g).length) := by
  have H : Hid (FW w b x) := h
  have HE : Hid (ent x = (0, y)) := he
  have HS : Hid (s.size ≤ maxLen) := hs
  have HG : Hid (y.pm s = some g) := hg
  clear h he hs hg
  go_enter Try.func26, Try.ntmps26
  go_wp2_with (go_at_call 51; refine (enter_ok b x y w H.out HE.out).mono ?_; rintro e w1 ⟨rfl, hMv⟩; have c2 := hMv.fw.fc.c2; have lk := hMv.fw.pw.look s HS.out; rw [HG.out] at lk; simp only [pv] at lk; have hK := hMv.fw.pk s g HG.out; obtain ⟨d0, d1, d2, dz⟩ := hMv.fw.cells hK; have dz2 := dz 2; obtain ⟨ra, rc, hrv, _, _⟩ := own_rd (hMv.fw.fl.fr g hK); rw [hrv] at d1; have HK : Hid _ := hK; have HRV : Hid _ := hrv; have HMv : Hid _ := hMv; clear hMv hK dz hrv)
  go_ret
  exact ⟨rfl, HMv.out.trans (HMv.out.fw.setSt HK.out _ ⟨by omega, by omega⟩)⟩
set_option maxHeartbeats 1600000 in
set_option maxRecDepth 100000 in
theorem read_none (b : Nat) (x : X) (s : ByteArray) (w : World) (h : FW w b x) (hs : s.size ≤ maxLen) (hg : x.pm s = none) :
    Calls Try.prog 15 #[.pointer (some ⟨b, 0, none⟩), .string s] w fun e w' => e = .returned (.tuple #[.slice none 0 0, .int .i64 60]) ∧ w' = w := by
  have c2 := h.fc.c2
  have lk := h.pw.look s hs
  rw [hg] at lk
  simp only [pv] at lk
  clear h hs hg
  go_enter Try.func15, Try.ntmps15
  go_wp2
  go_ret2
  exact ⟨rfl, rfl⟩
set_option maxHeartbeats 1600000 in
set_option maxRecDepth 100000 in
theorem read_ok (b : Nat) (x : X) (s : ByteArray) (w : World) (h : FW w b x) (hs : s.size ≤ maxLen) (g : Nat) (hg : x.pm s = some g) :
    Calls Try.prog 15 #[.pointer (some ⟨b, 0, none⟩), .string s] w fun e w' => e = .returned (.tuple #[.slice (some ⟨w.heap.size, 0, none⟩) (x.bs g).length (x.bs g).length, .int .i64 0]) ∧
      w'.ownsRow w.heap.size 5 1 (.slice (some ⟨w.heap.size, 0, none⟩) (x.bs g).length (x.bs g).length) (x.bs g).length ((x.bs g).map (Value.int .u8)) ∧ Below w.heap.size w w' := by
  have c2 := h.fc.c2
  have lk := h.pw.look s hs
  rw [hg] at lk
  simp only [pv] at lk
  have hK := h.pk s g hg
  obtain ⟨_, d1, _, _⟩ := h.cells hK
  obtain ⟨ra, rc, hrv, _, hrd⟩ := own_rd (h.fl.fr g hK)
  rw [hrv] at d1
  have HR : Hid (Rd .u8 w ra (x.bs g)) := hrd
  have HL : Hid ((x.bs g).length ≤ 140737488355328) := by
    have := (h.fl.st0 g hK).2.2
    show _ ≤ _
    omega
  clear h hs hg hK hrd hrv
  go_enter Try.func15, Try.ntmps15
  go_wp2_with (go_at_call 46; refine (copied_any ra (x.bs g).length rc (x.bs g) w rfl HR.out HL.out).mono ?_; rintro e w1 ⟨rfl, ho, hb⟩; have HO : Hid _ := ho; have HB : Hid _ := hb; clear ho hb)
  go_ret2
  exact ⟨rfl, HO.out, HB.out⟩
end Go.Proofs.Ytkipcblbadkjnaa
