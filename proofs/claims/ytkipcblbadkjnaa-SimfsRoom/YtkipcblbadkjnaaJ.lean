/- The contract of do: changes are done, and kept for a crash. Conditions: those of each theorem. -/
import Derived.Test.YtkipcblbadkjnaaI
import Derived.Deep.RegionWith
namespace Go.Proofs.Ytkipcblbadkjnaa
open Go.RowKit

set_option maxHeartbeats 1600000 in
set_option maxRecDepth 100000 in
theorem do_any (b : Nat) (x : X) (a : Option Addr) (len cap : Nat) (ds : List Ch) (w : World) (h : FW w b x) (hl : ds.length = len) (h0 : 0 < len) (hC : RdC w a ds) (ha : Out (foot b x) a) (hok : ∀ c ∈ ds, okCh c ∧ ∀ g, c.2.2 = some g → x.K g) (hcap : x.cap + len ≤ 1000000) :
    Calls Try.prog 53 #[.pointer (some ⟨b, 0, none⟩), .slice a len cap] w fun e w' => e = .returned (.tuple #[]) ∧
      ∃ pb cv, Mv b w x w' { x with pb := some pb, pn := x.pn + len, pm := chg x.pm ds, cv := cv, cs := x.cs ++ ds, cap := x.cap + len } := by
  obtain ⟨i0, hi, hz0, hz1, hz2⟩ := info_parts Try.info95
  obtain ⟨ca, cc, hcv, _, _, _, _⟩ := own_rdC h.cw
  obtain ⟨ag, ao, rfl, _, _⟩ := hC.at (k := 0) (by omega)
  have hc2 := h.fc.c2
  have H : Hid (FW w b x) := h
  have HC : Hid (RdC w (some ⟨ag, ao, none⟩) ds) := hC
  have HL : Hid (ds.length = len) := hl
  have HA : Hid (Out (foot b x) (some ⟨ag, ao, none⟩)) := ha
  have HO : Hid (∀ c ∈ ds, okCh c ∧ ∀ g, c.2.2 = some g → x.K g) := hok
  have HP : Hid (x.cap + len ≤ 1000000) := hcap
  have HV : Hid (x.cv = .slice ca x.cs.length cc) := hcv
  have b1 := h.b1
  have b2 := h.b2
  have HN : Hid (x.pn + len ≤ 4000000) := by show _ ≤ _; omega
  have HM : Hid (x.cs.length + len ≤ 1000000) := by show _ ≤ _; omega
  have HM1x : Hid (x.cs.length + len ≤ maxLen) := by show _ ≤ maxLen; unfold maxLen; omega
  have HM2x : Hid ((x.cs.length + len) * 40 ≤ 140737488355328) := by show _ ≤ _; omega
  clear h hC hl ha hok hcap hcv b1 b2
  go_enter Try.func53, Try.ntmps53
  go_wp2_with (first
    | (go_at_call 55; refine (done_any x.pb x.pn x.pm (some ⟨ag, ao, none⟩) len cap ds w H.out.pw HL.out HC.out (fun c hc => (HO.out c hc).1) HN.out).mono ?_; rintro e w1 ⟨pb, rfl, hpb, hM1, hK1⟩
       have hf1 := H.out.fc.kept (hK1.block b (tg_lt H.out.tb) (fun e => tg_ne (H.out.tp e) H.out.tb (by decide) rfl))
       have z2 := hf1.fz 2; have d2 := hf1.c2; have hf2 := hf1.set2 (.map (some pb)); have d4 := hf2.c4; have z4 := hf2.fz 4; rw [HV.out] at d4
       have HF : Hid (Fc _ b _ _ _ _ _ _ _) := hf2
       have hks : Kp (foot b x) w (w1.setCell ⟨b, 2, none⟩ (.map (some pb))) := (Kp.mono hK1 (fun k _ e => .inr (.inl e))).setCell (p := ⟨b, 2, none⟩) (.inl (.inl rfl)) _; have HNW : Hid (∀ j u, (ccs ds)[j]? = some u → (w1.setCell ⟨b, 2, none⟩ (.map (some pb))).cell? (Addr.add ⟨ag, ao, none⟩ j) = some u) := rdC_news (HC.out.kp hks HA.out) _ rfl
       have hks2 : Kp (fun k => x.pb = some k ∨ k = b) w (w1.setCell ⟨b, 2, none⟩ (.map (some pb))) := (Kp.mono hK1 (fun k _ e => .inl e)).setCell (p := ⟨b, 2, none⟩) (.inl (.inr rfl)) _
       have how := own_kept H.out.cw (fun k e => hks2.block k (tg_lt (H.out.tc e)) (fun hc => hc.elim (fun e' => tg_ne (H.out.tp e') (H.out.tc e) (by decide) rfl) (fun e' => tg_ne (H.out.tc e) H.out.tb (by decide) e')))
       rw [HV.out] at how; have HOW : Hid (World.ownsRow _ _ _ _ _ _ _) := how; clear how hks hks2
       have HM1 : Hid _ := hM1; have HK1 : Hid _ := hK1; have HPB : Hid _ := hpb; clear hf1 hf2 hM1 hK1 hpb)
    | (refine wpList_append_lies _ rfl (.tmp 17) (.tmp 18) 65 rfl 0 95 i0 _ 3 40 Try.underlying65 hi hz0 hz1 hz2 rfl (by decide) (.slice ca x.cs.length cc) x.cs.length (ccs x.cs) rfl HOW.out ⟨ag, ao, none⟩ len cap (ccs ds) rfl (by rw [ccs_len, HL.out]) HNW.out (ccs_one _) h0 HM1x.out HM2x.out (Nat.zero_le _) w1.heap.size (by simp) ?_; intro g c w2 hown hgrow hat hlt
       have hne : ∀ k, x.cv.ownBlock = some k → b ≠ k := fun k e => tg_ne H.out.tb (H.out.tc e) (by decide)
       rw [← HV.out] at hgrow hat
       have hf3 := HF.out.kept (hgrow.block b (by simpa using (tg_lt (w := w1) (k := b) (t := 68) (by unfold tg; rw [HK1.out.block b (tg_lt H.out.tb) (fun e => tg_ne (H.out.tp e) H.out.tb (by decide) rfl)]; exact H.out.tb))) (fun e => hne b e.symm rfl))
       have y4 := hf3.c4; have yz4 := hf3.fz 4; rw [HV.out] at y4
       have HG : Hid _ := hgrow; have HAT : Hid _ := hat; have HOWN : Hid _ := hown; clear hgrow hat hown hf3 hlt hne))
  go_end0
  refine ⟨rfl, pb, _, do_fin H.out HL.out HO.out HP.out HPB.out HM1.out HK1.out HOWN.out HG.out (fun k e => ?_)⟩
  cases e
  exact HAT.out
end Go.Proofs.Ytkipcblbadkjnaa
