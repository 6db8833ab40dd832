import Derived.Test.YtaokemapkgggoaaDoorKb30
namespace Go.Proofs.YtaokemapkgggoaaDoor
open Go.RowKit

set_option maxRecDepth 100000 in
set_option maxHeartbeats 20000000 in
theorem keep_awake (w : World) (G : Glob w) :
    Calls Tryd.prog 10 #[] w fun r w' => r = .returned (.bool true) ∧ Below w.heap.size w w' := by
  obtain ⟨D1, D2, D3, D4, D6, D7, fl, p1, p2, hfl, hfz, hf4, hf104, p3, p4, p6, p7⟩ := awake_chain
  have hs0 := fun (W : World) (h : Glob W) => prog_Sum ⟨#[]⟩ W h (by decide)
  have hs1 := fun (W : World) (h : Glob W) => prog_Sum ⟨#[97, 98, 99]⟩ W h (by decide)
  rw [show (⟨#[]⟩ : ByteArray).data.toList = [] from rfl, awake_sum0] at hs0
  rw [show (⟨#[97, 98, 99]⟩ : ByteArray).data.toList = [97, 98, 99] from rfl, awake_sum1] at hs1
  have hc0 := fun (W : World) (h : Glob W) => prog_Code_yes ⟨#[49, 50, 51, 52, 53, 54, 55, 56, 57, 48, 49, 50, 51, 52, 53, 54, 55, 56, 57, 48]⟩ 0 W h (by decide) (by decide) (by decide) (by decide)
  have hc1 := fun (W : World) (h : Glob W) => prog_Code_yes ⟨#[49, 50, 51, 52, 53, 54, 55, 56, 57, 48, 49, 50, 51, 52, 53, 54, 55, 56, 57, 48]⟩ 1 W h (by decide) (by decide) (by decide) (by decide)
  rw [show blk 20 (⟨#[49, 50, 51, 52, 53, 54, 55, 56, 57, 48, 49, 50, 51, 52, 53, 54, 55, 56, 57, 48]⟩ : ByteArray).data.toList = [49, 50, 51, 52, 53, 54, 55, 56, 57, 48, 49, 50, 51, 52, 53, 54, 55, 56, 57, 48] from rfl, awake_code0, code_list _ [56, 55, 53, 55, 52, 48] ⟨#[56, 55, 53, 55, 52, 48]⟩ rfl rfl] at hc0
  rw [show blk 20 (⟨#[49, 50, 51, 52, 53, 54, 55, 56, 57, 48, 49, 50, 51, 52, 53, 54, 55, 56, 57, 48]⟩ : ByteArray).data.toList = [49, 50, 51, 52, 53, 54, 55, 56, 57, 48, 49, 50, 51, 52, 53, 54, 55, 56, 57, 48] from rfl, awake_code1, code_list _ [50, 52, 55, 51, 55, 52] ⟨#[50, 52, 55, 51, 55, 52]⟩ rfl rfl] at hc1
  obtain ⟨fA, HFA⟩ : ∃ fA, Hid (fA = str (told 1 [48])) := ⟨_, rfl⟩
  obtain ⟨fB, HFB⟩ : ∃ fB, Hid (fB = str (told 1 [49, 50, 51, 52])) := ⟨_, rfl⟩
  obtain ⟨fC, HFC⟩ : ∃ fC, Hid (fC = str (told 7 [])) := ⟨_, rfl⟩
  obtain ⟨oS, HOS⟩ : ∃ oS, Hid (oS = str (told 0 [0, 4, 0])) := ⟨_, rfl⟩
  obtain ⟨qS, HQS⟩ : ∃ qS, Hid (qS = str (told 3 [3])) := ⟨_, rfl⟩
  obtain ⟨E0, HE0⟩ : ∃ E0, Hid (E0 = aw0) := ⟨_, rfl⟩
  obtain ⟨E3, HE3⟩ : ∃ E3 : Dv, Hid (E3 = ({ D3 with cut := 50 } : Dv)) := ⟨_, rfl⟩
  obtain ⟨E4, HE4⟩ : ∃ E4, Hid (E4 = D4.booted) := ⟨_, rfl⟩
  obtain ⟨E6, HE6⟩ : ∃ E6 : Dv, Hid (E6 = ({ D6 with cut := 101 } : Dv)) := ⟨_, rfl⟩
  have hfr1 : Hid (∀ W : World, Calls Tryd.prog 16 #[.int .i64 1, .string ⟨#[48]⟩] W fun r w' => r = .returned (.string fA) ∧ Below W.heap.size W w') := fun W => by rw [HFA.out]; exact keep_frame 1 ⟨#[48]⟩ W (by decide) (by decide) (by decide)
  have hfr4 : Hid (∀ W : World, Calls Tryd.prog 16 #[.int .i64 1, .string ⟨#[49, 50, 51, 52]⟩] W fun r w' => r = .returned (.string fB) ∧ Below W.heap.size W w') := fun W => by rw [HFB.out]; exact keep_frame 1 ⟨#[49, 50, 51, 52]⟩ W (by decide) (by decide) (by decide)
  have hfr7 : Hid (∀ W : World, Calls Tryd.prog 16 #[.int .i64 7, .string ⟨#[]⟩] W fun r w' => r = .returned (.string fC) ∧ Below W.heap.size W w') := fun W => by rw [HFC.out]; exact keep_frame 7 ⟨#[]⟩ W (by decide) (by decide) (by decide)
  have hF1 : Hid (∀ W g, KdAt w W g E0 → Calls Tryd.prog 19 #[.pointer (some ⟨g, 0, none⟩), .string ⟨#[165, 0, 7, 8]⟩] W fun r w' => r = .returned (.string ⟨#[165, 3, 0, 0, 5, 0, 9]⟩) ∧ KdAt w w' g D1 ∧ W.grownBy w' (some g)) := fun W g K => keep_fed G (by rw [HE0.out] at K; exact K) p1 (by decide) _ rfl
  have hF2 : Hid (∀ W g, KdAt w W g D1 → Calls Tryd.prog 19 #[.pointer (some ⟨g, 0, none⟩), .string ⟨#[165, 4, 1, 49, 50, 51, 52, 208]⟩] W fun r w' => r = .returned (.string ⟨#[165, 0, 0, 1]⟩) ∧ KdAt w w' g D2 ∧ W.grownBy w' (some g)) := fun W g K => keep_fed G K p2 (by decide) _ rfl
  have hFl : Hid (∀ W g, KdAt w W g D2 → Calls Tryd.prog 21 #[.pointer (some ⟨g, 0, none⟩)] W fun r w' => r = .returned (.string fl) ∧ KdAt w w' g D2 ∧ Below W.heap.size W w') := fun W g K => by rw [hfl]; exact keep_Flash K
  have hF3 : Hid (∀ W g, KdAt w W g D2 → Calls Tryd.prog 19 #[.pointer (some ⟨g, 0, none⟩), .string fA] W fun r w' => r = .returned (.string ⟨#[165, 1, 3, 4, 9]⟩) ∧ KdAt w w' g D3 ∧ W.grownBy w' (some g)) := fun W g K => keep_fed G K p3 (by rw [told_len]; decide) _ HFA.out
  have hC1 : Hid (∀ W g, KdAt w W g D3 → Calls Tryd.prog 24 #[.pointer (some ⟨g, 0, none⟩), .int .i64 50] W fun r w' => r = .returned (.int .i64 0) ∧ KdAt w w' g E3 ∧ W.grownBy w' (some g)) := fun W g K => by rw [HE3.out]; exact keep_Cut K 50 (by decide)
  have hF4 : Hid (∀ W g, KdAt w W g E3 → Calls Tryd.prog 19 #[.pointer (some ⟨g, 0, none⟩), .string fB] W fun r w' => r = .returned (.string ⟨#[]⟩) ∧ KdAt w w' g D4 ∧ W.grownBy w' (some g)) := fun W g K => keep_fed G (by rw [HE3.out] at K; exact K) p4 (by rw [told_len]; decide) _ HFB.out
  have hB4 : Hid (∀ W g, KdAt w W g D4 → Calls Tryd.prog 25 #[.pointer (some ⟨g, 0, none⟩)] W fun r w' => r = .returned (.int .i64 0) ∧ KdAt w w' g E4 ∧ W.grownBy w' (some g)) := fun W g K => by rw [HE4.out]; exact keep_Boot K
  have hF6 : Hid (∀ W g, KdAt w W g E4 → Calls Tryd.prog 19 #[.pointer (some ⟨g, 0, none⟩), .string fC] W fun r w' => r = .returned (.string oS) ∧ KdAt w w' g D6 ∧ W.grownBy w' (some g)) := fun W g K => by rw [HOS.out]; exact keep_fed G (by rw [HE4.out] at K; exact K) p6 (by rw [told_len]; decide) _ HFC.out
  have hC6 : Hid (∀ W g, KdAt w W g D6 → Calls Tryd.prog 24 #[.pointer (some ⟨g, 0, none⟩), .int .i64 101] W fun r w' => r = .returned (.int .i64 0) ∧ KdAt w w' g E6 ∧ W.grownBy w' (some g)) := fun W g K => by rw [HE6.out]; exact keep_Cut K 101 (by decide)
  have hF7 : Hid (∀ W g, KdAt w W g E6 → Calls Tryd.prog 19 #[.pointer (some ⟨g, 0, none⟩), .string fA] W fun r w' => r = .returned (.string qS) ∧ KdAt w w' g D7 ∧ W.grownBy w' (some g)) := fun W g K => by rw [HQS.out]; exact keep_fed G (by rw [HE6.out] at K; exact K) p7 (by rw [told_len]; decide) _ HFA.out
  have hA1 : Hid (∀ W, Calls Tryd.prog 30 #[.string oS, .int .i64 0, .string ⟨#[0, 4, 0]⟩] W fun r w' => r = .returned (.bool true) ∧ Below W.heap.size W w') := fun W => by
    have := keep_answered (told 0 [0, 4, 0]) 0 [0, 4, 0] W (by decide) (by decide) (by decide)
    rw [beq_self_eq_true, ← HOS.out] at this
    exact this
  have hA2 : Hid (∀ W, Calls Tryd.prog 30 #[.string qS, .int .i64 3, .string ⟨#[3]⟩] W fun r w' => r = .returned (.bool true) ∧ Below W.heap.size W w') := fun W => by
    have := keep_answered (told 3 [3]) 3 [3] W (by decide) (by decide) (by decide)
    rw [beq_self_eq_true, ← HQS.out] at this
    exact this
  have hnew : Hid (∀ W, Below w.heap.size w W → Calls Tryd.prog 29 #[.string ⟨#[49, 50, 51, 52]⟩] W fun r w' => ∃ g, r = .returned (.tuple #[.pointer (some ⟨g, 0, none⟩), .int .i64 0]) ∧ KdAt w w' g E0) := fun W h => by
    rw [HE0.out]
    exact (keep_New w W ⟨#[49, 50, 51, 52]⟩ h (by decide) (by decide)).mono (fun r w' ⟨g, hr, hg, K, hb⟩ => ⟨g, hr, K⟩)
  have hby4 := byte_at (s := fl) (i := 4) (by omega)
  have hby104 := byte_at (s := fl) (i := 104) (by omega)
  rw [hf4] at hby4
  rw [hf104] at hby104
  clear p1 p2 p3 p4 p6 p7 hfl hf4 hf104 HFA HFB HFC HOS HQS HE0 HE3 HE4 HE6
  obtain ⟨o0, HO0⟩ : ∃ o0 : List Int, Hid (o0 = [227, 176, 196, 66, 152, 252, 28, 20, 154, 251, 244, 200, 153, 111, 185, 36, 39, 174, 65, 228, 100, 155, 147, 76, 164, 149, 153, 27, 120, 82, 184, 85]) := ⟨_, rfl⟩
  obtain ⟨o1, HO1⟩ : ∃ o1 : List Int, Hid (o1 = [186, 120, 22, 191, 143, 1, 207, 234, 65, 65, 64, 222, 93, 174, 34, 35, 176, 3, 97, 163, 150, 23, 122, 156, 180, 16, 255, 97, 242, 0, 21, 173]) := ⟨_, rfl⟩
  have HL0 : Hid ((u8s o0).length = 32) := by show _ = _; rw [HO0.out]; rfl
  have HL1 : Hid ((u8s o1).length = 32) := by show _ = _; rw [HO1.out]; rfl
  have HC0 : Hid (∀ W b t, Row W b (u8s o0) t → W.cell? ⟨b, 0, none⟩ = some (.int .u8 227) ∧ W.cell? ⟨b, 1, none⟩ = some (.int .u8 176) ∧ W.cell? ⟨b, 2, none⟩ = some (.int .u8 196) ∧ W.cell? ⟨b, 3, none⟩ = some (.int .u8 66)) := by
    intro W b t h
    rw [HO0.out] at h
    exact ⟨h.cell.trans rfl, h.cell.trans rfl, h.cell.trans rfl, h.cell.trans rfl⟩
  have HC1 : Hid (∀ W b t, Row W b (u8s o1) t → W.cell? ⟨b, 0, none⟩ = some (.int .u8 186) ∧ W.cell? ⟨b, 1, none⟩ = some (.int .u8 120) ∧ W.cell? ⟨b, 2, none⟩ = some (.int .u8 22) ∧ W.cell? ⟨b, 3, none⟩ = some (.int .u8 191)) := by
    intro W b t h
    rw [HO1.out] at h
    exact ⟨h.cell.trans rfl, h.cell.trans rfl, h.cell.trans rfl, h.cell.trans rfl⟩
  rw [← HO0.out] at hs0
  rw [← HO1.out] at hs1
  have hx4 : (4 : Int) < fl.size := by omega
  have hx104 : (104 : Int) < fl.size := by omega
  have hfzi : (fl.size : Int) = 200 := by omega
  have Hs0 : Hid _ := hs0
  have Hs1 : Hid _ := hs1
  have Hc0 : Hid _ := hc0
  have Hc1 : Hid _ := hc1
  clear hs0 hs1 hc0 hc1
  go_enter Tryd.func10, Tryd.ntmps10
  go_wp2_with (first | (go_at_call 13; first | (have tok := HC0; refine (Hs0.out _ G).mono ?_; rintro _ w1 ⟨rfl, hb1⟩; clear Hs0 tok; have G1 := G.below hb1 (Nat.le_refl _)) | (refine (Hs1.out _ G2).mono ?_; rintro _ w3 ⟨rfl, hb3⟩; clear Hs1; have d3 := d2.trans (hb3.mono d2.size); have ra3 := ra2.below hb3 ra2.lt; clear hb3 ra2)) | (refine wpList_allocR rfl 24 rfl 32 (.int .u8 0) arr32b ?_; go_simp) | (refine wpList_storeMA rfl 24 _ _ rfl w1.heap.size rfl rfl (u8s o0) rfl 24 _ 32 (.int .u8 0) arr32b HL0.out (zrow_length _ _) (u8s_one _) ?_; intro w2 ra2 hb2; have d2 := hb1.trans (hb2.mono hb1.size); have G2 := G.below d2 (Nat.le_refl _); clear hb2; go_simp) | (refine wpList_storeMA rfl 24 _ _ rfl w3.heap.size rfl rfl (u8s o1) rfl 24 _ 32 (.int .u8 0) arr32b HL1.out (zrow_length _ _) (u8s_one _) ?_; intro w4 rb4 hb4x; have d4 := d3.trans (hb4x.mono d3.size); have ra4 := ra3.below hb4x ra3.lt; have G4 := G.below d4 (Nat.le_refl _); clear hb4x ra3; go_simp) | (go_at_call 14; first | (refine (Hc0.out _ G4).mono ?_; rintro _ w5 ⟨rfl, hb5⟩; clear Hc0; have d5 := d4.trans (hb5.mono d4.size); have ra5 := ra4.below hb5 ra4.lt; have rb5 := rb4.below hb5 rb4.lt; have G5 := G.below d5 (Nat.le_refl _); clear hb5 ra4 rb4 G4) | (refine (Hc1.out _ G5).mono ?_; rintro _ w6 ⟨rfl, hb6⟩; clear Hc1; have d6 := d5.trans (hb6.mono d5.size); have ra6 := ra5.below hb6 ra5.lt; have rb6 := rb5.below hb6 rb5.lt; clear hb6 ra5 rb5; obtain ⟨a0, a1, a2, a3⟩ := HC0.out _ _ _ ra6; obtain ⟨b0, b1, b2, b3⟩ := HC1.out _ _ _ rb6; clear HC0 HC1 ra6 rb6)))
  go_wp2_with (first | (go_at_call 29; refine (hnew.out _ d6).mono ?_; rintro _ w7 ⟨g, rfl, K0⟩; clear hnew) | (go_at_call 16; first | (have tk := K2b; clear tk; refine (hfr1.out _).mono ?_; rintro _ wf ⟨rfl, hbf⟩; replace K2b := K2b.next hbf; clear hbf) | (have tk := K3c; clear tk; refine (hfr4.out _).mono ?_; rintro _ wf ⟨rfl, hbf⟩; replace K3c := K3c.next hbf; clear hbf) | (have tk := K4b; clear tk; refine (hfr7.out _).mono ?_; rintro _ wf ⟨rfl, hbf⟩; replace K4b := K4b.next hbf; clear hbf) | (have tk := K6c; clear tk; refine (hfr1.out _).mono ?_; rintro _ wf ⟨rfl, hbf⟩; replace K6c := K6c.next hbf; clear hbf)) | (go_at_call 19; first | (refine (hF1.out _ _ K0).mono ?_; rintro _ wa ⟨rfl, K1, -⟩; clear K0 hF1) | (refine (hF2.out _ _ K1).mono ?_; rintro _ wb ⟨rfl, K2, -⟩; clear K1 hF2) | (refine (hF3.out _ _ K2b).mono ?_; rintro _ wc ⟨rfl, K3, -⟩; clear K2b hF3) | (refine (hF4.out _ _ K3c).mono ?_; rintro _ we ⟨rfl, K4, -⟩; clear K3c hF4) | (refine (hF6.out _ _ K4b).mono ?_; rintro _ wg ⟨rfl, K6, -⟩; clear K4b hF6) | (refine (hF7.out _ _ K6c).mono ?_; rintro _ wi ⟨rfl, K7, -⟩; clear K6c hF7)) | (go_at_call 21; refine (hFl.out _ _ K2).mono ?_; rintro _ wx ⟨rfl, K2b, -⟩; clear K2 hFl) | (go_at_call 24; first | (refine (hC1.out _ _ K3).mono ?_; rintro _ wd ⟨rfl, K3c, -⟩; clear K3 hC1) | (refine (hC6.out _ _ K6).mono ?_; rintro _ wh ⟨rfl, K6c, -⟩; clear K6 hC6)) | (go_at_call 25; refine (hB4.out _ _ K4).mono ?_; rintro _ wy ⟨rfl, K4b, -⟩; clear K4 hB4) | (go_at_call 30; first | (refine (hA1.out _).mono ?_; rintro _ wm ⟨rfl, hbm⟩; replace K7 := K7.next hbm; clear hbm hA1) | (refine (hA2.out _).mono ?_; rintro _ wn ⟨rfl, hbn⟩; replace K7 := K7.next hbn; clear hbn hA2)))
  go_ret
  exact ⟨rfl, K7.base⟩
end Go.Proofs.YtaokemapkgggoaaDoor
