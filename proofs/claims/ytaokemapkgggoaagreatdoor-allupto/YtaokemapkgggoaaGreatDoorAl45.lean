import Derived.Test.YtaokemapkgggoaaGreatDoorAl44
namespace Go.Proofs.YtaokemapkgggoaaGreatDoor
open Go.RowKit

set_option maxRecDepth 100000 in
set_option maxHeartbeats 2000000 in
theorem law_sums2no (wn n : Int) (s t : ByteArray) (rest : List Value) (g gs : Nat) (w : World) (hp : w.cell? ⟨g, 0, none⟩ = some (.pointer (some ⟨gs, 0, none⟩))) (hS : Summ w gs) (hG : Glob w) (hk : ¬ (1 ≤ s.size ∧ s.size ≤ 20)) (hs : t.size ≤ 400) :
    Calls Tryz.prog 8 #[.pointer (some ⟨g, 0, none⟩), .agg (opCells 2 wn n s t rest).toArray] w fun r w' => r = .returned (.bool true) ∧ Below w.heap.size w w' := by
  obtain ⟨cs, HC⟩ : ∃ cs, Hid (cs = opCells 2 wn n s t rest) := ⟨_, rfl⟩
  rw [← HC.out]
  have hs' : ¬ (400 : Int) < t.size := by omega
  have hq := equalZ
  have hkk : (s.size : Int) < 1 ∨ (¬ (s.size : Int) < 1 ∧ (20 : Int) < s.size) := by omega
  rcases hkk with k1 | ⟨k1, k2⟩
  all_goals
    go_enter Tryz.func8, Tryz.ntmps8
    go_wp2_with (first | (refine wpList_boxM rfl 36 _ rfl cs rfl ?_; intro w1 hr hb; have L1 : LawAt w g gs 2 wn n s t rest w1 := ⟨by rw [← HC.out]; exact hr, (hb.cell (p := ⟨g, 0, none⟩) (World.block_lt_of_cell? _ _ hp)).trans hp, hS.below hb (Nat.le_refl _), hG.below hb (Nat.le_refl _), hb, hr.lt⟩; clear hr hb; obtain ⟨a0, a2, a3, a4⟩ := L1.cells; go_simp) | (go_at_call 15; refine (prog_Seal_no s t _ hk).mono ?_; rintro _ w2 ⟨rfl, hb2⟩; have L2 := L1.next hb2; clear hb2 a0 a2 a3 a4; obtain ⟨a0, a2, a3, a4⟩ := L2.cells) | (refine wpList_allocR rfl 47 rfl 32 (.int .u8 0) arr32b ?_; go_simp) | (refine wpList_storeMA rfl 47 _ _ rfl _ rfl rfl (zrow 32 (.int .u8 0)) rfl 47 _ 32 (.int .u8 0) arr32b (zrow_length _ _) (zrow_length _ _) (by rw [zrow_u8]; exact u8s_one _) ?_; intro w3 hr5 hb3; have L3 := L2.next hb3; clear hb3 a0 a2 a3 a4; obtain ⟨a0, a2, a3, a4⟩ := L3.cells; go_simp) | (refine wpList_loadR rfl 47 _ rfl _ rfl 47 (zrow 32 (.int .u8 0)) 32 (.int .u8 0) hr5 arr32b (zrow_length _ _) ?_; go_simp) | (refine wpList_buildZ rfl 47 rfl 32 (.int .u8 0) arr32b elem32b ?_; go_simp) | (go_at_call 16; refine (law_num 3 _).mono ?_; rintro _ _ ⟨rfl, rfl⟩))
    go_ret
    exact ⟨rfl, L3.below⟩

set_option maxRecDepth 100000 in
set_option maxHeartbeats 2000000 in
theorem law_sums2 (hsum : SumSaid sumSpecRef) (wn n : Int) (s t : ByteArray) (rest : List Value) (g gs : Nat) (w : World) (hp : w.cell? ⟨g, 0, none⟩ = some (.pointer (some ⟨gs, 0, none⟩))) (hS : Summ w gs) (hG : Glob w) :
    Calls Tryz.prog 8 #[.pointer (some ⟨g, 0, none⟩), .agg (opCells 2 wn n s t rest).toArray] w fun r w' => r = .returned (.bool true) ∧ Below w.heap.size w w' := by
  by_cases hs : t.size ≤ 400
  · by_cases hk : ¬ (1 ≤ s.size ∧ s.size ≤ 20)
    · exact law_sums2no wn n s t rest g gs w hp hS hG hk hs
    · have hk' : 1 ≤ s.size ∧ s.size ≤ 20 := Decidable.not_not.1 hk
      obtain ⟨hk1, hk2⟩ := hk'
      clear hk
      obtain ⟨cs, HC⟩ : ∃ cs, Hid (cs = opCells 2 wn n s t rest) := ⟨_, rfl⟩
      rw [← HC.out]
      obtain ⟨ov, HO⟩ : ∃ ov, Hid (ov = sealSpec (blk 20 s.data.toList) t.data.toList) := ⟨_, rfl⟩
      have hol : Hid ((u8s ov).length = 32) := by show _ = _; rw [u8s_length, HO.out]; exact sumSpec_length _ (blockOn_w8 W8_H0) _ _
      have HR : Hid (refSeal sumSpecRef s.data.toList t.data.toList = ov) := by show _ = _; rw [HO.out, refSeal_eq (by rw [Array.length_toList]; exact hk2)]
      have hs' : ¬ (400 : Int) < t.size := by omega
      have k1 : ¬ (s.size : Int) < 1 := by omega
      have k2 : ¬ (20 : Int) < s.size := by omega
      go_enter Tryz.func8, Tryz.ntmps8
      go_wp2_with (first | (refine wpList_boxM rfl 36 _ rfl cs rfl ?_; intro w1 hr hb; have L1 : LawAt w g gs 2 wn n s t rest w1 := ⟨by rw [← HC.out]; exact hr, (hb.cell (p := ⟨g, 0, none⟩) (World.block_lt_of_cell? _ _ hp)).trans hp, hS.below hb (Nat.le_refl _), hG.below hb (Nat.le_refl _), hb, hr.lt⟩; clear hr hb; obtain ⟨a0, a2, a3, a4⟩ := L1.cells; go_simp) | (go_at_call 15; refine (prog_Seal_yes s t _ L1.glob hk1 hk2 (by omega)).mono ?_; rintro _ w2 ⟨rfl, hb2⟩; rw [← HO.out]; have L2 := L1.next hb2; clear hb2 a0 a2 a3 a4; obtain ⟨a0, a2, a3, a4⟩ := L2.cells) | (refine wpList_allocR rfl 47 rfl 32 (.int .u8 0) arr32b ?_; go_simp) | (refine wpList_storeMA rfl 47 _ _ rfl _ rfl rfl (u8s ov) rfl 47 _ 32 (.int .u8 0) arr32b hol.out (zrow_length _ _) (u8s_one _) ?_; intro w3 hr5 hb3; have L3 := L2.next hb3; clear hb3 a0 a2 a3 a4; obtain ⟨a0, a2, a3, a4⟩ := L3.cells; go_simp))
      have hS0 : Held w g gs 2 wn n s t rest w2.heap.size ov w3 := ⟨hr5.range, L3.ptr, a3, a4, L3, hr5.lt⟩
      have hconv : ∀ w', w'.rangeAt w2.heap.size 0 (u8s ov) → (convert 49 9 (.slice (some ⟨w2.heap.size, 0, none⟩) 32 32)).run Tryz.prog w' = .ok (.string (strOfNums ov)) w' := fun w' h => run_convR w' _ ov 32 32 (by rw [← u8s_length]; exact hol.out) h
      clear hr5 a0 a2 a3 a4 L1 L2 L3
      go_region_held3 (Held w g gs 2 wn n s t rest w2.heap.size ov) (first | exact Held.next hS0 (Below.refl _ _).drew | exact Held.next (by assumption) hbx) (first | (go_at_call 17; refine (ref_seal hsum sumRef_length s t gs _ ?_ (by omega)).mono ?_; (go_split_ands; exact LawAt.summ (by assumption)); rintro _ wx ⟨rfl, hbx⟩; rw [HR.out]))
      go_wp2
      go_ret
      exact ⟨rfl, (Held.next (Held.next hS0 (Below.refl _ _).drew) hbx).2.2.2.2.1.below⟩
  · obtain ⟨cs, HC⟩ : ∃ cs, Hid (cs = opCells 2 wn n s t rest) := ⟨_, rfl⟩
    rw [← HC.out]
    have hs' : (400 : Int) < t.size := by omega
    go_enter Tryz.func8, Tryz.ntmps8
    go_wp2_with (first | (refine wpList_boxM rfl 36 _ rfl cs rfl ?_; intro w1 hr hb; have L1 : LawAt w g gs 2 wn n s t rest w1 := ⟨by rw [← HC.out]; exact hr, (hb.cell (p := ⟨g, 0, none⟩) (World.block_lt_of_cell? _ _ hp)).trans hp, hS.below hb (Nat.le_refl _), hG.below hb (Nat.le_refl _), hb, hr.lt⟩; clear hr hb; obtain ⟨a0, a2, a3, a4⟩ := L1.cells; go_simp))
    go_ret
    exact ⟨rfl, L1.below⟩
end Go.Proofs.YtaokemapkgggoaaGreatDoor
