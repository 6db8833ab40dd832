import Derived.Test.YthphdoilbdeimaaDoorProgCodeBy
namespace Go.Proofs.YthphdoilbdeimaaDoor
open Go.RowKit

theorem elem32b : ∀ e, Tryd.prog.underlying 47 = some (.array 32 e) → (Tryd.prog.info? e).isSome = true := fun e he => by
  have h := under32b.symm.trans he
  have h5 : (Tryd.prog.info? 5).isSome = true := by kernel_rfl
  rw [← (TypeDesc.array.inj (Option.some.inj h)).2]
  exact h5

set_option maxRecDepth 100000 in
set_option maxHeartbeats 1000000 in
theorem prog_Sum (s : ByteArray) (w : World) (hG : Glob w) (hs : s.size < 1000000) :
    Calls Tryd.prog 11 #[.string s] w fun r w' => r = .returned (.agg (u8s (sumSpec K0 H0 0 s.data.toList)).toArray) ∧ Below w.heap.size w w' := by
  obtain ⟨ov, HO⟩ : ∃ ov, Hid (ov = sumSpec K0 H0 0 s.data.toList) := ⟨_, rfl⟩
  have hol : Hid ((u8s ov).length = 32) := by show _ = _; rw [u8s_length, HO.out]; exact sumSpec_length H0 W8_H0 _ _
  go_enter Tryd.func11, Tryd.ntmps11
  go_wp2_with (first | (refine wpList_allocR rfl 47 rfl 32 (.int .u8 0) arr32b ?_; go_simp) | (refine wpList_load_mid rfl 76 (.global 0) rfl 0 0 rfl (u32s H0) _ (hG.alloc _).range under8w rfl size8w ?_; go_simp) | (go_at_call 37; refine (prog_sum H0 _ _ _ (hG.alloc _) W8_H0 (by omega) (by omega)).mono ?_; rintro _ w1 ⟨rfl, hb1⟩; have a2 : Row w1 w.heap.size (zrow 32 (.int .u8 0)) 47 := (Row.made w _ _).below hb1 (by simp); have aw : Below w.heap.size w w1 := ((Below.refl _ _).alloc (Nat.le_refl _) _).trans (hb1.mono (by simp)); clear hb1; rw [← HO.out]) | (refine wpList_storeR rfl 47 _ _ rfl w.heap.size rfl (u8s ov) rfl 47 (zrow 32 (.int .u8 0)) 32 (.int .u8 0) a2 arr32b hol.out (zrow_length _ _) (u8s_one _) ?_; go_simp))
  refine bodyPost_ret (v := .agg (u8s ov).toArray) (results_row Tryd.results11 _ w.heap.size 47 (u8s ov) 32 (.int .u8 0) rfl (Row.setRow a2 _) arr32b hol.out) rfl ⟨by rw [HO.out], below_setRow aw (Nat.le_refl _) _⟩

set_option maxRecDepth 100000 in
set_option maxHeartbeats 1000000 in
theorem prog_Seal_no (s t : ByteArray) (w : World) (hs : ¬ (1 ≤ s.size ∧ s.size ≤ 20)) :
    Calls Tryd.prog 13 #[.string s, .string t] w fun r w' => r = .returned (.tuple #[.agg (zrow 32 (.int .u8 0)).toArray, .int .i64 3]) ∧ Below w.heap.size w w' := by
  go_enter Tryd.func13, Tryd.ntmps13
  go_wp2_with (first | (refine wpList_allocR rfl 47 rfl 32 (.int .u8 0) arr32b ?_; go_simp) | (go_at_call 42; refine (prog_keyOf_no _ _ hs).mono ?_; rintro _ w1 ⟨rfl, hb1⟩; have a2 : Row w1 w.heap.size (zrow 32 (.int .u8 0)) 47 := (Row.made w _ _).below hb1 (by simp); have aw : Below w.heap.size w w1 := ((Below.refl _ _).alloc (Nat.le_refl _) _).trans (hb1.mono (by simp)); clear hb1) | (refine wpList_allocR rfl 78 rfl 20 (.int .u8 0) arr20b ?_; go_simp) | (refine wpList_storeMA rfl 78 _ _ rfl _ rfl rfl (zrow 20 (.int .u8 0)) rfl 78 _ 20 (.int .u8 0) arr20b (zrow_length _ _) (zrow_length _ _) (by rw [zrow_u8]; exact u8s_one _) ?_; intro w3 hr5 hb3; have c2 := a2.below hb3 a2.lt; have cw := aw.trans (hb3.mono (Nat.le_of_lt a2.lt)); go_simp) | (refine wpList_buildZ rfl 47 rfl 32 (.int .u8 0) arr32b elem32b ?_; go_simp) | (refine wpList_storeR rfl 47 _ _ rfl w.heap.size rfl (zrow 32 (.int .u8 0)) rfl 47 (zrow 32 (.int .u8 0)) 32 (.int .u8 0) c2 arr32b (zrow_length _ _) (zrow_length _ _) (by rw [zrow_u8]; exact u8s_one _) ?_; go_simp))
  refine bodyPost_ret (v := .tuple #[.agg (zrow 32 (.int .u8 0)).toArray, .int .i64 3]) (results_row2 Tryd.results13 _ _ w.heap.size 47 (zrow 32 (.int .u8 0)) 32 (.int .u8 0) (.int .i64 3) rfl rfl (Row.setRow c2 _) arr32b (zrow_length _ _)) rfl ⟨rfl, below_setRow cw (Nat.le_refl _) _⟩

set_option maxRecDepth 100000 in
set_option maxHeartbeats 1000000 in
theorem prog_Seal_yes (s t : ByteArray) (w : World) (hG : Glob w) (h1 : 1 ≤ s.size) (h2 : s.size ≤ 20) (ht : t.size < 900000) :
    Calls Tryd.prog 13 #[.string s, .string t] w fun r w' => r = .returned (.tuple #[.agg (u8s (sealSpec (blk 20 s.data.toList) t.data.toList)).toArray, .int .i64 0]) ∧ Below w.heap.size w w' := by
  obtain ⟨kb, HK⟩ : ∃ kb, Hid (kb = blk 20 s.data.toList) := ⟨_, rfl⟩
  have hkl : Hid ((u8s kb).length = 20) := by show _ = _; rw [u8s_length, HK.out, blk_length]
  have hkB : ∀ x ∈ kb, isB x := by rw [HK.out]; exact blk_B _ _
  obtain ⟨ov, HO⟩ : ∃ ov, Hid (ov = sealSpec kb t.data.toList) := ⟨_, rfl⟩
  have hol : Hid ((u8s ov).length = 32) := by show _ = _; rw [u8s_length, HO.out]; exact sumSpec_length _ (blockOn_w8 W8_H0) _ _
  go_enter Tryd.func13, Tryd.ntmps13
  go_wp2_with (first | (refine wpList_allocR rfl 47 rfl 32 (.int .u8 0) arr32b ?_; go_simp) | (go_at_call 42; refine (prog_keyOf_yes _ _ h1 h2).mono ?_; rintro _ w1 ⟨rfl, hb1⟩; have a2 : Row w1 w.heap.size (zrow 32 (.int .u8 0)) 47 := (Row.made w _ _).below hb1 (by simp); have aw : Below w.heap.size w w1 := ((Below.refl _ _).alloc (Nat.le_refl _) _).trans (hb1.mono (by simp)); clear hb1; rw [← HK.out]) | (refine wpList_allocR rfl 78 rfl 20 (.int .u8 0) arr20b ?_; go_simp) | (refine wpList_storeMA rfl 78 _ _ rfl _ rfl rfl (u8s kb) rfl 78 _ 20 (.int .u8 0) arr20b hkl.out (zrow_length _ _) (u8s_one _) ?_; intro w3 hr5 hb3; have c2 := a2.below hb3 a2.lt; have cw := aw.trans (hb3.mono (Nat.le_of_lt a2.lt)); go_simp) | (refine wpList_loadR rfl 78 _ rfl w1.heap.size rfl 78 (u8s kb) 20 (.int .u8 0) hr5 arr20b hkl.out ?_; go_simp) | (go_at_call 43; refine (prog_sealBy kb _ _ (hG.below cw (Nat.le_refl _)) (by rw [← u8s_length]; exact hkl.out) hkB ht).mono ?_; rintro _ w4 ⟨rfl, hb4⟩; have d2 := c2.below hb4 c2.lt; have dw := cw.trans (hb4.mono (Nat.le_of_lt c2.lt)); clear hb4; rw [← HO.out]) | (refine wpList_storeR rfl 47 _ _ rfl w.heap.size rfl (u8s ov) rfl 47 (zrow 32 (.int .u8 0)) 32 (.int .u8 0) d2 arr32b hol.out (zrow_length _ _) (u8s_one _) ?_; go_simp))
  refine bodyPost_ret (v := .tuple #[.agg (u8s ov).toArray, .int .i64 0]) (results_row2 Tryd.results13 _ _ w.heap.size 47 (u8s ov) 32 (.int .u8 0) (.int .i64 0) rfl rfl (Row.setRow d2 _) arr32b hol.out) rfl ⟨by rw [HO.out, HK.out], below_setRow dw (Nat.le_refl _) _⟩

set_option maxRecDepth 100000 in
set_option maxHeartbeats 1000000 in
theorem prog_Code_no (s : ByteArray) (n : Int) (w : World) (hs : ¬ (1 ≤ s.size ∧ s.size ≤ 20)) :
    Calls Tryd.prog 16 #[.string s, .int .i64 n] w fun r w' => r = .returned (.tuple #[.string ⟨#[]⟩, .int .i64 3]) ∧ Below w.heap.size w w' := by
  go_enter Tryd.func16, Tryd.ntmps16
  go_wp2_with (first | (go_at_call 42; refine (prog_keyOf_no _ _ hs).mono ?_; rintro _ w1 ⟨rfl, hb1⟩) | (refine wpList_allocR rfl 78 rfl 20 (.int .u8 0) arr20b ?_; go_simp) | (refine wpList_storeMA rfl 78 _ _ rfl _ rfl rfl (zrow 20 (.int .u8 0)) rfl 78 _ 20 (.int .u8 0) arr20b (zrow_length _ _) (zrow_length _ _) (by rw [zrow_u8]; exact u8s_one _) ?_; intro w3 hr5 hb3; go_simp))
  go_ret2
  exact ⟨rfl, hb1.trans (hb3.mono hb1.size)⟩

set_option maxRecDepth 100000 in
set_option maxHeartbeats 1000000 in
theorem prog_Code_neg (s : ByteArray) (n : Int) (w : World) (h1 : 1 ≤ s.size) (h2 : s.size ≤ 20) (hn : n < 0) :
    Calls Tryd.prog 16 #[.string s, .int .i64 n] w fun r w' => r = .returned (.tuple #[.string ⟨#[]⟩, .int .i64 3]) ∧ Below w.heap.size w w' := by
  obtain ⟨kb, HK⟩ : ∃ kb, Hid (kb = blk 20 s.data.toList) := ⟨_, rfl⟩
  have hkl : Hid ((u8s kb).length = 20) := by show _ = _; rw [u8s_length, HK.out, blk_length]
  go_enter Tryd.func16, Tryd.ntmps16
  go_wp2_with (first | (go_at_call 42; refine (prog_keyOf_yes _ _ h1 h2).mono ?_; rintro _ w1 ⟨rfl, hb1⟩; rw [← HK.out]) | (refine wpList_allocR rfl 78 rfl 20 (.int .u8 0) arr20b ?_; go_simp) | (refine wpList_storeMA rfl 78 _ _ rfl _ rfl rfl (u8s kb) rfl 78 _ 20 (.int .u8 0) arr20b hkl.out (zrow_length _ _) (u8s_one _) ?_; intro w3 hr5 hb3; go_simp))
  go_ret2
  exact ⟨rfl, hb1.trans (hb3.mono hb1.size)⟩

set_option maxRecDepth 100000 in
set_option maxHeartbeats 1000000 in
theorem prog_Code_yes (s : ByteArray) (n : Int) (w : World) (hG : Glob w) (h1 : 1 ≤ s.size) (h2 : s.size ≤ 20) (hn : 0 ≤ n) (hn1 : n ≤ 9223372036854775807) :
    Calls Tryd.prog 16 #[.string s, .int .i64 n] w fun r w' => r = .returned (.tuple #[.string (strOfNums (codeSpec (blk 20 s.data.toList) n)), .int .i64 0]) ∧ Below w.heap.size w w' := by
  obtain ⟨kb, HK⟩ : ∃ kb, Hid (kb = blk 20 s.data.toList) := ⟨_, rfl⟩
  have hkl : Hid ((u8s kb).length = 20) := by show _ = _; rw [u8s_length, HK.out, blk_length]
  have hkB : ∀ x ∈ kb, isB x := by rw [HK.out]; exact blk_B _ _
  have hneg : ¬ n < 0 := by omega
  go_enter Tryd.func16, Tryd.ntmps16
  go_wp2_with (first | (go_at_call 42; refine (prog_keyOf_yes _ _ h1 h2).mono ?_; rintro _ w1 ⟨rfl, hb1⟩; rw [← HK.out]) | (refine wpList_allocR rfl 78 rfl 20 (.int .u8 0) arr20b ?_; go_simp) | (refine wpList_storeMA rfl 78 _ _ rfl _ rfl rfl (u8s kb) rfl 78 _ 20 (.int .u8 0) arr20b hkl.out (zrow_length _ _) (u8s_one _) ?_; intro w3 hr5 hb3; have cw := hb1.trans (hb3.mono hb1.size); clear hb1 hb3; go_simp) | (refine wpList_loadR rfl 78 _ rfl w1.heap.size rfl 78 (u8s kb) 20 (.int .u8 0) hr5 arr20b hkl.out ?_; go_simp) | (go_at_call 45; refine (prog_codeBy kb _ _ (hG.below cw (Nat.le_refl _)) (by rw [← u8s_length]; exact hkl.out) hkB (by omega) (by omega)).mono ?_; rintro _ w4 ⟨rfl, hb4⟩; have dw := cw.trans (hb4.mono cw.size); clear hb4))
  go_ret2
  exact ⟨by rw [HK.out]; rfl, dw⟩
end Go.Proofs.YthphdoilbdeimaaDoor
