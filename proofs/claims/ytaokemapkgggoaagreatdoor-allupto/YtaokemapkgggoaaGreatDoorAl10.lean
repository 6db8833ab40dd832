import Derived.Test.YtaokemapkgggoaaGreatDoorAl08
import Derived.Test.YtaokemapkgggoaaGreatDoorAl09
import Derived.Laws.Cover3
import Derived.Deep.RegionHeld3
namespace Go.Proofs.YtaokemapkgggoaaGreatDoor
open Go.RowKit

theorem elem32b : ∀ e, Tryz.prog.underlying 47 = some (.array 32 e) → (Tryz.prog.info? e).isSome = true := fun e he => by
  have h := under32b.symm.trans he
  have h5 : (Tryz.prog.info? 5).isSome = true := by kernel_rfl
  rw [← (TypeDesc.array.inj (Option.some.inj h)).2]
  exact h5

set_option maxRecDepth 100000 in
set_option maxHeartbeats 1000000 in
theorem prog_Sum (s : ByteArray) (w : World) (hG : Glob w) (hs : s.size < 1000000) :
    Calls Tryz.prog 13 #[.string s] w fun r w' => r = .returned (.agg (u8s (sumSpec K0 H0 0 s.data.toList)).toArray) ∧ Below w.heap.size w w' := by
  obtain ⟨ov, HO⟩ : ∃ ov, Hid (ov = sumSpec K0 H0 0 s.data.toList) := ⟨_, rfl⟩
  have hol : Hid ((u8s ov).length = 32) := by show _ = _; rw [u8s_length, HO.out]; exact sumSpec_length H0 W8_H0 _ _
  go_enter Tryz.func13, Tryz.ntmps13
  go_wp2_with (first | (refine wpList_allocR rfl 47 rfl 32 (.int .u8 0) arr32b ?_; go_simp) | (refine wpList_load_mid rfl 76 (.global 0) rfl 0 0 rfl (u32s H0) _ (hG.alloc _).range under8w rfl size8w ?_; go_simp) | (go_at_call 39; refine (prog_sum H0 _ _ _ (hG.alloc _) W8_H0 (by omega) (by omega)).mono ?_; rintro _ w1 ⟨rfl, hb1⟩; have a2 : Row w1 w.heap.size (zrow 32 (.int .u8 0)) 47 := (Row.made w _ _).below hb1 (by simp); have aw : Below w.heap.size w w1 := ((Below.refl _ _).alloc (Nat.le_refl _) _).trans (hb1.mono (by simp)); clear hb1; rw [← HO.out]) | (refine wpList_storeR rfl 47 _ _ rfl w.heap.size rfl (u8s ov) rfl 47 (zrow 32 (.int .u8 0)) 32 (.int .u8 0) a2 arr32b hol.out (zrow_length _ _) (u8s_one _) ?_; go_simp))
  refine bodyPost_ret (v := .agg (u8s ov).toArray) (results_row Tryz.results13 _ w.heap.size 47 (u8s ov) 32 (.int .u8 0) rfl (Row.setRow a2 _) arr32b hol.out) rfl ⟨by rw [HO.out], below_setRow aw (Nat.le_refl _) _⟩

theorem fieldOf_B (l : List UInt8) (n : Nat) (h : l.length < 256) : ∀ x ∈ fieldOf n l, isB x := by
  intro x hx
  rcases List.mem_cons.1 hx with rfl | hx
  · unfold isB; omega
  · exact blk_B _ _ x hx
theorem size_list (s : ByteArray) : s.size = s.data.toList.length := by rw [Array.length_toList]; rfl

set_option maxRecDepth 100000 in
set_option maxHeartbeats 1000000 in
theorem prog_Seal_no (s t : ByteArray) (w : World) (hs : ¬ (1 ≤ s.size ∧ s.size ≤ 20)) :
    Calls Tryz.prog 15 #[.string s, .string t] w fun r w' => r = .returned (.tuple #[.agg (zrow 32 (.int .u8 0)).toArray, .int .i64 3]) ∧ Below w.heap.size w w' := by
  rcases Nat.lt_or_ge 20 s.size with h20 | h20
  · go_enter Tryz.func15, Tryz.ntmps15
    go_wp2_with (first | (refine wpList_allocR rfl 47 rfl 32 (.int .u8 0) arr32b ?_; go_simp) | (go_at_call 44; refine (prog_keyOf_no _ _ h20).mono ?_; rintro _ w1 ⟨rfl, hb1⟩; have a2 : Row w1 w.heap.size (zrow 32 (.int .u8 0)) 47 := (Row.made w _ _).below hb1 (by simp); have aw : Below w.heap.size w w1 := ((Below.refl _ _).alloc (Nat.le_refl _) _).trans (hb1.mono (by simp)); clear hb1) | (refine wpList_allocR rfl 79 rfl 21 (.int .u8 0) arr21b ?_; go_simp) | (refine wpList_storeMA rfl 79 _ _ rfl _ rfl rfl (zrow 21 (.int .u8 0)) rfl 79 _ 21 (.int .u8 0) arr21b (zrow_length _ _) (zrow_length _ _) (by rw [zrow_u8]; exact u8s_one _) ?_; intro w3 hr5 hb3; have c2 := a2.below hb3 a2.lt; have cw := aw.trans (hb3.mono (Nat.le_of_lt a2.lt)); go_simp) | (refine wpList_buildZ rfl 47 rfl 32 (.int .u8 0) arr32b elem32b ?_; go_simp) | (refine wpList_storeR rfl 47 _ _ rfl w.heap.size rfl (zrow 32 (.int .u8 0)) rfl 47 (zrow 32 (.int .u8 0)) 32 (.int .u8 0) c2 arr32b (zrow_length _ _) (zrow_length _ _) (by rw [zrow_u8]; exact u8s_one _) ?_; go_simp))
    refine bodyPost_ret (v := .tuple #[.agg (zrow 32 (.int .u8 0)).toArray, .int .i64 3]) (results_row2 Tryz.results15 _ _ w.heap.size 47 (zrow 32 (.int .u8 0)) 32 (.int .u8 0) (.int .i64 3) rfl rfl (Row.setRow c2 _) arr32b (zrow_length _ _)) rfl ⟨rfl, below_setRow cw (Nat.le_refl _) _⟩
  · have hz : s.size = 0 := by omega
    obtain ⟨kf, HK⟩ : ∃ kf, Hid (kf = fieldOf 21 s.data.toList) := ⟨_, rfl⟩
    have hkl : Hid ((u8s kf).length = 21) := by show _ = _; rw [u8s_length, HK.out, fieldOf_length _ _ (by omega)]
    have hk0 : Hid ((u8s kf)[0]? = some (.int .u8 0)) := by show _ = _; rw [HK.out]; show some (Value.int .u8 (s.data.toList.length : Int)) = _; rw [← size_list, hz]; rfl
    go_enter Tryz.func15, Tryz.ntmps15
    go_wp2_with (first | (refine wpList_allocR rfl 47 rfl 32 (.int .u8 0) arr32b ?_; go_simp) | (go_at_call 44; refine (prog_keyOf_yes _ _ h20).mono ?_; rintro _ w1 ⟨rfl, hb1⟩; have a2 : Row w1 w.heap.size (zrow 32 (.int .u8 0)) 47 := (Row.made w _ _).below hb1 (by simp); have aw : Below w.heap.size w w1 := ((Below.refl _ _).alloc (Nat.le_refl _) _).trans (hb1.mono (by simp)); clear hb1; rw [← HK.out]) | (refine wpList_allocR rfl 79 rfl 21 (.int .u8 0) arr21b ?_; go_simp) | (refine wpList_storeMA rfl 79 _ _ rfl _ rfl rfl (u8s kf) rfl 79 _ 21 (.int .u8 0) arr21b hkl.out (zrow_length _ _) (u8s_one _) ?_; intro w3 hr5 hb3; have c2 := a2.below hb3 a2.lt; have cw := aw.trans (hb3.mono (Nat.le_of_lt a2.lt)); go_simp) | (go_at_call 45; refine (prog_none_yes w3 _ 0 (by rw [hr5.cell]; exact hk0.out)).mono ?_; rintro _ _ ⟨rfl, rfl⟩) | (refine wpList_buildZ rfl 47 rfl 32 (.int .u8 0) arr32b elem32b ?_; go_simp) | (refine wpList_storeR rfl 47 _ _ rfl w.heap.size rfl (zrow 32 (.int .u8 0)) rfl 47 (zrow 32 (.int .u8 0)) 32 (.int .u8 0) c2 arr32b (zrow_length _ _) (zrow_length _ _) (by rw [zrow_u8]; exact u8s_one _) ?_; go_simp))
    refine bodyPost_ret (v := .tuple #[.agg (zrow 32 (.int .u8 0)).toArray, .int .i64 3]) (results_row2 Tryz.results15 _ _ w.heap.size 47 (zrow 32 (.int .u8 0)) 32 (.int .u8 0) (.int .i64 3) rfl rfl (Row.setRow c2 _) arr32b (zrow_length _ _)) rfl ⟨rfl, below_setRow cw (Nat.le_refl _) _⟩

set_option maxRecDepth 100000 in
set_option maxHeartbeats 1000000 in
theorem prog_Seal_yes (s t : ByteArray) (w : World) (hG : Glob w) (h1 : 1 ≤ s.size) (h2 : s.size ≤ 20) (ht : t.size < 900000) :
    Calls Tryz.prog 15 #[.string s, .string t] w fun r w' => r = .returned (.tuple #[.agg (u8s (sealSpec (blk 20 s.data.toList) t.data.toList)).toArray, .int .i64 0]) ∧ Below w.heap.size w w' := by
  obtain ⟨kf, HK⟩ : ∃ kf, Hid (kf = fieldOf 21 s.data.toList) := ⟨_, rfl⟩
  have hkl : Hid ((u8s kf).length = 21) := by show _ = _; rw [u8s_length, HK.out, fieldOf_length _ _ (by omega)]
  have hkB : ∀ x ∈ kf, isB x := by rw [HK.out]; exact fieldOf_B _ _ (by rw [← size_list]; omega)
  have hk0 : Hid ((u8s kf)[0]? = some (.int .u8 (s.size : Int))) := by show _ = _; rw [HK.out, size_list]; rfl
  have hkt : Hid (kf.tail = blk 20 s.data.toList) := by show _ = _; rw [HK.out]; rfl
  have hn0 : ¬ (s.size : Int) = 0 := by omega
  obtain ⟨kn, hkn⟩ : ∃ x : Int, Hid (x = (s.size : Int)) := ⟨_, rfl⟩
  rw [← hkn.out] at hn0 hk0
  obtain ⟨ov, HO⟩ : ∃ ov, Hid (ov = sealSpec kf.tail t.data.toList) := ⟨_, rfl⟩
  have hol : Hid ((u8s ov).length = 32) := by show _ = _; rw [u8s_length, HO.out]; exact sumSpec_length _ (blockOn_w8 W8_H0) _ _
  go_enter Tryz.func15, Tryz.ntmps15
  go_wp2_with (first | (refine wpList_allocR rfl 47 rfl 32 (.int .u8 0) arr32b ?_; go_simp) | (go_at_call 44; refine (prog_keyOf_yes _ _ h2).mono ?_; rintro _ w1 ⟨rfl, hb1⟩; have a2 : Row w1 w.heap.size (zrow 32 (.int .u8 0)) 47 := (Row.made w _ _).below hb1 (by simp); have aw : Below w.heap.size w w1 := ((Below.refl _ _).alloc (Nat.le_refl _) _).trans (hb1.mono (by simp)); clear hb1; rw [← HK.out]) | (refine wpList_allocR rfl 79 rfl 21 (.int .u8 0) arr21b ?_; go_simp) | (refine wpList_storeMA rfl 79 _ _ rfl _ rfl rfl (u8s kf) rfl 79 _ 21 (.int .u8 0) arr21b hkl.out (zrow_length _ _) (u8s_one _) ?_; intro w3 hr5 hb3; have c2 := a2.below hb3 a2.lt; have cw := aw.trans (hb3.mono (Nat.le_of_lt a2.lt)); go_simp) | (go_at_call 45; refine (prog_none_no w3 _ 0 _ hn0 (by rw [hr5.cell]; exact hk0.out)).mono ?_; rintro _ _ ⟨rfl, rfl⟩) | (refine wpList_loadR rfl 79 _ rfl w1.heap.size rfl 79 (u8s kf) 21 (.int .u8 0) hr5 arr21b hkl.out ?_; go_simp) | (go_at_call 46; refine (prog_sealBy kf _ _ (hG.below cw (Nat.le_refl _)) (by rw [← u8s_length]; exact hkl.out) hkB ht).mono ?_; rintro _ w4 ⟨rfl, hb4⟩; have d2 := c2.below hb4 c2.lt; have dw := cw.trans (hb4.mono (Nat.le_of_lt c2.lt)); clear hb4; rw [← HO.out]) | (refine wpList_storeR rfl 47 _ _ rfl w.heap.size rfl (u8s ov) rfl 47 (zrow 32 (.int .u8 0)) 32 (.int .u8 0) d2 arr32b hol.out (zrow_length _ _) (u8s_one _) ?_; go_simp))
  refine bodyPost_ret (v := .tuple #[.agg (u8s ov).toArray, .int .i64 0]) (results_row2 Tryz.results15 _ _ w.heap.size 47 (u8s ov) 32 (.int .u8 0) (.int .i64 0) rfl rfl (Row.setRow d2 _) arr32b hol.out) rfl ⟨by rw [HO.out, hkt.out], below_setRow dw (Nat.le_refl _) _⟩

set_option maxRecDepth 100000 in
set_option maxHeartbeats 1000000 in
theorem prog_Code_no (s : ByteArray) (n : Int) (w : World) (hs : ¬ (1 ≤ s.size ∧ s.size ≤ 20)) :
    Calls Tryz.prog 18 #[.string s, .int .i64 n] w fun r w' => r = .returned (.tuple #[.string ⟨#[]⟩, .int .i64 3]) ∧ Below w.heap.size w w' := by
  rcases Nat.lt_or_ge 20 s.size with h20 | h20
  · go_enter Tryz.func18, Tryz.ntmps18
    go_wp2_with (first | (go_at_call 44; refine (prog_keyOf_no _ _ h20).mono ?_; rintro _ w1 ⟨rfl, hb1⟩) | (refine wpList_allocR rfl 79 rfl 21 (.int .u8 0) arr21b ?_; go_simp) | (refine wpList_storeMA rfl 79 _ _ rfl _ rfl rfl (zrow 21 (.int .u8 0)) rfl 79 _ 21 (.int .u8 0) arr21b (zrow_length _ _) (zrow_length _ _) (by rw [zrow_u8]; exact u8s_one _) ?_; intro w3 hr5 hb3; go_simp))
    go_ret2
    exact ⟨rfl, hb1.trans (hb3.mono hb1.size)⟩
  · have hz : s.size = 0 := by omega
    obtain ⟨kf, HK⟩ : ∃ kf, Hid (kf = fieldOf 21 s.data.toList) := ⟨_, rfl⟩
    have hkl : Hid ((u8s kf).length = 21) := by show _ = _; rw [u8s_length, HK.out, fieldOf_length _ _ (by omega)]
    have hk0 : Hid ((u8s kf)[0]? = some (.int .u8 0)) := by show _ = _; rw [HK.out]; show some (Value.int .u8 (s.data.toList.length : Int)) = _; rw [← size_list, hz]; rfl
    go_enter Tryz.func18, Tryz.ntmps18
    go_wp2_with (first | (go_at_call 44; refine (prog_keyOf_yes _ _ h20).mono ?_; rintro _ w1 ⟨rfl, hb1⟩; rw [← HK.out]) | (refine wpList_allocR rfl 79 rfl 21 (.int .u8 0) arr21b ?_; go_simp) | (refine wpList_storeMA rfl 79 _ _ rfl _ rfl rfl (u8s kf) rfl 79 _ 21 (.int .u8 0) arr21b hkl.out (zrow_length _ _) (u8s_one _) ?_; intro w3 hr5 hb3; go_simp) | (go_at_call 45; refine (prog_none_yes w3 _ 0 (by rw [hr5.cell]; exact hk0.out)).mono ?_; rintro _ _ ⟨rfl, rfl⟩))
    go_ret2
    exact ⟨rfl, hb1.trans (hb3.mono hb1.size)⟩

set_option maxRecDepth 100000 in
set_option maxHeartbeats 1000000 in
theorem prog_Code_neg (s : ByteArray) (n : Int) (w : World) (h1 : 1 ≤ s.size) (h2 : s.size ≤ 20) (hn : n < 0) :
    Calls Tryz.prog 18 #[.string s, .int .i64 n] w fun r w' => r = .returned (.tuple #[.string ⟨#[]⟩, .int .i64 3]) ∧ Below w.heap.size w w' := by
  obtain ⟨kf, HK⟩ : ∃ kf, Hid (kf = fieldOf 21 s.data.toList) := ⟨_, rfl⟩
  have hkl : Hid ((u8s kf).length = 21) := by show _ = _; rw [u8s_length, HK.out, fieldOf_length _ _ (by omega)]
  have hk0 : Hid ((u8s kf)[0]? = some (.int .u8 (s.size : Int))) := by show _ = _; rw [HK.out, size_list]; rfl
  have hn0 : ¬ (s.size : Int) = 0 := by omega
  obtain ⟨kn, hkn⟩ : ∃ x : Int, Hid (x = (s.size : Int)) := ⟨_, rfl⟩
  rw [← hkn.out] at hn0 hk0
  go_enter Tryz.func18, Tryz.ntmps18
  go_wp2_with (first | (go_at_call 44; refine (prog_keyOf_yes _ _ h2).mono ?_; rintro _ w1 ⟨rfl, hb1⟩; rw [← HK.out]) | (refine wpList_allocR rfl 79 rfl 21 (.int .u8 0) arr21b ?_; go_simp) | (refine wpList_storeMA rfl 79 _ _ rfl _ rfl rfl (u8s kf) rfl 79 _ 21 (.int .u8 0) arr21b hkl.out (zrow_length _ _) (u8s_one _) ?_; intro w3 hr5 hb3; go_simp) | (go_at_call 45; refine (prog_none_no w3 _ 0 _ hn0 (by rw [hr5.cell]; exact hk0.out)).mono ?_; rintro _ _ ⟨rfl, rfl⟩))
  go_ret2
  exact ⟨rfl, hb1.trans (hb3.mono hb1.size)⟩

theorem keep_callC {w W wx : World} {kb iv : List Int} {g h : Nat} (hb : Below W.heap.size W wx)
    (hh : W.rangeAt g 0 (u8s kb) ∧ W.rangeAt h 0 (u8s iv) ∧ Below w.heap.size w W ∧ g < W.heap.size ∧ h < W.heap.size) :
    wx.rangeAt g 0 (u8s kb) ∧ wx.rangeAt h 0 (u8s iv) ∧ Below w.heap.size w wx ∧ g < wx.heap.size ∧ h < wx.heap.size :=
  ⟨range_below hh.1 hb hh.2.2.2.1, range_below hh.2.1 hb hh.2.2.2.2, hh.2.2.1.trans (hb.mono hh.2.2.1.size), Nat.lt_of_lt_of_le hh.2.2.2.1 hb.size, Nat.lt_of_lt_of_le hh.2.2.2.2 hb.size⟩

set_option maxRecDepth 100000 in
set_option maxHeartbeats 1000000 in
theorem prog_Code_yes (s : ByteArray) (n : Int) (w : World) (hG : Glob w) (h1 : 1 ≤ s.size) (h2 : s.size ≤ 20) (hn : 0 ≤ n) (hn1 : n ≤ 9223372036854775807) :
    Calls Tryz.prog 18 #[.string s, .int .i64 n] w fun r w' => r = .returned (.tuple #[.string (strOfNums (codeSpec (blk 20 s.data.toList) n)), .int .i64 0]) ∧ Below w.heap.size w w' := by
  obtain ⟨kf, HK⟩ : ∃ kf, Hid (kf = fieldOf 21 s.data.toList) := ⟨_, rfl⟩
  have hkl : Hid ((u8s kf).length = 21) := by show _ = _; rw [u8s_length, HK.out, fieldOf_length _ _ (by omega)]
  have hkB : ∀ x ∈ kf, isB x := by rw [HK.out]; exact fieldOf_B _ _ (by rw [← size_list]; omega)
  have hk0 : Hid ((u8s kf)[0]? = some (.int .u8 (s.size : Int))) := by show _ = _; rw [HK.out, size_list]; rfl
  have hkt : Hid (kf.tail = blk 20 s.data.toList) := by show _ = _; rw [HK.out]; rfl
  have hn0 : ¬ (s.size : Int) = 0 := by omega
  obtain ⟨kn, hkn⟩ : ∃ x : Int, Hid (x = (s.size : Int)) := ⟨_, rfl⟩
  rw [← hkn.out] at hn0 hk0
  have hneg : ¬ n < 0 := by omega
  obtain ⟨e8, HE⟩ : ∃ e8, Hid (e8 = eightTo n 8) := ⟨_, rfl⟩
  have he8 : Hid ((u8s e8).length = 8) := by show _ = _; rw [HE.out, u8s_length, eightTo_length]
  go_enter Tryz.func18, Tryz.ntmps18
  go_wp2_with (first | (go_at_call 44; refine (prog_keyOf_yes _ _ h2).mono ?_; rintro _ w1 ⟨rfl, hb1⟩; rw [← HK.out]) | (refine wpList_allocR rfl 79 rfl 21 (.int .u8 0) arr21b ?_; go_simp) | (refine wpList_storeMA rfl 79 _ _ rfl _ rfl rfl (u8s kf) rfl 79 _ 21 (.int .u8 0) arr21b hkl.out (zrow_length _ _) (u8s_one _) ?_; intro w3 hr5 hb3; have cw := hb1.trans (hb3.mono hb1.size); clear hb1 hb3; go_simp) | (go_at_call 45; refine (prog_none_no w3 _ 0 _ hn0 (by rw [hr5.cell]; exact hk0.out)).mono ?_; rintro _ _ ⟨rfl, rfl⟩) | (go_at_call 48; refine (prog_eight _ _ (by omega) (by omega)).mono ?_; rintro _ w4 ⟨rfl, hb4⟩; have d5 := hr5.below hb4 hr5.lt; have dw := cw.trans (hb4.mono cw.size); clear hb4; rw [← HE.out]) | (refine wpList_allocR rfl 85 rfl 8 (.int .u8 0) arr8b ?_; go_simp) | (refine wpList_storeMA rfl 85 _ _ rfl _ rfl rfl (u8s e8) rfl 85 _ 8 (.int .u8 0) arr8b he8.out (zrow_length _ _) (u8s_one _) ?_; intro w6 hr6 hb6; have e5 := d5.below hb6 d5.lt; have ew := dw.trans (hb6.mono dw.size); clear hb6; go_simp))
  have hS0 : w6.drew.rangeAt w1.heap.size 0 (u8s kf) ∧ w6.drew.rangeAt w4.heap.size 0 (u8s e8) ∧ Below w.heap.size w w6.drew ∧ w1.heap.size < w6.drew.heap.size ∧ w4.heap.size < w6.drew.heap.size := ⟨e5.range, hr6.range, ew.drew, e5.lt, hr6.lt⟩
  have hi79 : (Tryz.prog.info? 79).map (·.size) = some (u8s kf).length := by rw [hkl.out]; exact arr21b.size
  have hu79 := under21b
  have hlk : (u8s kf).length = 21 := hkl.out
  have hok := u8s_one kf
  have hconv : ∀ w', w'.rangeAt w4.heap.size 0 (u8s e8) → (convert 49 9 (.slice (some ⟨w4.heap.size, 0, none⟩) 8 8)).run Tryz.prog w' = .ok (.string (strOfNums e8)) w' := fun w' h => run_convR w' _ e8 8 8 (by rw [← u8s_length]; exact he8.out) h
  have hsz : (strOfNums e8).size = 8 := by rw [strOfNums_size, ← u8s_length]; exact he8.out
  clear hr6 e5 ew d5 dw hr5 cw
  go_region_held3 (fun w' => w'.rangeAt w1.heap.size 0 (u8s kf) ∧ w'.rangeAt w4.heap.size 0 (u8s e8) ∧ Below w.heap.size w w' ∧ w1.heap.size < w'.heap.size ∧ w4.heap.size < w'.heap.size) (first | exact hS0 | exact keep_callC hbx (by assumption)) (first | (go_at_call 49; refine (prog_codeBy kf _ _ ?_ (by rw [← u8s_length]; exact hkl.out) hkB (by omega)).mono ?_; (go_split_ands; exact hG.below (by assumption) (Nat.le_refl _)); rintro _ wx ⟨rfl, hbx⟩; rw [toBytes_str]))
  go_wp2
  go_ret2
  refine ⟨?_, (keep_callC hbx hS0).2.2.1⟩
  rw [hkt.out, HE.out]; rfl
end Go.Proofs.YtaokemapkgggoaaGreatDoor

namespace Go.Proofs.YtaokemapkgggoaaGreatDoor
open Go.RowKit

/-- a byte of a list, as a number -/
def bAt (l : List UInt8) (i : Nat) : Int := (bytesI l).getD i 0
theorem bAt_B (l : List UInt8) (i : Nat) : 0 ≤ bAt l i ∧ bAt l i < 256 := getD_isB (bytesI_B l) i
theorem bcells_get (l : List UInt8) (i : Nat) (h : i < l.length) : (bcells l)[i]? = some (.int .u8 (bAt l i)) := by
  rw [bcells_eq, u8s_get _ _ (by simpa [bytesI] using h)]; rfl
theorem bcells_length (l : List UInt8) : (bcells l).length = l.length := by simp [bcells]
theorem range_byte {w : World} {g o : Nat} {l : List UInt8} (h : w.rangeAt g o (bcells l)) (i : Nat) (hi : i < l.length) : w.cell? ⟨g, o + i, none⟩ = some (.int .u8 (bAt l i)) := h i _ (bcells_get l i hi)
theorem range_sub {w : World} {g o : Nat} {l : List UInt8} (h : w.rangeAt g o (bcells l)) (a n : Nat) : w.rangeAt g (o + a) (bcells ((l.drop a).take n)) := by
  intro j v hv
  have hj : j < ((l.drop a).take n).length := by
    have := (List.getElem?_eq_some_iff.1 hv).1
    rwa [bcells_length] at this
  rw [Nat.add_assoc]
  refine h (a + j) v ?_
  rw [← hv]
  simp only [bcells, List.getElem?_map, List.getElem?_take, List.getElem?_drop]
  rw [List.length_take, List.length_drop] at hj
  rw [if_pos (by omega)]

set_option maxRecDepth 100000 in
set_option maxHeartbeats 400000 in
theorem prog_checkB (w : World) (g o n c : Nat) (l : List UInt8) (hR : w.rangeAt g o (bcells l)) (hl : l.length = n) (hn : n ≤ 100000) :
    Calls Tryz.prog 93 #[.slice (some ⟨g, o, none⟩) n c] w fun r w' => r = .returned (.int .u8 ((1 + sumB l) % 256)) ∧ w' = w := by
  have HL : Hid (l.length = n) := hl
  clear hl
  go_enter Tryz.func93, Tryz.ntmps93
  go_wp2
  go_loopw [3, 7] (fun sv c wr => ∃ i : Nat, i ≤ n ∧ c = .int .i64 i ∧ sv = .int .u8 ((1 + sumB (l.take i)) % 256) ∧ wr = w) (fun _ c _ => n - (intOf c).toNat)
  case atStart => exact ⟨0, by omega, rfl, by simp [sumB], rfl⟩
  case round =>
    obtain ⟨i, hi, rfl, rfl, rfl⟩ := hrel
    by_cases hlt : i < n
    · have hc := range_byte hR i (by rw [HL.out]; exact hlt)
      have HS : Hid (sumB (l.take (i + 1)) = sumB (l.take i) + bAt l i) := sumB_take_succ l i (by rw [HL.out]; exact hlt)
      obtain ⟨hb0, hb1⟩ := bAt_B l i
      generalize bAt l i = x at *
      generalize sumB (l.take i) = sm at *
      have hlt' : (i : Int) < n := by omega
      go_wp2
      refine ⟨⟨i + 1, by omega, by go_num, ?_, trivial⟩, by simp [intOf]; omega⟩
      rw [HS.out]
      congr 1
      omega
    · have e : l.take i = l := List.take_of_length_le (by rw [HL.out]; omega)
      rw [e]
      have hlt' : ¬ (i : Int) < n := by omega
      go_wp2
      go_ret
      exact ⟨rfl, rfl⟩

set_option maxRecDepth 100000 in
set_option maxHeartbeats 400000 in
theorem prog_checkS (w : World) (s : ByteArray) (hn : s.size ≤ 100000000) :
    Calls Tryz.prog 91 #[.string s] w fun r w' => r = .returned (.int .u8 ((1 + sumB s.data.toList) % 256)) ∧ w' = w := by
  have HL : Hid (s.data.toList.length = s.size) := by show _ = _; rw [Array.length_toList]; rfl
  go_enter Tryz.func91, Tryz.ntmps91
  go_wp2
  go_loopw [3, 7] (fun sv c wr => ∃ i : Nat, i ≤ s.size ∧ c = .int .i64 i ∧ sv = .int .u8 ((1 + sumB (s.data.toList.take i)) % 256) ∧ wr = w) (fun _ c _ => s.size - (intOf c).toNat)
  case atStart => exact ⟨0, by omega, rfl, by simp [sumB], rfl⟩
  case round =>
    obtain ⟨i, hi, rfl, rfl, rfl⟩ := hrel
    by_cases hlt : i < s.size
    · have hc := byte_at hlt
      have HS : Hid (sumB (s.data.toList.take (i + 1)) = sumB (s.data.toList.take i) + bAt s.data.toList i) := sumB_take_succ s.data.toList i (by rw [HL.out]; exact hlt)
      obtain ⟨hb0, hb1⟩ := bAt_B s.data.toList i
      change _ = bAt s.data.toList i at hc
      generalize bAt s.data.toList i = x at *
      generalize sumB (s.data.toList.take i) = sm at *
      have hlt' : (i : Int) < s.size := by omega
      go_wp2
      refine ⟨⟨i + 1, by omega, by go_num, ?_, trivial⟩, by simp [intOf]; omega⟩
      rw [HS.out]
      congr 1
      omega
    · have e : s.data.toList.take i = s.data.toList := List.take_of_length_le (by rw [HL.out]; omega)
      rw [e]
      have hlt' : ¬ (i : Int) < s.size := by omega
      go_wp2
      go_ret
      exact ⟨rfl, rfl⟩

/-- an image in memory: 100 bytes from place o on -/
structure ImgAt (w : World) (g o : Nat) (l : List UInt8) : Prop where
  len : l.length = 100
  at_ : w.rangeAt g o (bcells l)
theorem ImgAt.b {w : World} {g o : Nat} {l : List UInt8} (h : ImgAt w g o l) (i : Nat) (hi : i < 100) : w.cell? ⟨g, o + i, none⟩ = some (.int .u8 (bAt l i)) := range_byte h.at_ i (by rw [h.len]; exact hi)
def numOf (l : List UInt8) : Int := word4 (bAt l 1) (bAt l 2) (bAt l 3) (bAt l 4)
theorem numOf_w (l : List UInt8) : isW (numOf l) := word4_w (bAt_B l 1) (bAt_B l 2) (bAt_B l 3) (bAt_B l 4)

set_option maxRecDepth 100000 in
set_option maxHeartbeats 400000 in
theorem prog_number (w : World) (g o : Nat) (l : List UInt8) (h : ImgAt w g o l) :
    Calls Tryz.prog 74 #[.pointer (some ⟨g, o, none⟩)] w fun r w' => r = .returned (.int .u32 (numOf l)) ∧ ∃ n, w' = w.drewN n := by
  have c1 := h.b 1 (by omega)
  have c2 := h.b 2 (by omega)
  have c3 := h.b 3 (by omega)
  have c4 := h.b 4 (by omega)
  have p1 := bAt_B l 1
  have p2 := bAt_B l 2
  have p3 := bAt_B l 3
  have p4 := bAt_B l 4
  have HN : Hid (numOf l = word4 (bAt l 1) (bAt l 2) (bAt l 3) (bAt l 4)) := rfl
  clear h
  generalize bAt l 1 = x1 at *
  generalize bAt l 2 = x2 at *
  generalize bAt l 3 = x3 at *
  generalize bAt l 4 = x4 at *
  generalize numOf l = nn at *
  go_enter Tryz.func74, Tryz.ntmps74
  go_wp2
  go_quiet ((go_at_call 69; exact Calls.quiet_of_same (prog_word _ _ _ _ _ p1 p2 p3 p4)))
  go_wp2
  go_ret
  exact ⟨ret_int HN.out.symm, _, rfl⟩

theorem under_img : Tryz.prog.underlying 93 = some (.array 100 5) := by kernel_rfl
theorem under_pin : Tryz.prog.underlying 89 = some (.array 9 5) := by kernel_rfl
theorem under_flash : Tryz.prog.underlying 96 = some (.array 2 93) := by kernel_rfl

/-- the check of an image -/
def chkOf (l : List UInt8) : Int := (1 + sumB ((l.drop 1).take 98)) % 256

set_option maxRecDepth 100000 in
set_option maxHeartbeats 400000 in
theorem prog_check (w : World) (g o : Nat) (l : List UInt8) (h : ImgAt w g o l) :
    Calls Tryz.prog 88 #[.pointer (some ⟨g, o, none⟩)] w fun r w' => r = .returned (.int .u8 (chkOf l)) ∧ w' = w := by
  have hsl := fun wx => run_sliceArr2 (P := Tryz.prog) wx 93 5 100 under_img size_byte g o 1 99 (by omega) (by omega) (by omega) 1 99 rfl rfl
  have hr := range_sub h.at_ 1 98
  have hlen : Hid (((l.drop 1).take 98).length = 98) := by show _ = _; rw [List.length_take, List.length_drop, h.len]; rfl
  clear h
  go_enter Tryz.func88, Tryz.ntmps88
  go_wp2_with (go_at_call 93; refine (prog_checkB w g (o + 1) 98 99 _ hr hlen.out (by omega)).mono ?_; rintro _ w9 ⟨rfl, e9⟩; rw [e9]; clear e9 w9; rw [show (1 + sumB ((l.drop 1).take 98)) % 256 = chkOf l from rfl])
  go_ret
  exact ⟨rfl, rfl⟩

set_option maxRecDepth 100000 in
set_option maxHeartbeats 400000 in
theorem prog_worn (w : World) (g o : Nat) (l : List UInt8) (h : ImgAt w g o l) :
    Calls Tryz.prog 110 #[.pointer (some ⟨g, o, none⟩)] w fun r w' => r = .returned (.bool (decide (numOf l = 4294967295))) ∧ ∃ n, w' = w.drewN n := by
  go_enter Tryz.func110, Tryz.ntmps110
  go_wp2_with (go_at_call 74; refine (prog_number w g o l h).mono ?_; rintro _ w9 ⟨rfl, n9, e9⟩; rw [e9]; clear e9 w9)
  go_ret
  exact ⟨rfl, _, rfl⟩

set_option maxRecDepth 100000 in
set_option maxHeartbeats 400000 in
theorem prog_pin (w : World) (g o : Nat) :
    Calls Tryz.prog 71 #[.pointer (some ⟨g, o, none⟩)] w fun r w' => r = .returned (.pointer (some ⟨g, o + 6, none⟩)) ∧ w' = w := by
  have hsl := fun wx => run_sliceArr2 (P := Tryz.prog) wx 93 5 100 under_img size_byte g o 6 15 (by omega) (by omega) (by omega) 6 15 rfl rfl
  have har := fun wx => run_arrayAt (P := Tryz.prog) (w := wx) 89 5 9 (some ⟨g, o + 6, none⟩) 9 94 under_pin (Nat.le_refl _)
  go_enter Tryz.func71, Tryz.ntmps71
  go_wp2
  go_ret
  exact ⟨rfl, rfl⟩

set_option maxRecDepth 100000 in
set_option maxHeartbeats 400000 in
theorem prog_key (w : World) (g o i : Nat) (hi : i < 4) :
    Calls Tryz.prog 97 #[.pointer (some ⟨g, o, none⟩), .int .i64 i] w fun r w' => r = .returned (.pointer (some ⟨g, o + (15 + 21 * i), none⟩)) ∧ w' = w := by
  have hsl := fun wx => run_sliceArr2 (P := Tryz.prog) wx 93 5 100 under_img size_byte g o (15 + 21 * i) (15 + 21 * i + 21) (by omega) (by omega) (by omega) (15 + (i : Int) * 21) (15 + (i : Int) * 21 + 21) (by omega) (by omega)
  rw [show 15 + 21 * i + 21 - (15 + 21 * i) = 21 by omega] at hsl
  have har := fun wx => run_arrayAt (P := Tryz.prog) (w := wx) 79 5 21 (some ⟨g, o + (15 + 21 * i), none⟩) 21 (100 - (15 + 21 * i)) under21b (Nat.le_refl _)
  have w1 : IntKind.i64.wrap ((i : Int) * 21) = (i : Int) * 21 := wrap_id _ (by omega) (by omega)
  have w2 : IntKind.i64.wrap (15 + (i : Int) * 21) = 15 + (i : Int) * 21 := wrap_id _ (by omega) (by omega)
  have w3 : IntKind.i64.wrap (15 + (i : Int) * 21 + 21) = 15 + (i : Int) * 21 + 21 := wrap_id _ (by omega) (by omega)
  go_enter Tryz.func97, Tryz.ntmps97
  go_wp2
  go_ret
  exact ⟨rfl, rfl⟩
end Go.Proofs.YtaokemapkgggoaaGreatDoor

namespace Go.Proofs.YtaokemapkgggoaaGreatDoor
open Go.RowKit

theorem law_num (e : Int) (w : World) : Calls Tryz.prog 16 #[.int .i64 e] w fun r w' => r = .returned (.int .i64 e) ∧ w' = w := by
  go_enter Tryz.func16, Tryz.ntmps16
  go_wp2
  go_ret
  exact ⟨rfl, rfl⟩

theorem wpList_boxM {P : Program} {ops : Array Oper} {rest : List Oper} {o : Oper} {a : Act} {w : World} {Q : Exit → Act → World → Prop} (hgd : o.guard = none) (ty : TypeId) (x : Operand) (ho : o.op = .box ty x) (cs : List Value) (hx : a.eval x = .agg cs.toArray)
    (h : ∀ w', Row w' w.heap.size cs ty → Below w.heap.size w w' → wpList P ops Q rest (a.put o.dst (.pointer (some ⟨w.heap.size, 0, none⟩))) w') : wpList P ops Q (o :: rest) a w :=
  wpList_boxR hgd ty x ho cs hx (h _ (Row.made _ _ _) ((Below.refl _ _).alloc (Nat.le_refl _) _))

/-- a step's cells: kind, device, number, two texts, and what no sum looks at -/
def opCells (kd wn n : Int) (s t : ByteArray) (rest : List Value) : List Value := .int .i64 kd :: .int .i64 wn :: .int .i64 n :: .string s :: .string t :: rest

/-- what lies in memory while a step of sums is played: the step's copy, the pointer to what reckons, what it reckons with -/
structure LawAt (w0 : World) (g gs : Nat) (kd wn n : Int) (s t : ByteArray) (rest : List Value) (w : World) : Prop where
  row : Row w w0.heap.size (opCells kd wn n s t rest) 36
  ptr : w.cell? ⟨g, 0, none⟩ = some (.pointer (some ⟨gs, 0, none⟩))
  summ : Summ w gs
  glob : Glob w
  below : Below w0.heap.size w0 w
  lt : w0.heap.size < w.heap.size
theorem LawAt.next {w0 : World} {g gs : Nat} {kd wn n : Int} {s t : ByteArray} {rest : List Value} {w w' : World} (h : LawAt w0 g gs kd wn n s t rest w) (hb : Below w.heap.size w w') : LawAt w0 g gs kd wn n s t rest w' :=
  ⟨h.row.below hb h.lt, (hb.cell (p := ⟨g, 0, none⟩) (World.block_lt_of_cell? _ _ h.ptr)).trans h.ptr, h.summ.below hb (Nat.le_refl _), h.glob.below hb (Nat.le_refl _), h.below.trans (hb.mono (Nat.le_of_lt h.lt)), Nat.lt_of_lt_of_le h.lt hb.size⟩
theorem LawAt.cells {w0 : World} {g gs : Nat} {kd wn n : Int} {s t : ByteArray} {rest : List Value} {w : World} (h : LawAt w0 g gs kd wn n s t rest w) :
    w.cell? ⟨w0.heap.size, 0, none⟩ = some (.int .i64 kd) ∧ w.cell? ⟨w0.heap.size, 2, none⟩ = some (.int .i64 n) ∧ w.cell? ⟨w0.heap.size, 3, none⟩ = some (.string s) ∧ w.cell? ⟨w0.heap.size, 4, none⟩ = some (.string t) :=
  ⟨h.row.cell.trans rfl, h.row.cell.trans rfl, h.row.cell.trans rfl, h.row.cell.trans rfl⟩
theorem LawAt.drew {w0 : World} {g gs : Nat} {kd wn n : Int} {s t : ByteArray} {rest : List Value} {w : World} (h : LawAt w0 g gs kd wn n s t rest w) : LawAt w0 g gs kd wn n s t rest w.drew := h.next (Below.refl _ _).drew

/-- what a comparison leans on -/
abbrev Held (w0 : World) (g gs : Nat) (kd wn n : Int) (s t : ByteArray) (rest : List Value) (g5 : Nat) (ov : List Int) (w : World) : Prop :=
  w.rangeAt g5 0 (u8s ov) ∧ w.cell? ⟨g, 0, none⟩ = some (.pointer (some ⟨gs, 0, none⟩)) ∧ w.cell? ⟨w0.heap.size, 3, none⟩ = some (.string s) ∧ w.cell? ⟨w0.heap.size, 4, none⟩ = some (.string t) ∧ LawAt w0 g gs kd wn n s t rest w ∧ g5 < w.heap.size
theorem Held.next {w0 : World} {g gs : Nat} {kd wn n : Int} {s t : ByteArray} {rest : List Value} {g5 : Nat} {ov : List Int} {w w' : World} (h : Held w0 g gs kd wn n s t rest g5 ov w) (hb : Below w.heap.size w w') : Held w0 g gs kd wn n s t rest g5 ov w' :=
  have L := h.2.2.2.2.1.next hb
  ⟨range_below h.1 hb h.2.2.2.2.2, L.ptr, L.cells.2.2.1, L.cells.2.2.2, L, Nat.lt_of_lt_of_le h.2.2.2.2.2 hb.size⟩

set_option maxRecDepth 100000 in
set_option maxHeartbeats 2000000 in
theorem law_sums1 (hsum : SumSaid sumSpecRef) (wn n : Int) (s t : ByteArray) (rest : List Value) (g gs : Nat) (w : World) (hp : w.cell? ⟨g, 0, none⟩ = some (.pointer (some ⟨gs, 0, none⟩))) (hS : Summ w gs) (hG : Glob w) :
    Calls Tryz.prog 8 #[.pointer (some ⟨g, 0, none⟩), .agg (opCells 1 wn n s t rest).toArray] w fun r w' => r = .returned (.bool true) ∧ Below w.heap.size w w' := by
  obtain ⟨ov, HO⟩ : ∃ ov, Hid (ov = sumSpec K0 H0 0 s.data.toList) := ⟨_, rfl⟩
  have hol : Hid ((u8s ov).length = 32) := by show _ = _; rw [u8s_length, HO.out]; exact sumSpec_length H0 W8_H0 _ _
  obtain ⟨cs, HC⟩ : ∃ cs, Hid (cs = opCells 1 wn n s t rest) := ⟨_, rfl⟩
  rw [← HC.out]
  by_cases hs : s.size ≤ 400
  · have hs' : ¬ (400 : Int) < s.size := by omega
    go_enter Tryz.func8, Tryz.ntmps8
    go_wp2_with (first | (refine wpList_boxM rfl 36 _ rfl cs rfl ?_; intro w1 hr hb; have L1 : LawAt w g gs 1 wn n s t rest w1 := ⟨by rw [← HC.out]; exact hr, (hb.cell (p := ⟨g, 0, none⟩) (World.block_lt_of_cell? _ _ hp)).trans hp, hS.below hb (Nat.le_refl _), hG.below hb (Nat.le_refl _), hb, hr.lt⟩; clear hr hb; obtain ⟨a0, a2, a3, a4⟩ := L1.cells; go_simp) | (go_at_call 13; refine (prog_Sum s _ L1.glob (by omega)).mono ?_; rintro _ w2 ⟨rfl, hb2⟩; rw [← HO.out]; have L2 := L1.next hb2; clear hb2 a0 a2 a3 a4; obtain ⟨a0, a2, a3, a4⟩ := L2.cells) | (refine wpList_allocR rfl 47 rfl 32 (.int .u8 0) arr32b ?_; go_simp) | (refine wpList_storeMA rfl 47 _ _ rfl _ rfl rfl (u8s ov) rfl 47 _ 32 (.int .u8 0) arr32b hol.out (zrow_length _ _) (u8s_one _) ?_; intro w3 hr5 hb3; have L3 := L2.next hb3; clear hb3 a0 a2 a3 a4; obtain ⟨a0, a2, a3, a4⟩ := L3.cells; go_simp))
    have hS0 : Held w g gs 1 wn n s t rest w2.heap.size ov w3 := ⟨hr5.range, L3.ptr, a3, a4, L3, hr5.lt⟩
    have hconv : ∀ w', w'.rangeAt w2.heap.size 0 (u8s ov) → (convert 49 9 (.slice (some ⟨w2.heap.size, 0, none⟩) 32 32)).run Tryz.prog w' = .ok (.string (strOfNums ov)) w' := fun w' h => run_convR w' _ ov 32 32 (by rw [← u8s_length]; exact hol.out) h
    have HR : Hid (sumSpecRef s.data.toList = ov) := by show _ = _; rw [HO.out, sumSpecRef_eq]
    clear hr5 a0 a2 a3 a4 L1 L2 L3
    go_region_held3 (Held w g gs 1 wn n s t rest w2.heap.size ov) (first | exact Held.next hS0 (Below.refl _ _).drew | exact Held.next (by assumption) hbx) (first | (go_at_call 14; refine (hsum s gs _ ?_ (by omega)).mono ?_; (go_split_ands; exact LawAt.summ (by assumption)); rintro _ wx ⟨rfl, hbx⟩; rw [HR.out]))
    go_wp2
    go_ret
    exact ⟨rfl, (Held.next (Held.next hS0 (Below.refl _ _).drew) hbx).2.2.2.2.1.below⟩
  · have hs' : (400 : Int) < s.size := by omega
    go_enter Tryz.func8, Tryz.ntmps8
    go_wp2_with (first | (refine wpList_boxM rfl 36 _ rfl cs rfl ?_; intro w1 hr hb; have L1 : LawAt w g gs 1 wn n s t rest w1 := ⟨by rw [← HC.out]; exact hr, (hb.cell (p := ⟨g, 0, none⟩) (World.block_lt_of_cell? _ _ hp)).trans hp, hS.below hb (Nat.le_refl _), hG.below hb (Nat.le_refl _), hb, hr.lt⟩; clear hr hb; obtain ⟨a0, a2, a3, a4⟩ := L1.cells; go_simp))
    go_ret
    exact ⟨rfl, L1.below⟩
end Go.Proofs.YtaokemapkgggoaaGreatDoor
