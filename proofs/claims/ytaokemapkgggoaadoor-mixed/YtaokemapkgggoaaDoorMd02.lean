import Derived.Test.YtaokemapkgggoaaDoorMd01
namespace Go.Proofs.YtaokemapkgggoaaDoor
open Go.RowKit

set_option maxRecDepth 100000 in
set_option maxHeartbeats 16000000 in
theorem keep_Mixed_LN (w : World) (c number : Int) (msg : ByteArray) (G : Glob w) (hc0 : -9223372036854775808 ≤ c) (hc1 : c ≤ 9223372036854775807) (hn0 : -9223372036854775808 ≤ number) (hn1 : number ≤ 9223372036854775807) (hm : 200 < msg.size) (hm2 : msg.size ≤ 9223372036854775807) (hneg : number < 0) :
    Calls Tryd.prog 3 #[.int .i64 c, .string msg, .int .i64 number] w fun r w' => r = .returned (.bool true) ∧ Below w.heap.size w w' := by
  obtain ⟨mb, HMB⟩ : ∃ mb, Hid (mb = msg.extract 0 200) := ⟨_, rfl⟩
  have hex : msg.extract 0 200 = mb := HMB.out.symm
  have hmz : mb.size ≤ 200 := by rw [HMB.out, ByteArray.size_extract]; omega
  have hmi : (200 : Int) < msg.size := by omega
  have hmi2 : (200 : Int) ≤ msg.size := by omega
  clear HMB hm
  have hk0 : 0 ≤ (-(number + 1)) := by omega
  have hk1 : (-(number + 1)) ≤ 9223372036854775807 := by omega
  obtain ⟨kl, HKL⟩ : ∃ kl, Hid (kl = keyL6 c) := ⟨_, rfl⟩
  have hkl : 1 ≤ kl.length ∧ kl.length ≤ 20 := by rw [HKL.out]; exact keyL6_len c
  obtain ⟨kb, HKB⟩ : ∃ kb, Hid (kb = str kl) := ⟨_, rfl⟩
  have hkz : kb.size = kl.length := by rw [HKB.out, str_size]
  have hkd : Hid (kb.data.toList = kl) := by show _ = _; rw [HKB.out, str_list]
  have hkey : Hid (∀ W, Calls Tryd.prog 11 #[.int .i64 c] W fun r w' => r = .returned (.string kb) ∧ Below W.heap.size W w') := fun W => by rw [HKB.out, HKL.out]; exact keep_key c W hc0 hc1
  obtain ⟨M1, HM1⟩ : ∃ M1, Hid (M1 = refMask kl 54) := ⟨_, rfl⟩
  obtain ⟨M2, HM2⟩ : ∃ M2, Hid (M2 = refMask kl 92) := ⟨_, rfl⟩
  have HL1 : Hid (M1.length = 64) := by show _ = _; rw [HM1.out, refMask_length]
  have HL2 : Hid (M2.length = 64) := by show _ = _; rw [HM2.out, refMask_length]
  have HS1 : Hid (∀ i, i < 64 → M1.take (i + 1) = M1.take i ++ [xr ((bytesI kl).getD i 0) 54]) := by rw [HM1.out]; exact fun i hi => refMask_snoc _ _ i hi
  have HS2 : Hid (∀ i, i < 64 → M2.take (i + 1) = M2.take i ++ [xr ((bytesI kl).getD i 0) 92]) := by rw [HM2.out]; exact fun i hi => refMask_snoc _ _ i hi
  obtain ⟨iv, HIV⟩ : ∃ iv, Hid (iv = sumSpec K0 H0 0 (toBytes M1 ++ mb.data.toList)) := ⟨_, rfl⟩
  obtain ⟨sv, HSV⟩ : ∃ sv, Hid (sv = sealSpec (blk 20 kl) mb.data.toList) := ⟨_, rfl⟩
  have HSV2 : Hid (sumSpec K0 H0 0 (toBytes M2 ++ toBytes iv) = sv) := by show _ = _; rw [HSV.out, HIV.out, HM1.out, HM2.out]; exact (mix_seal kl hkl.2 _).symm
  have hil : Hid (iv.length = 32) := by show _ = _; rw [HIV.out]; exact sumSpec_length H0 W8_H0 _ _
  have hiu : Hid ((u8s iv).length = 32) := by show _ = _; rw [u8s_length]; exact hil.out
  have hsl : Hid (sv.length = 32) := by show _ = _; rw [HSV.out]; exact sealSpec_length _ _
  have hsu : Hid ((u8s sv).length = 32) := by show _ = _; rw [u8s_length]; exact hsl.out
  have hsb : Hid (∀ x ∈ sv, isB x) := by rw [HSV.out]; exact sealSpec_B _ _
  have hse : Hid (∀ W, Glob W → Calls Tryd.prog 12 #[.string kb, .string mb] W fun r w' => r = .returned (.tuple #[.agg (u8s sv).toArray, .int .i64 0]) ∧ Below W.heap.size W w') := fun W GW => by rw [HSV.out, ← hkd.out]; exact prog_Seal_yes kb mb W GW (by omega) (by omega) (by omega)
  obtain ⟨p1, HP1⟩ : ∃ p1, Hid (p1 = strOfNums M1) := ⟨_, rfl⟩
  obtain ⟨p2, HP2⟩ : ∃ p2, Hid (p2 = strOfNums M2) := ⟨_, rfl⟩
  have z1 : p1.size = 64 := by rw [HP1.out, strOfNums_size, HL1.out]
  have z2 : p2.size = 64 := by rw [HP2.out, strOfNums_size, HL2.out]
  have z3 : (strOfNums iv).size = 32 := by rw [strOfNums_size, hil.out]
  have hsu1 : Hid (∀ W, Glob W → Calls Tryd.prog 13 #[.string (p1 ++ mb)] W fun r w' => r = .returned (.agg (u8s iv).toArray) ∧ Below W.heap.size W w') := fun W GW => by
    have := prog_Sum (p1 ++ mb) W GW (by rw [ByteArray.size_append]; omega)
    rw [ByteArray.data_append, Array.toList_append, str_nums HP1.out, ← HIV.out] at this
    exact this
  have hsu2 : Hid (∀ W, Glob W → Calls Tryd.prog 13 #[.string (p2 ++ strOfNums iv)] W fun r w' => r = .returned (.agg (u8s sv).toArray) ∧ Below W.heap.size W w') := fun W GW => by
    have := prog_Sum (p2 ++ strOfNums iv) W GW (by rw [ByteArray.size_append]; omega)
    rw [ByteArray.data_append, Array.toList_append, str_nums HP2.out, str_nums (rfl : strOfNums iv = _), HSV2.out] at this
    exact this
  have haw := keep_awake w G
  clear HIV HSV HSV2
  go_enter Tryd.func3, Tryd.ntmps3
  go_wp2_with (first | (go_at_call 10; refine haw.mono ?_; rintro _ w1 ⟨rfl, hb1⟩; clear haw) | (go_at_call 11; refine (hkey.out _).mono ?_; rintro _ w2 ⟨rfl, hb2⟩; have B2 := hb1.trans (hb2.mono hb1.size); clear hb1 hb2) | (go_at_call 12; refine (hse.out _ (G.below B2 (Nat.le_refl _))).mono ?_; rintro _ w3 ⟨rfl, hb3⟩; have B3 := B2.trans (hb3.mono B2.size); clear B2 hb3) | (refine wpList_allocR rfl 24 rfl 32 (.int .u8 0) arr32b ?_; go_simp) | (refine wpList_storeMA rfl 24 _ _ rfl w3.heap.size rfl rfl (u8s sv) rfl 24 _ 32 (.int .u8 0) arr32b hsu.out (zrow_length _ _) (u8s_one _) ?_; intro w4 hr4 hb4; have HH : MixW w w4 w3.heap.size sv := ⟨B3.trans (hb4.mono B3.size), hr4⟩; clear B3 hr4 hb4; go_simp))
  go_loopw [11, 12, 13] (fun av ov jv wr => ∃ (i : Nat) (ib ob : ByteArray), i ≤ 64 ∧ jv = .int .i64 i ∧ av = .string ib ∧ ib = strOfNums (M1.take i) ∧ ov = .string ob ∧ ob = strOfNums (M2.take i) ∧ MixW w wr w3.heap.size sv) (fun _ _ jv _ => 64 - (intOf jv).toNat)
  case atStart => exact ⟨0, ⟨#[]⟩, ⟨#[]⟩, by omega, rfl, rfl, rfl, rfl, rfl, HH⟩
  case round =>
    clear HH
    obtain ⟨i, ib, ob, hi64, rfl, rfl, hib, rfl, hob, HH⟩ := hrel
    by_cases hlt : i < 64
    · have q1 : (i : Int) < 64 := by omega
      have q0 : (0 : Int) ≤ i := by omega
      have HT1 : Hid _ := HS1.out i hlt
      have HT2 : Hid _ := HS2.out i hlt
      have HIB : Hid (ib = strOfNums (M1.take i)) := hib
      have HOB : Hid (ob = strOfNums (M2.take i)) := hob
      have hiz : ib.size = i := by rw [hib, strOfNums_size, List.length_take, HL1.out]; omega
      have hoz : ob.size = i := by rw [hob, strOfNums_size, List.length_take, HL2.out]; omega
      clear hib hob
      have hbd := getD_isB (bytesI_B kl) i
      have hx1 : bits .xor .u8 ((bytesI kl).getD i 0) 54 = xr ((bytesI kl).getD i 0) 54 := u8_xor _ 54 hbd.1 hbd.2 (by omega) (by omega)
      have hx2 : bits .xor .u8 ((bytesI kl).getD i 0) 92 = xr ((bytesI kl).getD i 0) 92 := u8_xor _ 92 hbd.1 hbd.2 (by omega) (by omega)
      have hz1 := size1
      have hzi : ib.size + 1 ≤ 9223372036854775807 := by omega
      have hzo : ob.size + 1 ≤ 9223372036854775807 := by omega
      obtain ⟨x, HX⟩ : ∃ x, Hid (x = (bytesI kl).getD i 0) := ⟨_, rfl⟩
      have hki : i < kb.size → ∀ h : i < kb.size, ((kb[i]'h).toNat : Int) = x := fun _ h => by rw [byte_at h, hkd.out, HX.out]
      rw [← HX.out] at hx1 hx2 HT1 HT2
      obtain ⟨y1, HY1⟩ : ∃ y1, Hid (y1 = xr x 54) := ⟨_, rfl⟩
      obtain ⟨y2, HY2⟩ : ∃ y2, Hid (y2 = xr x 92) := ⟨_, rfl⟩
      rw [← HY1.out] at hx1 HT1
      rw [← HY2.out] at hx2 HT2
      have hcv : ∀ (W : World), (convert 28 9 (.slice (some ⟨W.heap.size, 0, none⟩) 1 1)).run Tryd.prog (W.alloc (.cells #[.int .u8 y1] 5)) = .ok (.string (strOfNums [y1])) (W.alloc (.cells #[.int .u8 y1] 5)) := fun W => conv1 W y1 W.heap.size rfl
      have hcv2 : ∀ (W : World) (o : Obj), (convert 28 9 (.slice (some ⟨W.heap.size + 1, 0, none⟩) 1 1)).run Tryd.prog ((W.alloc o).alloc (.cells #[.int .u8 y2] 5)) = .ok (.string (strOfNums [y2])) ((W.alloc o).alloc (.cells #[.int .u8 y2] 5)) := fun W o => conv1 (W.alloc o) y2 (W.heap.size + 1) (World.size_alloc _ _).symm
      have HNX : Hid (MixW w ((wr.alloc (.cells #[.int .u8 y1] 5)).alloc (.cells #[.int .u8 y2] 5)) w3.heap.size sv) := (HH.next ((Below.refl _ _).alloc (Nat.le_refl _) _)).next ((Below.refl _ _).alloc (Nat.le_refl _) _)
      clear hbd
      by_cases hk : i < kb.size
      · have hb := hki hk hk
        have hki2 : (i : Int) < kb.size := by omega
        clear hki hkz HX
        go_wp2
        exact ⟨⟨i + 1, _, _, by omega, by go_num, rfl, by rw [HIB.out, HT1.out, strOfNums_app], rfl, by rw [HOB.out, HT2.out, strOfNums_app], HNX.out⟩, by simp [intOf]; omega⟩
      · have hki2 : ¬ (i : Int) < kb.size := by omega
        have hx0 : x = 0 := by
          rw [HX.out, List.getD_eq_getElem?_getD, List.getElem?_eq_none (by rw [bytesI, List.length_map]; omega)]
          rfl
        clear hki hkz HX
        subst hx0
        go_wp2
        exact ⟨⟨i + 1, _, _, by omega, by go_num, rfl, by rw [HIB.out, HT1.out, strOfNums_app], rfl, by rw [HOB.out, HT2.out, strOfNums_app], HNX.out⟩, by simp [intOf]; omega⟩
    · have hi : i = 64 := by omega
      subst hi
      clear hlt hi64
      have q1 : ¬ (64 : Int) < 64 := by omega
      obtain rfl : ib = p1 := by rw [hib, HP1.out, List.take_of_length_le (by rw [HL1.out]; exact Nat.le_refl _)]
      obtain rfl : ob = p2 := by rw [hob, HP2.out, List.take_of_length_le (by rw [HL2.out]; exact Nat.le_refl _)]
      clear hib hob HS1 HS2
      have hza : ib.size + mb.size ≤ 9223372036854775807 := by omega
      have hzb : ob.size + (strOfNums iv).size ≤ 9223372036854775807 := by omega
      have heq : ∀ W : World, (Op.equalIn 10000 24 (.agg (u8s sv).toArray) (.agg (u8s sv).toArray)).run Tryd.prog W = .ok true W := fun W => equal_32 W hsl.out hsb.out
      have t1 : Hid True := trivial
      have t2 : Hid True := trivial
      have t3 : Hid True := trivial
      go_wp2_with (first | (go_at_call 13; first | (have tk := t1; clear tk t1; refine (hsu1.out _ (HH.glob G)).mono ?_; rintro _ w5 ⟨rfl, hb5⟩; replace HH := HH.next hb5; clear hb5) | (refine (hsu2.out _ (HH.glob G)).mono ?_; rintro _ w7 ⟨rfl, hb7⟩; replace HH := HH.next hb7; clear hb7)) | (refine wpList_allocR rfl 24 rfl 32 (.int .u8 0) arr32b ?_; go_simp) | (refine wpList_storeMA rfl 24 _ _ rfl w5.heap.size rfl rfl (u8s iv) rfl 24 _ 32 (.int .u8 0) arr32b hiu.out (zrow_length _ _) (u8s_one _) ?_; intro w6 hr6 hb6; replace HH := HH.next hb6; have hcv := run_convR w6 w5.heap.size iv 32 32 hil.out hr6.range; clear hb6 hr6; go_simp) | (refine wpList_storeMA rfl 24 _ _ rfl w7.heap.size rfl rfl (u8s sv) rfl 24 _ 32 (.int .u8 0) arr32b hsu.out (zrow_length _ _) (u8s_one _) ?_; intro w8 hr8 hb8; replace HH := HH.next hb8; clear hb8; go_simp) | (have tk := t2; clear tk t2; refine wpList_loadRG (by rfl) 24 _ rfl w3.heap.size rfl 24 (u8s sv) 32 (.int .u8 0) HH.row arr32b hsu.out ?_; go_simp) | (have tk := t3; clear tk t3; refine wpList_loadRG (by rfl) 24 _ rfl w7.heap.size rfl 24 (u8s sv) 32 (.int .u8 0) hr8 arr32b hsu.out ?_; go_simp))
      clear heq
      have B8 : Below w.heap.size w w8 := HH.base
      clear HH hr8
      obtain ⟨e8, HE8⟩ : ∃ e8, Hid (e8 = strOfNums (eightL (-(number + 1)) 8)) := ⟨_, rfl⟩
      have hez : e8.size = 8 := by rw [HE8.out, strOfNums_size, eightL_length]
      go_loopw [18, 19, 20] (fun ev xv jv wr => ∃ i : Nat, i ≤ 8 ∧ jv = .int .i64 i ∧ xv = .int .i64 ((-(number + 1)) / 256 ^ i) ∧ ev = .string (strOfNums (eightL (-(number + 1)) i)) ∧ Below w.heap.size w wr) (fun _ _ jv _ => 8 - (intOf jv).toNat)
      case atStart => exact ⟨0, by omega, rfl, by simp, rfl, B8⟩
      case round =>
        clear B8
        obtain ⟨i, hi8, rfl, rfl, rfl, HB⟩ := hrel
        by_cases hlt : i < 8
        · have q5 : (i : Int) < 8 := by omega
          have HQ : Hid _ := div256 (-(number + 1)) i
          have HST : Hid _ := eight_step (-(number + 1)) i
          have hq0 : 0 ≤ (-(number + 1)) / 256 ^ i := eight_le _ _ (by omega)
          have hq1 : (-(number + 1)) / 256 ^ i ≤ (-(number + 1)) := Int.ediv_le_self _ (by omega)
          have hq2 : (-(number + 1)) / 256 ^ i ≤ 9223372036854775807 := by omega
          clear hq1
          obtain ⟨es, HES⟩ : ∃ es, Hid (es = strOfNums (eightL (-(number + 1)) i)) := ⟨_, rfl⟩
          have hes : es.size = i := by rw [HES.out, strOfNums_size, eightL_length]
          rw [← HES.out]
          rw [← HES.out] at HST
          generalize (-(number + 1)) / 256 ^ i = q at *
          have hqm : q.tmod 256 = q % 256 := Int.tmod_eq_emod_of_nonneg hq0
          have hqd : q.tdiv 256 = q / 256 := Int.tdiv_eq_ediv_of_nonneg hq0
          have hqq : q % 256 % 256 = q % 256 := by omega
          have hw8 : ∀ x : Int, IntKind.u8.wrap x = x % 256 := u8_wrap
          have hcv2 : ∀ (W : World), (convert 28 9 (.slice (some ⟨W.heap.size, 0, none⟩) 1 1)).run Tryd.prog (W.alloc (.cells #[.int .u8 (q % 256)] 5)) = .ok (.string (strOfNums [q % 256])) (W.alloc (.cells #[.int .u8 (q % 256)] 5)) := fun W => conv1 W (q % 256) W.heap.size rfl
          have hz1 := size1
          have hz2 : 1 + es.size ≤ 9223372036854775807 := by omega
          go_wp2
          exact ⟨⟨i + 1, by omega, by go_num, by rw [HQ.out], by rw [HST.out], HB.alloc HB.size _⟩, by simp [intOf]; omega⟩
        · have hi : i = 8 := by omega
          subst hi
          clear hlt hi8
          have q5 : ¬ (8 : Int) < 8 := by omega
          rw [← HE8.out]
          generalize (-(number + 1)) / 256 ^ 8 = qq at *
          obtain ⟨tv, HTV⟩ : ∃ tv, Hid (tv = sealSpec (blk 20 kl) (toBytes (eightL (-(number + 1)) 8))) := ⟨_, rfl⟩
          obtain ⟨X, HXX⟩ : ∃ X, Hid (X = refWord tv) := ⟨_, rfl⟩
          obtain ⟨cv, HCV⟩ : ∃ cv, Hid (cv = digL X 6) := ⟨_, rfl⟩
          have htl : Hid (tv.length = 32) := by show _ = _; rw [HTV.out]; exact sealSpec_length _ _
          have htu : Hid ((u8s tv).length = 32) := by show _ = _; rw [u8s_length]; exact htl.out
          have htb : ∀ x ∈ tv, isB x := by rw [HTV.out]; exact sealSpec_B _ _
          have hse2 : Hid (∀ W, Glob W → Calls Tryd.prog 12 #[.string kb, .string e8] W fun r w' => r = .returned (.tuple #[.agg (u8s tv).toArray, .int .i64 0]) ∧ Below W.heap.size W w') := fun W GW => by
            have := prog_Seal_yes kb e8 W GW (by omega) (by omega) (by omega)
            rw [hkd.out, str_nums HE8.out, ← HTV.out] at this
            exact this
          have hco : Hid (∀ W, Glob W → Calls Tryd.prog 14 #[.string kb, .int .i64 (-(number + 1))] W fun r w' => r = .returned (.tuple #[.string (strOfNums cv), .int .i64 0]) ∧ Below W.heap.size W w') := fun W GW => by
            have := prog_Code_yes kb ((-(number + 1))) W GW (by omega) (by omega) (by omega) (by omega)
            rw [hkd.out, mix_code kl hkl.2, ← HTV.out, ← HXX.out, ← HCV.out] at this
            exact this
          have hX := HXX.out
          unfold refWord at hX
          obtain ⟨b0, b1⟩ := getD_isB htb 31
          obtain ⟨p, HP⟩ : ∃ p : Nat, Hid ((p : Int) = tv.getD 31 0 % 16) := ⟨(tv.getD 31 0 % 16).toNat, by show _ = _; omega⟩
          have hp : p < 16 := by have := HP.out; omega
          rw [← HP.out, Int.toNat_natCast] at hX
          obtain ⟨c00, c01⟩ := getD_isB htb p
          obtain ⟨c10, c11⟩ := getD_isB htb (p + 1)
          obtain ⟨c20, c21⟩ := getD_isB htb (p + 2)
          obtain ⟨c30, c31⟩ := getD_isB htb (p + 3)
          have HCE : Hid (∀ W b, Row W b (u8s tv) 24 → ∀ j, j < 32 → W.cell? ⟨b, j, none⟩ = some (.int .u8 (tv.getD j 0))) := fun W b h j hj => by rw [h.cell, u8s_get _ _ (by rw [htl.out]; exact hj)]
          obtain ⟨y, HY⟩ : ∃ y, Hid (y = tv.getD 31 0) := ⟨_, rfl⟩
          obtain ⟨y0, HYY0⟩ : ∃ y0, Hid (y0 = tv.getD p 0) := ⟨_, rfl⟩
          obtain ⟨y1, HYY1⟩ : ∃ y1, Hid (y1 = tv.getD (p + 1) 0) := ⟨_, rfl⟩
          obtain ⟨y2, HYY2⟩ : ∃ y2, Hid (y2 = tv.getD (p + 2) 0) := ⟨_, rfl⟩
          obtain ⟨y3, HYY3⟩ : ∃ y3, Hid (y3 = tv.getD (p + 3) 0) := ⟨_, rfl⟩
          rw [← HY.out] at b0 b1 HP
          rw [← HYY0.out] at c00 c01 hX
          rw [← HYY1.out] at c10 c11 hX
          rw [← HYY2.out] at c20 c21 hX
          rw [← HYY3.out] at c30 c31 hX
          have hX0 : 0 ≤ X := by rw [hX]; unfold word4; omega
          have hX1 : X < 2147483648 := by rw [hX]; unfold word4; omega
          have HX' : Hid (X = word4 (y0 % 128) y1 y2 y3) := hX
          clear hX HXX
          have t0 : y.tmod 16 = p := by rw [Int.tmod_eq_emod_of_nonneg b0, HP.out]
          have t0b : y % 16 = p := HP.out.symm
          have tt1 : y0.tmod 128 = y0 % 128 := Int.tmod_eq_emod_of_nonneg c00
          have hp' : (p : Int) < 16 := by omega
          have n0 : (p : Int).toNat = p := by omega
          have n1 : ((p : Int) + 1).toNat = p + 1 := by omega
          have n2 : ((p : Int) + 2).toNat = p + 2 := by omega
          have n3 : ((p : Int) + 3).toNat = p + 3 := by omega
          have m0 : (p : Int) < 32 := by omega
          have m1 : (p : Int) + 1 < 32 := by omega
          have m2 : (p : Int) + 2 < 32 := by omega
          have m3 : (p : Int) + 3 < 32 := by omega
          have l0 : (0 : Int) ≤ p := by omega
          have l1 : (0 : Int) ≤ p + 1 := by omega
          have l2 : (0 : Int) ≤ p + 2 := by omega
          have l3 : (0 : Int) ≤ p + 3 := by omega
          have wa0 := wrap_id (p : Int) (by omega) (by omega)
          have wa1 := wrap_id ((p : Int) + 1) (by omega) (by omega)
          have wa2 := wrap_id ((p : Int) + 2) (by omega) (by omega)
          have wa3 := wrap_id ((p : Int) + 3) (by omega) (by omega)
          have v0 := wrap_id (y0 % 128) (by omega) (by omega)
          have v1 := wrap_id y1 (by omega) (by omega)
          have v2 := wrap_id y2 (by omega) (by omega)
          have v3 := wrap_id y3 (by omega) (by omega)
          have j4 := wrap_id ((y0 % 128) * 256) (by omega) (by omega)
          have j5 := wrap_id ((y0 % 128) * 256 + y1) (by omega) (by omega)
          have j6 := wrap_id (((y0 % 128) * 256 + y1) * 256) (by omega) (by omega)
          have j7 := wrap_id (((y0 % 128) * 256 + y1) * 256 + y2) (by omega) (by omega)
          have j8 := wrap_id ((((y0 % 128) * 256 + y1) * 256 + y2) * 256) (by omega) (by omega)
          have j9 := wrap_id ((((y0 % 128) * 256 + y1) * 256 + y2) * 256 + y3) (by omega) (by omega)
          go_wp2_with (first | (go_at_call 12; refine (hse2.out _ (G.below HB (Nat.le_refl _))).mono ?_; rintro _ w9 ⟨rfl, hb9⟩; have B9 := HB.trans (hb9.mono HB.size); clear HB hb9) | (refine wpList_allocR rfl 24 rfl 32 (.int .u8 0) arr32b ?_; go_simp) | (refine wpList_storeMA rfl 24 _ _ rfl w9.heap.size rfl rfl (u8s tv) rfl 24 _ 32 (.int .u8 0) arr32b htu.out (zrow_length _ _) (u8s_one _) ?_; intro wa hra hba; have Ba := B9.trans (hba.mono B9.size); clear B9 hba; go_simp) | (go_at_call 14; refine (hco.out _ (G.below Ba (Nat.le_refl _))).mono ?_; rintro _ wb ⟨rfl, hbb⟩; have HB := Ba.trans (hbb.mono Ba.size); have hrb := hra.below hbb hra.lt; clear Ba hra hbb; have a31 := HCE.out _ _ hrb 31 (by omega); have e0 := HCE.out _ _ hrb p (by omega); have e1 := HCE.out _ _ hrb (p + 1) (by omega); have e2 := HCE.out _ _ hrb (p + 2) (by omega); have e3 := HCE.out _ _ hrb (p + 3) (by omega); rw [← HY.out] at a31; rw [← HYY0.out] at e0; rw [← HYY1.out] at e1; rw [← HYY2.out] at e2; rw [← HYY3.out] at e3; clear hrb))
          go_quiet (fail)
          rw [show (((y0 % 128) * 256 + y1) * 256 + y2) * 256 + y3 = X from HX'.out.symm]
          clear a31 e0 e1 e2 e3 t0 t0b tt1 n0 n1 n2 n3 wa0 wa1 wa2 wa3 v0 v1 v2 v3 j4 j5 j6 j7 j8 j9 m0 m1 m2 m3 l0 l1 l2 l3 b0 b1 c00 c01 c10 c11 c20 c21 c30 c31
          have hB1 : Below w.heap.size w (wb.drewN nq) := below_drewN HB _
          generalize wb.drewN nq = wy at *
          clear HB
          go_wp2
          go_loopw [26, 27, 28] (fun xv ov jv wr => ∃ i : Nat, i ≤ 6 ∧ jv = .int .i64 i ∧ xv = .int .i64 (X / 10 ^ i) ∧ ov = .string (strOfNums (digL X i)) ∧ Below w.heap.size w wr) (fun _ _ jv _ => 6 - (intOf jv).toNat)
          case atStart => exact ⟨0, by omega, rfl, by simp, rfl, hB1⟩
          case round =>
            obtain ⟨i, hi, rfl, rfl, rfl, hB⟩ := hrel
            by_cases hlt : i < 6
            · have hq0 : 0 ≤ X / 10 ^ i := Int.ediv_nonneg hX0 (Int.pow_nonneg (by omega))
              have hq1 : X / 10 ^ i ≤ X := Int.ediv_le_self _ hX0
              have HDV : Hid _ := div10 X i
              have HEE : Hid (digL X (i + 1) = (48 + X / 10 ^ i % 10) :: digL X i) := rfl
              obtain ⟨dl, HDl⟩ : ∃ dl, Hid (dl = digL X i) := ⟨_, rfl⟩
              rw [← HDl.out] at HEE
              rw [← HDl.out]
              generalize X / 10 ^ i = q at *
              have s1 : q.tmod 10 = q % 10 := Int.tmod_eq_emod_of_nonneg hq0
              have s2 : q.tdiv 10 = q / 10 := Int.tdiv_eq_ediv_of_nonneg hq0
              have zz2 : (strOfNums dl).size = i := by rw [strOfNums_size, HDl.out, digL_length]
              have d0 : 0 ≤ q % 10 := by omega
              have d1 : q % 10 < 10 := by omega
              have d2 : q % 10 + 1 ≤ 10 := by omega
              have d3 : 0 ≤ q % 10 + 1 := by omega
              go_wp2
              refine ⟨⟨i + 1, by omega, by go_num, by rw [HDV.out], ?_, hB⟩, by simp [intOf]; omega⟩
              rw [HEE.out, dig_str d0 d1]
            · have hi6 : i = 6 := by omega
              have e6 : Hid (digL X i = cv) := by show _ = _; rw [hi6, HCV.out]
              rw [e6.out]
              have q7 : ¬ (i : Int) < 6 := by omega
              clear hi6
              go_wp2
              go_ret
              exact ⟨rfl, hB⟩

end Go.Proofs.YtaokemapkgggoaaDoor
