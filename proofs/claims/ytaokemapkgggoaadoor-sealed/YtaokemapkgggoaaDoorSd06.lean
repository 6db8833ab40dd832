import Derived.Test.YtaokemapkgggoaaDoorSd02
namespace Go.Proofs.YtaokemapkgggoaaDoor
open Go.RowKit

set_option maxRecDepth 100000 in
set_option maxHeartbeats 8000000 in
theorem keep_Sealed_SP (w : World) (c slot number : Int) (ko : Option Addr) (kl kc : Nat) (msg : ByteArray) (G : Glob w) (hc0 : -9223372036854775808 ≤ c) (hc1 : c ≤ 9223372036854775807) (hs0 : -9223372036854775808 ≤ slot) (hs1 : slot ≤ 9223372036854775807) (hn0 : -9223372036854775808 ≤ number) (hn1 : number ≤ 9223372036854775807) (hK : IntsAt w ko kl) (hkl : kl < 9223372036854775808) (hm : ¬ 47 < msg.size) (hm2 : msg.size ≤ 9223372036854775807) (hneg : ¬ number < 0) :
    Calls Tryd.prog 5 #[.int .i64 c, .slice ko kl kc, .int .i64 slot, .string msg, .int .i64 number] w fun r w' => r = .returned (.bool true) ∧ Below w.heap.size w w' := by
  have hfine := keep_fine w c ko kl kc G hc0 hc1 hK hkl
  obtain ⟨n, HN⟩ : ∃ n, Hid (n = pickN slot 4) := ⟨_, rfl⟩
  have hn4 : n < 4 := by rw [HN.out]; exact pickN_lt _ (by omega)
  have hpick : Hid (∀ W, Calls Tryd.prog 20 #[.int .i64 slot, .int .i64 4] W fun r w' => r = .returned (.int .i64 n) ∧ w' = W) := fun W => by rw [HN.out]; exact keep_pick _ 4 W hs0 hs1 (by omega) (by omega)
  have hn5 : (n : Int) < 4 := by omega
  have hn6 : (0 : Int) ≤ n := by omega
  have hn8 : (n : Int) % 256 = n := by omega
  have hnn : (n : Int).toNat = n := by omega
  have hw8 : ∀ x : Int, IntKind.u8.wrap x = x % 256 := u8_wrap
  have hcv : ∀ (W : World), (convert 28 9 (.slice (some ⟨W.heap.size, 0, none⟩) 1 1)).run Tryd.prog (W.alloc (.cells #[.int .u8 (n : Int)] 5)) = .ok (.string (strOfNums [(n : Int)])) (W.alloc (.cells #[.int .u8 (n : Int)] 5)) := fun W => conv1 W n W.heap.size rfl
  obtain ⟨mb, HMB⟩ : ∃ mb, Hid (mb = msg) := ⟨_, rfl⟩
  rw [← HMB.out] at hm hm2 ⊢
  have hmz : mb.size ≤ 47 := by omega
  have hmi : ¬ (47 : Int) < mb.size := by omega
  clear hK HMB hm
  obtain ⟨kn, HKN⟩ : ∃ kn : Int, Hid (kn = number) := ⟨_, rfl⟩
  have hk0 : 0 ≤ kn := by rw [HKN.out]; omega
  have hk1 : kn ≤ 9223372036854775807 := by rw [HKN.out]; omega
  go_enter Tryd.func5, Tryd.ntmps5
  go_wp2_with (first | (go_at_call 22; refine hfine.mono ?_; rintro _ w1 ⟨g, d, ss, rfl, F, K⟩; clear hfine; have HL4 : Hid ((strs ss).length = 4) := (by show _ = _; rw [strs_length]; exact F.len)) | (refine wpList_allocR rfl 45 rfl 4 (.string ⟨#[]⟩) arr4s ?_; go_simp) | (refine wpList_storeMA rfl 45 _ _ rfl w1.heap.size rfl rfl (strs ss) rfl 45 _ 4 (.string ⟨#[]⟩) arr4s HL4.out (zrow_length _ _) (strs_one _) ?_; intro w2 hr2 hb2; have HH := HoldAt.made K hr2 hb2; clear K hr2 hb2; go_simp) | (go_at_call 20; refine (hpick.out _).mono ?_; rintro _ wk ⟨rfl, ek⟩; rw [ek]; clear ek wk))
  replace HH := HH.next ((Below.refl _ _).alloc (Nat.le_refl _) (.cells #[.int .u8 (n : Int)] 5))
  obtain ⟨hb, HHB⟩ : ∃ hb, Hid (hb = w1.heap.size) := ⟨_, rfl⟩
  go_loopw [15, 17, 18] (fun ev xv iv wr => ∃ i : Nat, i ≤ 8 ∧ iv = .int .i64 i ∧ xv = .int .i64 (number / 256 ^ i) ∧ ev = .string (strOfNums (eightL number i)) ∧ HoldAt w wr g d w1.heap.size ss) (fun _ _ iv _ => 8 - (intOf iv).toNat)
  case atStart => exact ⟨0, by omega, rfl, by simp, rfl, HH⟩
  case round =>
    clear HH
    obtain ⟨i, hi8, rfl, rfl, rfl, HH⟩ := hrel
    by_cases hlt : i < 8
    · have q1 : (i : Int) < 8 := by omega
      have HQ : Hid _ := div256 number i
      have HST : Hid _ := eight_step number i
      have hq0 : 0 ≤ number / 256 ^ i := eight_le _ _ (by omega)
      have hq1 : number / 256 ^ i ≤ number := Int.ediv_le_self _ (by omega)
      have hq2 : number / 256 ^ i ≤ 9223372036854775807 := by omega
      clear hq1
      obtain ⟨es, HES⟩ : ∃ es, Hid (es = strOfNums (eightL number i)) := ⟨_, rfl⟩
      have hez : es.size = i := by rw [HES.out, strOfNums_size, eightL_length]
      rw [← HES.out]
      rw [← HES.out] at HST
      generalize number / 256 ^ i = q at *
      have hqm : q.tmod 256 = q % 256 := Int.tmod_eq_emod_of_nonneg hq0
      have hqd : q.tdiv 256 = q / 256 := Int.tdiv_eq_ediv_of_nonneg hq0
      have hqq : q % 256 % 256 = q % 256 := by omega
      have hcv2 : ∀ (W : World), (convert 28 9 (.slice (some ⟨W.heap.size, 0, none⟩) 1 1)).run Tryd.prog (W.alloc (.cells #[.int .u8 (q % 256)] 5)) = .ok (.string (strOfNums [q % 256])) (W.alloc (.cells #[.int .u8 (q % 256)] 5)) := fun W => conv1 W (q % 256) W.heap.size rfl
      have hz1 := size1
      have hz2 : 1 + es.size ≤ 9223372036854775807 := by omega
      go_wp2
      exact ⟨⟨i + 1, by omega, by go_num, by rw [HQ.out], by rw [HST.out], HH.next ((Below.refl _ _).alloc (Nat.le_refl _) _)⟩, by simp [intOf]; omega⟩
    · have hi : i = 8 := by omega
      subst hi
      clear hlt hi8
      have q1 : ¬ (8 : Int) < 8 := by omega
      obtain ⟨e8, HE8⟩ : ∃ e8, Hid (e8 = strOfNums (eightL number 8)) := ⟨_, rfl⟩
      have hez : e8.size = 8 := by rw [HE8.out, strOfNums_size, eightL_length]
      have HE8k : Hid (e8 = str (toBytes (eightL kn 8))) := by show _ = _; rw [HE8.out, HKN.out]; rfl
      rw [← HE8.out]
      generalize number / 256 ^ 8 = q at *
      have hz1 := size1
      have hz2 : 1 + mb.size ≤ 9223372036854775807 := by omega
      have hz3 : 1 + e8.size ≤ 9223372036854775807 := by omega
      have hsn : d.sound := HH.kd.ok
      have hkz := F.key_le hsn n hn4
      obtain ⟨f4, HF4⟩ : ∃ f4, Hid (f4 = str (told 4 (UInt8.ofNat n :: mb.data.toList))) := ⟨_, rfl⟩
      obtain ⟨f5, HF5⟩ : ∃ f5, Hid (f5 = str (told 5 (UInt8.ofNat n :: toBytes (eightL kn 8)))) := ⟨_, rfl⟩
      obtain ⟨a0, HA0⟩ : ∃ a0, Hid (a0 = str (told 0 [])) := ⟨_, rfl⟩
      obtain ⟨a2, HA2⟩ : ∃ a2, Hid (a2 = str (told 2 [])) := ⟨_, rfl⟩
      have hx4 : (UInt8.ofNat n).toNat = n := by simp; omega
      have hml : mb.data.toList.length ≤ 47 := by rw [Array.length_toList]; exact hmz
      have hel : (toBytes (eightL kn 8)).length = 8 := by rw [toBytes_length, eightL_length]
      have hfr4 : Hid (∀ W, Calls Tryd.prog 16 #[.int .i64 4, .string (strOfNums [(n : Int)] ++ mb)] W fun r w' => r = .returned (.string f4) ∧ Below W.heap.size W w') := fun W => frame_is 4 _ (UInt8.ofNat n :: mb.data.toList) (one_str n _ _ (list_str mb).symm) W (by omega) (by omega) (by simp only [List.length_cons]; omega) f4 HF4.out
      have hfr5 : Hid (∀ W, Calls Tryd.prog 16 #[.int .i64 5, .string (strOfNums [(n : Int)] ++ e8)] W fun r w' => r = .returned (.string f5) ∧ Below W.heap.size W w') := fun W => frame_is 5 _ (UInt8.ofNat n :: toBytes (eightL kn 8)) (one_str n _ _ HE8k.out) W (by omega) (by omega) (by simp only [List.length_cons]; omega) f5 HF5.out
      have hfr2 : Hid (∀ W, Calls Tryd.prog 16 #[.int .i64 2, .string ⟨#[]⟩] W fun r w' => r = .returned (.string a2) ∧ Below W.heap.size W w') := fun W => frame_is 2 _ [] rfl W (by omega) (by omega) (by decide) a2 HA2.out
      have hfr0 : Hid (∀ W, Calls Tryd.prog 16 #[.int .i64 0, .string ⟨#[]⟩] W fun r w' => r = .returned (.string a0) ∧ Below W.heap.size W w') := fun W => frame_is 0 _ [] rfl W (by omega) (by omega) (by decide) a0 HA0.out
      have hl4 : (told 4 (UInt8.ofNat n :: mb.data.toList)).length < 1900000 := by rw [told_len, List.length_cons]; omega
      have hl5 : (told 5 (UInt8.ofNat n :: toBytes (eightL kn 8))).length < 1900000 := by rw [told_len, List.length_cons]; omega
      have hfd2 : Hid (∀ W, KdAt w W g d → Calls Tryd.prog 19 #[.pointer (some ⟨g, 0, none⟩), .string a2] W fun r w' => r = .returned (.string a0) ∧ KdAt w w' g d.lock ∧ W.grownBy w' (some g)) := fun W K => by rw [HA0.out]; exact keep_fed G K (fed_lock F.up) (by rw [told_len]; decide) _ HA2.out
      have hfd4b : Hid (∀ W, KdAt w W g d.lock → Calls Tryd.prog 19 #[.pointer (some ⟨g, 0, none⟩), .string f4] W fun r w' => r = .returned (.string a2) ∧ KdAt w w' g d.lock ∧ W.grownBy w' (some g)) := fun W K => by rw [HA2.out]; exact keep_fed G K (fed_shut F.up.lock rfl 4 (.inl rfl) _ (by rw [List.length_cons]; omega)) hl4 _ HF4.out
      have hfd5b : Hid (∀ W, KdAt w W g d.lock → Calls Tryd.prog 19 #[.pointer (some ⟨g, 0, none⟩), .string f5] W fun r w' => r = .returned (.string a2) ∧ KdAt w w' g d.lock ∧ W.grownBy w' (some g)) := fun W K => by rw [HA2.out]; exact keep_fed G K (fed_shut F.up.lock rfl 5 (.inr rfl) _ (by rw [List.length_cons]; omega)) hl5 _ HF5.out
      obtain ⟨E, HE⟩ : ∃ E, Hid (E = d.lock) := ⟨_, rfl⟩
      rw [← HE.out] at hfd2 hfd4b hfd5b
      have HKF : Hid (d.k.key n = ss.getD n ⟨#[]⟩) := F.key n hn4
      have HL : Hid (n < ss.length) := by rw [F.len]; exact hn4
      have t1 : Hid True := trivial
      have t2 : Hid True := trivial
      have t3 : Hid True := trivial
      have t4 : Hid True := trivial
      have t5 : Hid True := trivial
      have t6 : Hid True := trivial
      have t7 : Hid True := trivial
      have t8 : Hid True := trivial
      have t9 : Hid True := trivial
      have t10 : Hid True := trivial
      have s1 : Hid True := trivial
      have s2 : Hid True := trivial
      have s3 : Hid True := trivial
      have s4 : Hid True := trivial
      have s5 : Hid True := trivial
      by_cases hz : (ss.getD n ⟨#[]⟩).size = 0
      · have hd4 : fed d (told 4 (UInt8.ofNat n :: mb.data.toList)) = (told 5 [], d) := fed_none4 F.up F.unl _ (by rw [hx4]; exact hn4) _ hml (by rw [hx4, HKF.out]; exact hz)
        have hd5 : fed d (told 5 (UInt8.ofNat n :: toBytes (eightL kn 8))) = (told 5 [], d) := fed_none5 F.up F.unl _ (by rw [hx4]; exact hn4) _ hel (by rw [hx4, HKF.out]; exact hz)
        obtain ⟨a5, HA5⟩ : ∃ a5, Hid (a5 = str (told 5 [])) := ⟨_, rfl⟩
        have hfrX : Hid (∀ W, Calls Tryd.prog 16 #[.int .i64 5, .string ⟨#[]⟩] W fun r w' => r = .returned (.string a5) ∧ Below W.heap.size W w') := fun W => frame_is 5 _ [] rfl W (by omega) (by omega) (by decide) a5 HA5.out
        have hfd4 : Hid (∀ W, KdAt w W g d → Calls Tryd.prog 19 #[.pointer (some ⟨g, 0, none⟩), .string f4] W fun r w' => r = .returned (.string a5) ∧ KdAt w w' g d ∧ W.grownBy w' (some g)) := fun W K => by rw [HA5.out]; exact keep_fed G K hd4 hl4 _ HF4.out
        have hfd5 : Hid (∀ W, KdAt w W g d → Calls Tryd.prog 19 #[.pointer (some ⟨g, 0, none⟩), .string f5] W fun r w' => r = .returned (.string a5) ∧ KdAt w w' g d ∧ W.grownBy w' (some g)) := fun W K => by rw [HA5.out]; exact keep_fed G K hd5 hl5 _ HF5.out
        have HKE : Hid (ss.getD n ⟨#[]⟩ = ⟨#[]⟩) := empty_ba hz
        have hse : Hid (∀ W, Calls Tryd.prog 12 #[.string ⟨#[]⟩, .string mb] W fun r w' => r = .returned (.tuple #[.agg (zrow 32 (.int .u8 0)).toArray, .int .i64 3]) ∧ Below W.heap.size W w') := fun W => prog_Seal_no ⟨#[]⟩ mb W (by decide)
        have hco : Hid (∀ W, Calls Tryd.prog 14 #[.string ⟨#[]⟩, .int .i64 number] W fun r w' => r = .returned (.tuple #[.string ⟨#[]⟩, .int .i64 3]) ∧ Below W.heap.size W w') := fun W => prog_Code_no ⟨#[]⟩ _ W (by decide)
        clear F HN hd4 hd5 hz hkz hml hel hx4 hl4 hl5 hpick hsn
        go_wp2_with (first | (go_at_call 16; first | (have tk := t1; clear tk t1; refine (hfr4.out _).mono ?_; rintro _ wf ⟨rfl, hbf⟩; replace HH := HH.next hbf; clear hbf) | (have tk := t2; clear tk t2; refine (hfr5.out _).mono ?_; rintro _ wf ⟨rfl, hbf⟩; replace HH := HH.next hbf; clear hbf) | (have tk := t3; clear tk t3; refine (hfrX.out _).mono ?_; rintro _ wf ⟨rfl, hbf⟩; replace HH := HH.next hbf; clear hbf) | (have tk := t4; clear tk t4; refine (hfrX.out _).mono ?_; rintro _ wf ⟨rfl, hbf⟩; replace HH := HH.next hbf; clear hbf) | (have tk := t5; clear tk t5; refine (hfr2.out _).mono ?_; rintro _ wf ⟨rfl, hbf⟩; replace HH := HH.next hbf; clear hbf) | (have tk := t6; clear tk t6; refine (hfr4.out _).mono ?_; rintro _ wf ⟨rfl, hbf⟩; replace HH := HH.next hbf; clear hbf) | (have tk := t7; clear tk t7; refine (hfr5.out _).mono ?_; rintro _ wf ⟨rfl, hbf⟩; replace HH := HH.next hbf; clear hbf) | (have tk := t8; clear tk t8; refine (hfr0.out _).mono ?_; rintro _ wf ⟨rfl, hbf⟩; replace HH := HH.next hbf; clear hbf) | (have tk := t9; clear tk t9; refine (hfr2.out _).mono ?_; rintro _ wf ⟨rfl, hbf⟩; replace HH := HH.next hbf; clear hbf) | (have tk := t10; clear tk t10; refine (hfr2.out _).mono ?_; rintro _ wf ⟨rfl, hbf⟩; replace HH := HH.next hbf; clear hbf)) | (go_at_call 19; first | (have tk := s1; clear tk s1; refine (hfd4.out _ HH.kd).mono ?_; rintro _ wd ⟨rfl, Kd, hgd⟩; replace HH := HH.feed Kd hgd; clear Kd hgd) | (have tk := s2; clear tk s2; refine (hfd5.out _ HH.kd).mono ?_; rintro _ wd ⟨rfl, Kd, hgd⟩; replace HH := HH.feed Kd hgd; clear Kd hgd; have c4 := HH.cell n HL.out; rw [HKE.out] at c4) | (have tk := s3; clear tk s3; refine (hfd2.out _ HH.kd).mono ?_; rintro _ wd ⟨rfl, Kd, hgd⟩; replace HH := HH.feed Kd hgd; clear Kd hgd) | (have tk := s4; clear tk s4; refine (hfd4b.out _ HH.kd).mono ?_; rintro _ wd ⟨rfl, Kd, hgd⟩; replace HH := HH.feed Kd hgd; clear Kd hgd) | (have tk := s5; clear tk s5; refine (hfd5b.out _ HH.kd).mono ?_; rintro _ wd ⟨rfl, Kd, hgd⟩; replace HH := HH.feed Kd hgd; clear Kd hgd)) | (go_at_call 12; refine (hse.out _).mono ?_; rintro _ we ⟨rfl, hbe⟩; replace HH := HH.next hbe; clear hbe) | (refine wpList_allocR rfl 24 rfl 32 (.int .u8 0) arr32b ?_; go_simp) | (refine wpList_storeMA rfl 24 _ _ rfl we.heap.size rfl rfl (zrow 32 (.int .u8 0)) rfl 24 _ 32 (.int .u8 0) arr32b (zrow_length _ _) (zrow_length _ _) (by rw [zrow_u8]; exact u8s_one _) ?_; intro ws hrs hbs; replace HH := HH.next hbs; clear hbs hrs; have c4 := HH.cell n HL.out; rw [HKE.out] at c4; go_simp) | (go_at_call 14; refine (hco.out _).mono ?_; rintro _ wc ⟨rfl, hbc⟩; replace HH := HH.next hbc; clear hbc; have c4 := HH.cell n HL.out; rw [HKE.out] at c4))
        go_ret
        exact ⟨rfl, HH.kd.base⟩
      · obtain ⟨kb, HKB⟩ : ∃ kb, Hid (kb = ss.getD n ⟨#[]⟩) := ⟨_, rfl⟩
        obtain ⟨sv, HSV⟩ : ∃ sv, Hid (sv = sealSpec (blk 20 kb.data.toList) mb.data.toList) := ⟨_, rfl⟩
        obtain ⟨cv, HCV⟩ : ∃ cv, Hid (cv = codeSpec (blk 20 kb.data.toList) kn) := ⟨_, rfl⟩
        have hsl : Hid (sv.length = 32) := by show _ = _; rw [HSV.out]; exact sealSpec_length _ _
        have hsu : Hid ((u8s sv).length = 32) := by show _ = _; rw [u8s_length]; exact hsl.out
        have hcl : Hid (cv.length = 6) := by show _ = _; rw [HCV.out, ← refCode_eq (k := kb.data.toList) (by rw [Array.length_toList, HKB.out]; exact hkz), digL_length]
        have hcz : (strOfNums cv).size = 6 := by rw [strOfNums_size]; exact hcl.out
        have hd4 : fed d (told 4 (UInt8.ofNat n :: mb.data.toList)) = (told 0 (toBytes sv), d) := by
          have := fed_seal F.up F.unl (UInt8.ofNat n) (by rw [hx4]; exact hn4) mb.data.toList hml (by rw [hx4, HKF.out]; exact hz) (by rw [hx4, HKF.out]; exact hkz)
          rw [hx4, HKF.out, ← HKB.out, ← HSV.out] at this
          exact this
        have hd5 : fed d (told 5 (UInt8.ofNat n :: toBytes (eightL kn 8))) = (told 0 (toBytes cv), d) := by
          have := fed_code F.up F.unl (UInt8.ofNat n) (by rw [hx4]; exact hn4) kn (by rw [hx4, HKF.out]; exact hz) (by rw [hx4, HKF.out]; exact hkz)
          rw [hx4, HKF.out, ← HKB.out, ← HCV.out] at this
          exact this
        obtain ⟨aS, HAS⟩ : ∃ aS, Hid (aS = str (told 0 (toBytes sv))) := ⟨_, rfl⟩
        obtain ⟨aC, HAC⟩ : ∃ aC, Hid (aC = str (told 0 (toBytes cv))) := ⟨_, rfl⟩
        have hfrS : Hid (∀ W, Calls Tryd.prog 16 #[.int .i64 0, .string (strOfNums sv)] W fun r w' => r = .returned (.string aS) ∧ Below W.heap.size W w') := fun W => frame_is 0 _ (toBytes sv) rfl W (by omega) (by omega) (by rw [toBytes_length, hsl.out]; decide) aS HAS.out
        have hfrC : Hid (∀ W, Calls Tryd.prog 16 #[.int .i64 0, .string (strOfNums cv)] W fun r w' => r = .returned (.string aC) ∧ Below W.heap.size W w') := fun W => frame_is 0 _ (toBytes cv) rfl W (by omega) (by omega) (by rw [toBytes_length, hcl.out]; decide) aC HAC.out
        have hfd4 : Hid (∀ W, KdAt w W g d → Calls Tryd.prog 19 #[.pointer (some ⟨g, 0, none⟩), .string f4] W fun r w' => r = .returned (.string aS) ∧ KdAt w w' g d ∧ W.grownBy w' (some g)) := fun W K => by rw [HAS.out]; exact keep_fed G K hd4 hl4 _ HF4.out
        have hfd5 : Hid (∀ W, KdAt w W g d → Calls Tryd.prog 19 #[.pointer (some ⟨g, 0, none⟩), .string f5] W fun r w' => r = .returned (.string aC) ∧ KdAt w w' g d ∧ W.grownBy w' (some g)) := fun W K => by rw [HAC.out]; exact keep_fed G K hd5 hl5 _ HF5.out
        have hke : kb.toList.isEmpty = false := toList_ne_nil (by rw [HKB.out]; omega)
        have hse : Hid (∀ W, Glob W → Calls Tryd.prog 12 #[.string kb, .string mb] W fun r w' => r = .returned (.tuple #[.agg (u8s sv).toArray, .int .i64 0]) ∧ Below W.heap.size W w') := fun W GW => by rw [HSV.out]; exact prog_Seal_yes kb mb W GW (by rw [HKB.out]; omega) (by rw [HKB.out]; omega) (by omega)
        have hco : Hid (∀ W, Glob W → Calls Tryd.prog 14 #[.string kb, .int .i64 number] W fun r w' => r = .returned (.tuple #[.string (strOfNums cv), .int .i64 0]) ∧ Below W.heap.size W w') := fun W GW => by rw [HCV.out, HKN.out]; exact prog_Code_yes kb _ W GW (by rw [HKB.out]; omega) (by rw [HKB.out]; omega) (by omega) (by omega)
        clear F HN hd4 hd5 hz hkz hml hel hx4 hl4 hl5 hpick hsn
        go_wp2_with (first | (go_at_call 16; first | (have tk := t1; clear tk t1; refine (hfr4.out _).mono ?_; rintro _ wf ⟨rfl, hbf⟩; replace HH := HH.next hbf; clear hbf) | (have tk := t2; clear tk t2; refine (hfr5.out _).mono ?_; rintro _ wf ⟨rfl, hbf⟩; replace HH := HH.next hbf; clear hbf) | (have tk := t3; clear tk t3; refine (hfrS.out _).mono ?_; rintro _ wf ⟨rfl, hbf⟩; replace HH := HH.next hbf; clear hbf) | (have tk := t4; clear tk t4; refine (hfrC.out _).mono ?_; rintro _ wf ⟨rfl, hbf⟩; replace HH := HH.next hbf; clear hbf) | (have tk := t5; clear tk t5; refine (hfr2.out _).mono ?_; rintro _ wf ⟨rfl, hbf⟩; replace HH := HH.next hbf; clear hbf) | (have tk := t6; clear tk t6; refine (hfr4.out _).mono ?_; rintro _ wf ⟨rfl, hbf⟩; replace HH := HH.next hbf; clear hbf) | (have tk := t7; clear tk t7; refine (hfr5.out _).mono ?_; rintro _ wf ⟨rfl, hbf⟩; replace HH := HH.next hbf; clear hbf) | (have tk := t8; clear tk t8; refine (hfr0.out _).mono ?_; rintro _ wf ⟨rfl, hbf⟩; replace HH := HH.next hbf; clear hbf) | (have tk := t9; clear tk t9; refine (hfr2.out _).mono ?_; rintro _ wf ⟨rfl, hbf⟩; replace HH := HH.next hbf; clear hbf) | (have tk := t10; clear tk t10; refine (hfr2.out _).mono ?_; rintro _ wf ⟨rfl, hbf⟩; replace HH := HH.next hbf; clear hbf)) | (go_at_call 19; first | (have tk := s1; clear tk s1; refine (hfd4.out _ HH.kd).mono ?_; rintro _ wd ⟨rfl, Kd, hgd⟩; replace HH := HH.feed Kd hgd; clear Kd hgd) | (have tk := s2; clear tk s2; refine (hfd5.out _ HH.kd).mono ?_; rintro _ wd ⟨rfl, Kd, hgd⟩; replace HH := HH.feed Kd hgd; clear Kd hgd; have c4 := HH.cell n HL.out; rw [← HKB.out] at c4) | (have tk := s3; clear tk s3; refine (hfd2.out _ HH.kd).mono ?_; rintro _ wd ⟨rfl, Kd, hgd⟩; replace HH := HH.feed Kd hgd; clear Kd hgd) | (have tk := s4; clear tk s4; refine (hfd4b.out _ HH.kd).mono ?_; rintro _ wd ⟨rfl, Kd, hgd⟩; replace HH := HH.feed Kd hgd; clear Kd hgd) | (have tk := s5; clear tk s5; refine (hfd5b.out _ HH.kd).mono ?_; rintro _ wd ⟨rfl, Kd, hgd⟩; replace HH := HH.feed Kd hgd; clear Kd hgd)) | (go_at_call 12; refine (hse.out _ (HH.glob G)).mono ?_; rintro _ we ⟨rfl, hbe⟩; replace HH := HH.next hbe; clear hbe) | (refine wpList_allocR rfl 24 rfl 32 (.int .u8 0) arr32b ?_; go_simp) | (refine wpList_storeMA rfl 24 _ _ rfl we.heap.size rfl rfl (u8s sv) rfl 24 _ 32 (.int .u8 0) arr32b hsu.out (zrow_length _ _) (u8s_one _) ?_; intro ws hrs hbs; replace HH := HH.next hbs; clear hbs; have c4 := HH.cell n HL.out; rw [← HKB.out] at c4; go_simp) | (go_at_call 14; refine (hco.out _ (HH.glob G)).mono ?_; rintro _ wc ⟨rfl, hbc⟩; replace HH := HH.next hbc; have hcvS := run_convR wc we.heap.size sv 32 32 hsl.out (hrs.below hbc hrs.lt).range; clear hbc hrs; have c4 := HH.cell n HL.out; rw [← HKB.out] at c4))
        go_ret
        exact ⟨rfl, HH.kd.base⟩

end Go.Proofs.YtaokemapkgggoaaDoor
