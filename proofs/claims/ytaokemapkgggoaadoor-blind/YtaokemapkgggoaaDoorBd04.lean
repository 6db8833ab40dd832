import Derived.Test.YtaokemapkgggoaaDoorBd01
import Derived.Test.YtaokemapkgggoaaDoorBd02
import Derived.Test.YtaokemapkgggoaaDoorBd03
import Derived.BigQuiet
namespace Go.Proofs.YtaokemapkgggoaaDoor
open Go.RowKit

/-- behind the right PIN and a key in a slot -/
theorem blind_start (p : List UInt8) (h1 : 1 ≤ p.length) (h2 : p.length ≤ 8) (x : UInt8) (hx : x.toNat < 4) (l : List UInt8) (hl : l.length ≤ 20) :
    ∃ r e, fed (Dv.fresh 0 (str p)) (told 1 p ++ told 3 (x :: l)) = (r, e) ∧ Up e ∧ e.unl = true ∧ e.k.num = 4 ∧ e.k.pin = str p ∧ e.k.tries = 5 ∧ ∀ n, n < 4 → e.k.key n = if n = x.toNat then str l else ⟨#[]⟩ := by
  obtain ⟨e0, he0, U, hu, hk⟩ := fed_right (fresh_up (str p)) p rfl h1 h2 (by show ¬ (5 : Int) = 0; omega) (by show (1 : Int) + 2 < _; omega)
  have hs := fed_set U hu x hx l hl (by rw [hk]; show (1 : Int) + 1 + 1 < _; omega)
  refine ⟨_, _, fed_then he0 hs, U.wrote _, hu, ?_, ?_, ?_, fun n hn => ?_⟩
  · show e0.k.num + 1 = 4
    rw [hk]
    rfl
  · exact (kput_pin _ _ _).trans (by rw [hk]; rfl)
  · exact (kput_tries _ _ _).trans (by rw [hk])
  · show ((e0.k.put x.toNat (str l)).next _).key n = _
    rw [next_key, put_key _ _ _ _ hx hn, hk]
    split
    · rfl
    · rcases (by omega : n = 0 ∨ n = 1 ∨ n = 2 ∨ n = 3) with rfl | rfl | rfl | rfl <;> rfl
theorem blind_twin (p : List UInt8) (h1 : 1 ≤ p.length) (h2 : p.length ≤ 8) (x : UInt8) (hx : x.toNat < 4) (a b : Int) :
    ∃ r d r' e, fed (Dv.fresh 0 (str p)) (told 1 p ++ told 3 (x :: keyL6 a)) = (r, d) ∧ fed (Dv.fresh 0 (str p)) (told 1 p ++ told 3 (x :: keyL6 b)) = (r', e) ∧ Twin (pickN a 6 = pickN b 6) 4 d e := by
  obtain ⟨a1, a2⟩ := keyL6_len a
  obtain ⟨b1, b2⟩ := keyL6_len b
  obtain ⟨r, d, hd, U, hu, hn, hp, ht, hk⟩ := blind_start p h1 h2 x hx (keyL6 a) a2
  obtain ⟨r', e, he, U', hu', hn', hp', ht', hk'⟩ := blind_start p h1 h2 x hx (keyL6 b) b2
  refine ⟨r, d, r', e, hd, he, U, U', by rw [hu, hu'], ⟨by rw [hn, hn'], by rw [hp, hp'], by rw [ht, ht'], fun n h => ?_, fun hs n h => ?_⟩, by rw [hn]; exact Int.le_refl _⟩
  · rw [hk n h, hk' n h]
    by_cases hx2 : n = x.toNat
    · rw [if_pos hx2, if_pos hx2, str_size, str_size]
      omega
    · rw [if_neg hx2, if_neg hx2]
  · rw [hk n h, hk' n h]
    unfold keyL6
    rw [hs]
theorem told_three (st : Int) (r r' : List UInt8) (h : r.length = r'.length) : (str (told st r)).extract 0 3 = (str (told st r')).extract 0 3 := by
  rw [str_take, str_take]
  unfold told
  rw [h]
  rfl
theorem told_kind (kd : Nat) (h : kd < 256) (p : List UInt8) : (bytesI (str (told kd p)).data.toList).getD 2 0 = kd := by
  rw [str_list]
  show ((b8 kd).toNat : Int) = kd
  rw [b8_toNat]
  omega

set_option maxRecDepth 100000 in
set_option maxHeartbeats 16000000 in
theorem keep_Blind (w : World) (c a b slot : Int) (so : Option Addr) (sl sc : Nat) (G : Glob w) (hc0 : -9223372036854775808 ≤ c) (hc1 : c ≤ 9223372036854775807) (ha0 : -9223372036854775808 ≤ a) (ha1 : a ≤ 9223372036854775807) (hb0 : -9223372036854775808 ≤ b) (hb1 : b ≤ 9223372036854775807) (hs0 : -9223372036854775808 ≤ slot) (hs1 : slot ≤ 9223372036854775807) (hS : StepsAt w so sl) (hsl : sl < 9223372036854775808) :
    Calls Tryd.prog 6 #[.int .i64 c, .int .i64 a, .int .i64 b, .int .i64 slot, .slice so sl sc] w fun r w' => r = .returned (.bool true) ∧ Below w.heap.size w w' := by
  obtain ⟨lc1, lc2⟩ := pinL_len c
  obtain ⟨n, HN⟩ : ∃ n, Hid (n = pickN slot 4) := ⟨_, rfl⟩
  have hn4 : n < 4 := by rw [HN.out]; exact pickN_lt _ (by omega)
  have hx4 : (UInt8.ofNat n).toNat = n := by simp; omega
  obtain ⟨pa, HPA⟩ : ∃ pa, Hid (pa = pickN a 6) := ⟨_, rfl⟩
  obtain ⟨pz, HPZ⟩ : ∃ pz, Hid (pz = pickN b 6) := ⟨_, rfl⟩
  obtain ⟨r1, d1, r2, d2, hfd1, hfd2, T0⟩ := blind_twin (pinL c) lc1 lc2 (UInt8.ofNat n) (by rw [hx4]; exact hn4) a b
  rw [← HPA.out, ← HPZ.out] at T0
  obtain ⟨D, HD⟩ : ∃ D, Hid (D = Dv.fresh 0 (str (pinL c))) := ⟨_, rfl⟩
  rw [← HD.out] at hfd1 hfd2
  obtain ⟨pb, HPB⟩ : ∃ pb, Hid (pb = str (pinL c)) := ⟨_, rfl⟩
  obtain ⟨ka, HKA⟩ : ∃ ka, Hid (ka = str (keyL6 a)) := ⟨_, rfl⟩
  obtain ⟨kz, HKZ⟩ : ∃ kz, Hid (kz = str (keyL6 b)) := ⟨_, rfl⟩
  obtain ⟨la1, la2⟩ := keyL6_len a
  obtain ⟨lb1, lb2⟩ := keyL6_len b
  have hkaz : ka.size ≤ 20 := by rw [HKA.out, str_size]; exact la2
  have hkzz : kz.size ≤ 20 := by rw [HKZ.out, str_size]; exact lb2
  obtain ⟨f1, HF1⟩ : ∃ f1, Hid (f1 = str (told 1 (pinL c))) := ⟨_, rfl⟩
  obtain ⟨f3, HF3⟩ : ∃ f3, Hid (f3 = str (told 3 (UInt8.ofNat n :: keyL6 a))) := ⟨_, rfl⟩
  obtain ⟨f4, HF4⟩ : ∃ f4, Hid (f4 = str (told 3 (UInt8.ofNat n :: keyL6 b))) := ⟨_, rfl⟩
  have hz1 : f1.size ≤ 12 := by rw [HF1.out, str_size, told_len]; omega
  have hz3 : f3.size ≤ 25 := by rw [HF3.out, str_size, told_len, List.length_cons]; omega
  have hz4 : f4.size ≤ 25 := by rw [HF4.out, str_size, told_len, List.length_cons]; omega
  have hop : Hid (∀ W, Below w.heap.size w W → Calls Tryd.prog 15 #[.int .i64 c] W fun r w' => ∃ g, r = .returned (.pointer (some ⟨g, 0, none⟩)) ∧ W.heap.size ≤ g ∧ KdAt w w' g D ∧ Below W.heap.size W w') := fun W hb => by rw [HD.out]; exact keep_opened w W c G hb hc0 hc1
  have hpin : Hid (∀ W, Calls Tryd.prog 17 #[.int .i64 c] W fun r w' => r = .returned (.string pb) ∧ Below W.heap.size W w') := fun W => by rw [HPB.out]; exact keep_pin c W hc0 hc1
  have hpick : Hid (∀ W, Calls Tryd.prog 20 #[.int .i64 slot, .int .i64 4] W fun r w' => r = .returned (.int .i64 n) ∧ w' = W) := fun W => by rw [HN.out]; exact keep_pick _ 4 W hs0 hs1 (by omega) (by omega)
  have hkeyA : Hid (∀ W, Calls Tryd.prog 11 #[.int .i64 a] W fun r w' => r = .returned (.string ka) ∧ Below W.heap.size W w') := fun W => by rw [HKA.out]; exact keep_key a W ha0 ha1
  have hkeyB : Hid (∀ W, Calls Tryd.prog 11 #[.int .i64 b] W fun r w' => r = .returned (.string kz) ∧ Below W.heap.size W w') := fun W => by rw [HKZ.out]; exact keep_key b W hb0 hb1
  have hfr1 : Hid (∀ W, Calls Tryd.prog 16 #[.int .i64 1, .string pb] W fun r w' => r = .returned (.string f1) ∧ Below W.heap.size W w') := fun W => frame_is 1 pb (pinL c) (by rw [HPB.out]; exact str_list _) W (by omega) (by omega) (by omega) f1 HF1.out
  have hfr3 : Hid (∀ W, Calls Tryd.prog 16 #[.int .i64 3, .string (strOfNums [(n : Int)] ++ ka)] W fun r w' => r = .returned (.string f3) ∧ Below W.heap.size W w') := fun W => frame_is 3 _ (UInt8.ofNat n :: keyL6 a) (one_str n _ _ HKA.out) W (by omega) (by omega) (by simp only [List.length_cons]; omega) f3 HF3.out
  have hfr4 : Hid (∀ W, Calls Tryd.prog 16 #[.int .i64 3, .string (strOfNums [(n : Int)] ++ kz)] W fun r w' => r = .returned (.string f4) ∧ Below W.heap.size W w') := fun W => frame_is 3 _ (UInt8.ofNat n :: keyL6 b) (one_str n _ _ HKZ.out) W (by omega) (by omega) (by simp only [List.length_cons]; omega) f4 HF4.out
  have hfeed1 : Hid (∀ W g, KdAt w W g D → Calls Tryd.prog 19 #[.pointer (some ⟨g, 0, none⟩), .string (f1 ++ f3)] W fun r w' => r = .returned (.string (str r1)) ∧ KdAt w w' g d1 ∧ W.grownBy w' (some g)) := fun W g K => keep_fed G K hfd1 (by rw [List.length_append, told_len, told_len, List.length_cons]; omega) _ (by rw [HF1.out, HF3.out, str_append])
  have hfeed2 : Hid (∀ W g, KdAt w W g D → Calls Tryd.prog 19 #[.pointer (some ⟨g, 0, none⟩), .string (f1 ++ f4)] W fun r w' => r = .returned (.string (str r2)) ∧ KdAt w w' g d2 ∧ W.grownBy w' (some g)) := fun W g K => keep_fed G K hfd2 (by rw [List.length_append, told_len, told_len, List.length_cons]; omega) _ (by rw [HF1.out, HF4.out, str_append])
  have hpickA : Hid (∀ W, Calls Tryd.prog 20 #[.int .i64 a, .int .i64 6] W fun r w' => r = .returned (.int .i64 pa) ∧ w' = W) := fun W => by rw [HPA.out]; exact keep_pick _ 6 W ha0 ha1 (by omega) (by omega)
  have hpickB : Hid (∀ W, Calls Tryd.prog 20 #[.int .i64 b, .int .i64 6] W fun r w' => r = .returned (.int .i64 pz) ∧ w' = W) := fun W => by rw [HPZ.out]; exact keep_pick _ 6 W hb0 hb1 (by omega) (by omega)
  have hn8 : (n : Int) % 256 = n := by omega
  have hw8 : ∀ x : Int, IntKind.u8.wrap x = x % 256 := u8_wrap
  have hcv : ∀ (W : World), (convert 28 9 (.slice (some ⟨W.heap.size, 0, none⟩) 1 1)).run Tryd.prog (W.alloc (.cells #[.int .u8 (n : Int)] 5)) = .ok (.string (strOfNums [(n : Int)])) (W.alloc (.cells #[.int .u8 (n : Int)] 5)) := fun W => conv1 W n W.heap.size rfl
  have hy1 := size1
  have hy2 : 1 + ka.size ≤ 9223372036854775807 := by omega
  have hy3 : 1 + kz.size ≤ 9223372036854775807 := by omega
  have hy4 : f1.size + f3.size ≤ 9223372036854775807 := by omega
  have hy5 : f1.size + f4.size ≤ 9223372036854775807 := by omega
  have HS : Hid (StepsAt w so sl) := hS
  clear hS hfd1 hfd2 HN HKA HKZ HF1 HF3 HF4
  go_enter Tryd.func6, Tryd.ntmps6
  have t1 : Hid True := trivial
  have t2 : Hid True := trivial
  have t3 : Hid True := trivial
  have t4 : Hid True := trivial
  have t5 : Hid True := trivial
  go_wp2_with (first | (go_at_call 15; first | (have tk := t1; clear tk t1; refine (hop.out _ (Below.refl _ _)).mono ?_; rintro _ w1 ⟨g1, rfl, hg1, K1, hb1⟩) | (refine (hop.out _ K1.base).mono ?_; rintro _ w2 ⟨g2, rfl, hg2, K2, hb2⟩; have HH : PairAt w w2 g1 D g2 D := ⟨K1.next hb2, K2, by have := K1.pd.lt; omega⟩; clear K1 K2 hb1 hb2 hg1 hg2)) | (go_at_call 20; refine (hpick.out _).mono ?_; rintro _ wk ⟨rfl, ek⟩; rw [ek]; clear ek wk) | (go_at_call 17; refine (hpin.out _).mono ?_; rintro _ w3 ⟨rfl, hb3⟩; replace HH := (HH.next ((Below.refl _ _).alloc (Nat.le_refl _) _)).next hb3; clear hb3) | (go_at_call 11; first | (have tk := t2; clear tk t2; refine (hkeyA.out _).mono ?_; rintro _ w5 ⟨rfl, hb5⟩; replace HH := HH.next hb5; clear hb5) | (refine (hkeyB.out _).mono ?_; rintro _ w6 ⟨rfl, hb6⟩; replace HH := HH.next hb6; clear hb6)) | (go_at_call 16; first | (have tk := t3; clear tk t3; refine (hfr1.out _).mono ?_; rintro _ w4 ⟨rfl, hb4⟩; replace HH := HH.next hb4; clear hb4) | (have tk := t4; clear tk t4; refine (hfr3.out _).mono ?_; rintro _ w7 ⟨rfl, hb7⟩; replace HH := HH.next hb7; clear hb7) | (refine (hfr4.out _).mono ?_; rintro _ w8 ⟨rfl, hb8⟩; replace HH := HH.next hb8; clear hb8)) | (go_at_call 19; first | (have tk := t5; clear tk t5; refine (hfeed1.out _ _ HH.one).mono ?_; rintro _ w9 ⟨rfl, K9, hg9⟩; replace HH := HH.fed1 K9 hg9; clear K9 hg9) | (refine (hfeed2.out _ _ HH.two).mono ?_; rintro _ w10 ⟨rfl, K10, hg10⟩; replace HH := HH.fed2 K10 hg10; clear K10 hg10)))
  clear hop hpin hpick hkeyA hkeyB hfr1 hfr3 hfr4 hfeed1 hfeed2 hcv hy2 hy3 hy4 hy5
  go_loopw [15] (fun iv wr => ∃ (i : Nat) (d e : Dv), iv = .int .i64 i ∧ i ≤ 40 ∧ i ≤ sl ∧ Twin (pa = pz) (4 + 2 * i) d e ∧ PairAt w wr g1 d g2 e) (fun iv _ => 40 - (intOf iv).toNat)
  case atStart => exact ⟨0, d1, d2, rfl, by omega, by omega, T0, HH⟩
  case round =>
    clear HH T0
    obtain ⟨i, d, e, rfl, hi40, hisl, T, HH⟩ := hrel
    by_cases hlt : i < sl ∧ i < 40
    · obtain ⟨hlt1, hlt2⟩ := hlt
      have q1 : (i : Int) < sl := by omega
      have q2 : (i : Int) < 40 := by omega
      have q0 : (0 : Int) ≤ i := by omega
      obtain ⟨sb, soff, kk, aa, bb, rfl, hsb, c1, c2, c3, hk0, hk1, hA0, hA1, hB0, hB1⟩ := HS.out i hlt1
      have e1 : wr.cell? ⟨sb, soff + i * 3, none⟩ = some (.int .i64 kk) := (HH.one.base.cell (p := ⟨sb, soff + i * 3, none⟩) hsb).trans c1
      have e2 : wr.cell? ⟨sb, soff + i * 3 + 1, none⟩ = some (.int .i64 aa) := (HH.one.base.cell (p := ⟨sb, soff + i * 3 + 1, none⟩) hsb).trans c2
      have e3 : wr.cell? ⟨sb, soff + i * 3 + 2, none⟩ = some (.int .i64 bb) := (HH.one.base.cell (p := ⟨sb, soff + i * 3 + 2, none⟩) hsb).trans c3
      clear c1 c2 c3
      have hask := keep_ask kk aa bb wr ⟨⟨hk0, hk1⟩, ⟨hA0, hA1⟩, ⟨hB0, hB1⟩⟩
      go_wp2_with (go_at_call 18; refine hask.mono ?_; rintro _ w5 ⟨⟨kd, p, hkd, hpl, rfl⟩, hb5⟩; replace HH := HH.next hb5; clear hb5 hask; obtain ⟨st, ra, rz, d', e', hfa, hfz, T', hlen, hpla, hsam⟩ := T.fed kd p (by omega) (by omega) hpl (by omega); obtain ⟨fb, HFB⟩ : ∃ fb, Hid (fb = str (told kd p)) := ⟨_, rfl⟩; obtain ⟨sx, HSX⟩ : ∃ sx, Hid (sx = str (told st ra)) := ⟨_, rfl⟩; obtain ⟨sy, HSY⟩ : ∃ sy, Hid (sy = str (told st rz)) := ⟨_, rfl⟩; rw [← HFB.out])
      have HT : Hid (Twin (pa = pz) (4 + 2 * ((i + 1 : Nat) : Int)) d' e') := T'.more (by omega)
      have hfx : Hid (∀ W, KdAt w W g1 d → Calls Tryd.prog 19 #[.pointer (some ⟨g1, 0, none⟩), .string fb] W fun r w' => r = .returned (.string sx) ∧ KdAt w w' g1 d' ∧ W.grownBy w' (some g1)) := fun W K => by rw [HSX.out]; exact keep_fed G K hfa (by rw [told_len]; omega) _ HFB.out
      have hfy : Hid (∀ W, KdAt w W g2 e → Calls Tryd.prog 19 #[.pointer (some ⟨g2, 0, none⟩), .string fb] W fun r w' => r = .returned (.string sy) ∧ KdAt w w' g2 e' ∧ W.grownBy w' (some g2)) := fun W K => by rw [HSY.out]; exact keep_fed G K hfz (by rw [told_len]; omega) _ HFB.out
      have hfsz : 4 ≤ fb.size := by rw [HFB.out, str_size, told_len]; omega
      have hfsi : (2 : Int) < fb.size := by omega
      have hkb := byte_at (s := fb) (i := 2) (by omega)
      rw [show (bytesI fb.data.toList).getD 2 0 = kd by rw [HFB.out]; exact told_kind kd hkd p] at hkb
      have hsx4 : 4 ≤ sx.size := by rw [HSX.out, str_size, told_len]; omega
      have hsxy : sy.size = sx.size := by rw [HSX.out, HSY.out, str_size, str_size, told_len, told_len, hlen]
      have hs4 : ¬ (sx.size : Int) < 4 := by omega
      have hs3 : (3 : Int) ≤ sx.size := by omega
      obtain ⟨p3, HP3⟩ : ∃ p3, Hid (p3 = sx.extract 0 3) := ⟨_, rfl⟩
      have hx3 : sx.extract 0 3 = p3 := HP3.out.symm
      have hx5 : sy.extract 0 3 = p3 := by rw [HP3.out, HSX.out, HSY.out]; exact told_three st rz ra hlen.symm
      have HPL : Hid (¬ ((kd : Int) = 4 ∨ (kd : Int) = 5) → sy = sx) := fun h => by rw [HSX.out, HSY.out, hpla h]
      have HSM : Hid (pa = pz → sy = sx) := fun h => by rw [HSX.out, HSY.out, hsam h]
      clear hfa hfz T' T hlen hpla hsam hsx4 HP3 hpl
      have t6 : Hid True := trivial
      have t7 : Hid True := trivial
      by_cases hsame : pa = pz
      · obtain rfl : sy = sx := HSM.out hsame
        subst hsame
        clear hsxy hx5 HPL HSM
        by_cases k4 : kd = 4
        · subst k4
          go_wp2_with (first | (go_at_call 19; first | (have tk := t6; clear tk t6; refine (hfx.out _ HH.one).mono ?_; rintro _ w9 ⟨rfl, K9, hg9⟩; replace HH := HH.fed1 K9 hg9; clear K9 hg9) | (refine (hfy.out _ HH.two).mono ?_; rintro _ w10 ⟨rfl, K10, hg10⟩; replace HH := HH.fed2 K10 hg10; clear K10 hg10)))
          go_quiet (fail)
          replace HH := HH.next (below_drewN (Below.refl _ _) nq)
          go_wp2_with (go_at_call 20; first | (have tk := t7; clear tk t7; refine (hpickA.out _).mono ?_; rintro _ wk ⟨rfl, ek⟩; rw [ek]; clear ek wk) | (refine (hpickB.out _).mono ?_; rintro _ wk ⟨rfl, ek⟩; rw [ek]; clear ek wk))
          go_roundw
          case rel => exact ⟨i + 1, d', e', by go_num, by omega, by omega, HT.out, HH⟩
          case measure => simp [intOf]; omega
        · by_cases k5 : kd = 5
          · subst k5
            go_wp2_with (first | (go_at_call 19; first | (have tk := t6; clear tk t6; refine (hfx.out _ HH.one).mono ?_; rintro _ w9 ⟨rfl, K9, hg9⟩; replace HH := HH.fed1 K9 hg9; clear K9 hg9) | (refine (hfy.out _ HH.two).mono ?_; rintro _ w10 ⟨rfl, K10, hg10⟩; replace HH := HH.fed2 K10 hg10; clear K10 hg10)))
            go_quiet (fail)
            replace HH := HH.next (below_drewN (Below.refl _ _) nq)
            go_wp2_with (go_at_call 20; first | (have tk := t7; clear tk t7; refine (hpickA.out _).mono ?_; rintro _ wk ⟨rfl, ek⟩; rw [ek]; clear ek wk) | (refine (hpickB.out _).mono ?_; rintro _ wk ⟨rfl, ek⟩; rw [ek]; clear ek wk))
            go_roundw
            case rel => exact ⟨i + 1, d', e', by go_num, by omega, by omega, HT.out, HH⟩
            case measure => simp [intOf]; omega
          · have k6 : ¬ (kd : Int) = 4 := by omega
            have k7 : ¬ (kd : Int) = 5 := by omega
            have k8 : ((kd : Int) == 4) = false := beq_eq_false_iff_ne.2 k6
            have k9 : ((kd : Int) == 5) = false := beq_eq_false_iff_ne.2 k7
            clear k4 k5
            go_wp2_with (first | (go_at_call 19; first | (have tk := t6; clear tk t6; refine (hfx.out _ HH.one).mono ?_; rintro _ w9 ⟨rfl, K9, hg9⟩; replace HH := HH.fed1 K9 hg9; clear K9 hg9) | (refine (hfy.out _ HH.two).mono ?_; rintro _ w10 ⟨rfl, K10, hg10⟩; replace HH := HH.fed2 K10 hg10; clear K10 hg10)))
            go_quiet (fail)
            replace HH := HH.next (below_drewN (Below.refl _ _) nq)
            go_wp2_with (go_at_call 20; first | (have tk := t7; clear tk t7; refine (hpickA.out _).mono ?_; rintro _ wk ⟨rfl, ek⟩; rw [ek]; clear ek wk) | (refine (hpickB.out _).mono ?_; rintro _ wk ⟨rfl, ek⟩; rw [ek]; clear ek wk))
            go_roundw
            case rel => exact ⟨i + 1, d', e', by go_num, by omega, by omega, HT.out, HH⟩
            case measure => simp [intOf]; omega
      · have hz5 : ¬ (pa : Int) = pz := by omega
        have hz6 : ((pa : Int) == (pz : Int)) = false := beq_eq_false_iff_ne.2 hz5
        clear hsame HSM
        by_cases k4 : kd = 4
        · subst k4
          clear HPL
          go_wp2_with (first | (go_at_call 19; first | (have tk := t6; clear tk t6; refine (hfx.out _ HH.one).mono ?_; rintro _ w9 ⟨rfl, K9, hg9⟩; replace HH := HH.fed1 K9 hg9; clear K9 hg9) | (refine (hfy.out _ HH.two).mono ?_; rintro _ w10 ⟨rfl, K10, hg10⟩; replace HH := HH.fed2 K10 hg10; clear K10 hg10)))
          go_quiet (fail)
          replace HH := HH.next (below_drewN (Below.refl _ _) nq)
          go_wp2_with (go_at_call 20; first | (have tk := t7; clear tk t7; refine (hpickA.out _).mono ?_; rintro _ wk ⟨rfl, ek⟩; rw [ek]; clear ek wk) | (refine (hpickB.out _).mono ?_; rintro _ wk ⟨rfl, ek⟩; rw [ek]; clear ek wk))
          go_roundw
          case rel => exact ⟨i + 1, d', e', by go_num, by omega, by omega, HT.out, HH⟩
          case measure => simp [intOf]; omega
        · by_cases k5 : kd = 5
          · subst k5
            clear HPL
            go_wp2_with (first | (go_at_call 19; first | (have tk := t6; clear tk t6; refine (hfx.out _ HH.one).mono ?_; rintro _ w9 ⟨rfl, K9, hg9⟩; replace HH := HH.fed1 K9 hg9; clear K9 hg9) | (refine (hfy.out _ HH.two).mono ?_; rintro _ w10 ⟨rfl, K10, hg10⟩; replace HH := HH.fed2 K10 hg10; clear K10 hg10)))
            go_quiet (fail)
            replace HH := HH.next (below_drewN (Below.refl _ _) nq)
            go_wp2_with (go_at_call 20; first | (have tk := t7; clear tk t7; refine (hpickA.out _).mono ?_; rintro _ wk ⟨rfl, ek⟩; rw [ek]; clear ek wk) | (refine (hpickB.out _).mono ?_; rintro _ wk ⟨rfl, ek⟩; rw [ek]; clear ek wk))
            go_roundw
            case rel => exact ⟨i + 1, d', e', by go_num, by omega, by omega, HT.out, HH⟩
            case measure => simp [intOf]; omega
          · obtain rfl : sy = sx := HPL.out (by omega)
            have k6 : ¬ (kd : Int) = 4 := by omega
            have k7 : ¬ (kd : Int) = 5 := by omega
            have k8 : ((kd : Int) == 4) = false := beq_eq_false_iff_ne.2 k6
            have k9 : ((kd : Int) == 5) = false := beq_eq_false_iff_ne.2 k7
            clear k4 k5 HPL hsxy hx5
            go_wp2_with (first | (go_at_call 19; first | (have tk := t6; clear tk t6; refine (hfx.out _ HH.one).mono ?_; rintro _ w9 ⟨rfl, K9, hg9⟩; replace HH := HH.fed1 K9 hg9; clear K9 hg9) | (refine (hfy.out _ HH.two).mono ?_; rintro _ w10 ⟨rfl, K10, hg10⟩; replace HH := HH.fed2 K10 hg10; clear K10 hg10)))
            go_quiet (fail)
            replace HH := HH.next (below_drewN (Below.refl _ _) nq)
            go_wp2_with (go_at_call 20; first | (have tk := t7; clear tk t7; refine (hpickA.out _).mono ?_; rintro _ wk ⟨rfl, ek⟩; rw [ek]; clear ek wk) | (refine (hpickB.out _).mono ?_; rintro _ wk ⟨rfl, ek⟩; rw [ek]; clear ek wk))
            go_roundw
            case rel => exact ⟨i + 1, d', e', by go_num, by omega, by omega, HT.out, HH⟩
            case measure => simp [intOf]; omega
    · have hlt' : ¬ ((i : Int) < sl ∧ (i : Int) < 40) := by omega
      have ht1 : ∀ W, KdAt w W g1 d → Calls Tryd.prog 23 #[.pointer (some ⟨g1, 0, none⟩)] W fun r w' => r = .returned (.tuple #[.int .i64 (if d.unl then 1 else 0), .int .i64 d.k.tries, .int .i64 (d.k.bits 4), .bool true]) ∧ KdAt w w' g1 d ∧ W.grownBy w' (some g1) := fun W K => keep_tells G K T.up1.off T.up1.inn
      have ht2 : ∀ W, KdAt w W g2 e → Calls Tryd.prog 23 #[.pointer (some ⟨g2, 0, none⟩)] W fun r w' => r = .returned (.tuple #[.int .i64 (if d.unl then 1 else 0), .int .i64 d.k.tries, .int .i64 (d.k.bits 4), .bool true]) ∧ KdAt w w' g2 e ∧ W.grownBy w' (some g2) := fun W K => by
        rw [T.unl, T.k.tries, bits_eq T.k.none 4 (Nat.le_refl _)]
        exact keep_tells G K T.up2.off T.up2.inn
      generalize (if d.unl then (1 : Int) else 0) = uu at ht1 ht2
      generalize d.k.tries = tt at ht1 ht2
      generalize d.k.bits 4 = bi at ht1 ht2
      clear T
      have H1 : Hid _ := ht1
      have H2 : Hid _ := ht2
      clear ht1 ht2
      have t6 : Hid True := trivial
      by_cases q1 : (i : Int) < sl
      · have q2 : ¬ (i : Int) < 40 := fun e => hlt' ⟨q1, e⟩
        go_wp2_with (go_at_call 23; first | (have tk := t6; clear tk t6; refine (H1.out _ HH.one).mono ?_; rintro _ w9 ⟨rfl, K9, hg9⟩; replace HH := HH.fed1 K9 hg9; clear K9 hg9) | (refine (H2.out _ HH.two).mono ?_; rintro _ w10 ⟨rfl, K10, hg10⟩; replace HH := HH.fed2 K10 hg10; clear K10 hg10))
        go_ret
        exact ⟨rfl, HH.one.base⟩
      · go_wp2_with (go_at_call 23; first | (have tk := t6; clear tk t6; refine (H1.out _ HH.one).mono ?_; rintro _ w9 ⟨rfl, K9, hg9⟩; replace HH := HH.fed1 K9 hg9; clear K9 hg9) | (refine (H2.out _ HH.two).mono ?_; rintro _ w10 ⟨rfl, K10, hg10⟩; replace HH := HH.fed2 K10 hg10; clear K10 hg10))
        go_ret
        exact ⟨rfl, HH.one.base⟩
end Go.Proofs.YtaokemapkgggoaaDoor
