import Derived.Test.YtaokemapkgggoaaDoorCd01
import Derived.Test.YtaokemapkgggoaaDoorCd02
import Derived.Test.YtaokemapkgggoaaDoorKb32
namespace Go.Proofs.YtaokemapkgggoaaDoor
open Go.RowKit

theorem fed_le (d : Dv) (a b : List UInt8) : (fed d a).1.length ≤ (fed d (a ++ b)).1.length := by rw [fed_append]; simp
theorem told0_four (r : List UInt8) : (str (told 0 [] ++ r)).extract 0 4 = ⟨#[165, 0, 0, 1]⟩ := by
  rw [str_take]
  rfl

theorem fed_nil {d : Dv} (ho : d.off = false) (hi : d.inn = ⟨#[]⟩) : fed d [] = ([], d) := by
  unfold fed
  rw [hi, empty_app, str_list, str_size]
  have := feedC_wait (n := 0) (d := d) (l := []) (s := []) ho rfl (.inl (by simp))
  rw [withIn_self hi] at this
  exact this

set_option maxRecDepth 100000 in
set_option maxHeartbeats 16000000 in
theorem keep_Cuts (w : World) (c : Int) (so co : Option Addr) (sl sc cl cc : Nat) (junk : ByteArray) (G : Glob w) (hc0 : -9223372036854775808 ≤ c) (hc1 : c ≤ 9223372036854775807) (hS : StepsAt w so sl) (hC : IntsAt w co cl) (hsl : sl < 9223372036854775808) (hcl : cl < 9223372036854775808) (hj : junk.size ≤ 1048576) :
    Calls Tryd.prog 4 #[.int .i64 c, .slice so sl sc, .string junk, .slice co cl cc] w fun r w' => r = .returned (.bool true) ∧ Below w.heap.size w w' := by
  obtain ⟨lc1, lc2⟩ := pinL_len c
  obtain ⟨D, HD⟩ : ∃ D, Hid (D = Dv.fresh 0 (str (pinL c))) := ⟨_, rfl⟩
  have HDI : Hid (D.inn.size = 0) := by show _ = _; rw [HD.out]; rfl
  obtain ⟨pb, HPB⟩ : ∃ pb, Hid (pb = str (pinL c)) := ⟨_, rfl⟩
  obtain ⟨f1, HF1⟩ : ∃ f1, Hid (f1 = str (told 1 (pinL c))) := ⟨_, rfl⟩
  have hop : Hid (∀ W, Below w.heap.size w W → Calls Tryd.prog 15 #[.int .i64 c] W fun r w' => ∃ g, r = .returned (.pointer (some ⟨g, 0, none⟩)) ∧ W.heap.size ≤ g ∧ KdAt w w' g D ∧ Below W.heap.size W w') := fun W hb => by rw [HD.out]; exact keep_opened w W c G hb hc0 hc1
  have hpin : Hid (∀ W, Calls Tryd.prog 17 #[.int .i64 c] W fun r w' => r = .returned (.string pb) ∧ Below W.heap.size W w') := fun W => by rw [HPB.out]; exact keep_pin c W hc0 hc1
  have hfr1 : Hid (∀ W, Calls Tryd.prog 16 #[.int .i64 1, .string pb] W fun r w' => r = .returned (.string f1) ∧ Below W.heap.size W w') := fun W => frame_is 1 pb (pinL c) (by rw [HPB.out]; exact str_list _) W (by omega) (by omega) (by omega) f1 HF1.out
  have HFF : Hid (∃ e0, fed D (told 1 (pinL c)) = (told 0 [], e0)) := by
    obtain ⟨e, he, -⟩ := fine_fresh (pinL c) lc1 lc2
    exact ⟨e, by rw [HD.out]; exact he⟩
  have HNIL : Hid (fed D [] = ([], D)) := by show _ = _; rw [HD.out]; exact fed_nil rfl rfl
  have HS : Hid (StepsAt w so sl) := hS
  have HC : Hid (IntsAt w co cl) := hC
  clear hS hC
  go_enter Tryd.func4, Tryd.ntmps4
  have t1 : Hid True := trivial
  go_wp2_with (first | (go_at_call 15; first | (have tk := t1; clear tk t1; refine (hop.out _ (Below.refl _ _)).mono ?_; rintro _ w1 ⟨g1, rfl, hg1, K1, hb1⟩) | (refine (hop.out _ K1.base).mono ?_; rintro _ w2 ⟨g2, rfl, hg2, K2, hb2⟩; have HH : PairAt w w2 g1 D g2 D := ⟨K1.next hb2, K2, by have := K1.pd.lt; omega⟩; clear K1 K2 hb1 hb2 hg1 hg2)) | (go_at_call 17; refine (hpin.out _).mono ?_; rintro _ w3 ⟨rfl, hb3⟩; replace HH := HH.next hb3; clear hb3) | (go_at_call 16; refine (hfr1.out _).mono ?_; rintro _ w4 ⟨rfl, hb4⟩; replace HH := HH.next hb4; clear hb4))
  clear hop hpin hfr1
  go_loopw [11, 12] (fun bv iv wr => ∃ (i : Nat) (r : List UInt8) (cb : ByteArray), iv = .int .i64 i ∧ bv = .string cb ∧ cb = str (told 1 (pinL c) ++ r) ∧ i ≤ 40 ∧ i ≤ sl ∧ r.length ≤ 52 * i + (if sl / 2 < i then junk.size else 0) ∧ PairAt w wr g1 D g2 D) (fun _ iv _ => 40 - (intOf iv).toNat)
  case atStart => exact ⟨0, [], f1, rfl, rfl, by rw [List.append_nil]; exact HF1.out, by omega, by omega, by simp, HH⟩
  case round =>
    clear HH
    obtain ⟨i, r, cb, rfl, rfl, hcb, hi40, hisl, hrl, HH⟩ := hrel
    have HCB : Hid (cb = str (told 1 (pinL c) ++ r)) := hcb
    have hcz : cb.size ≤ 12 + r.length := by rw [hcb, str_size, List.length_append, told_len]; omega
    have hrb : r.length ≤ 52 * i + 1048576 := by split at hrl <;> omega
    have HRL : Hid _ := hrl
    clear hcb hrl
    by_cases hlt : i < sl ∧ i < 40
    · obtain ⟨hlt1, hlt2⟩ := hlt
      have q1 : (i : Int) < sl := by omega
      have q2 : (i : Int) < 40 := by omega
      have q0 : (0 : Int) ≤ i := by omega
      obtain ⟨sb, soff, kk, aa, bb, rfl, hsb, c1, c2, c3, hk0, hk1, ha0, ha1, hb0, hb1⟩ := HS.out i hlt1
      have e1 : wr.cell? ⟨sb, soff + i * 3, none⟩ = some (.int .i64 kk) := (HH.one.base.cell (p := ⟨sb, soff + i * 3, none⟩) hsb).trans c1
      have e2 : wr.cell? ⟨sb, soff + i * 3 + 1, none⟩ = some (.int .i64 aa) := (HH.one.base.cell (p := ⟨sb, soff + i * 3 + 1, none⟩) hsb).trans c2
      have e3 : wr.cell? ⟨sb, soff + i * 3 + 2, none⟩ = some (.int .i64 bb) := (HH.one.base.cell (p := ⟨sb, soff + i * 3 + 2, none⟩) hsb).trans c3
      clear c1 c2 c3
      have hask : Hid (∀ W, Calls Tryd.prog 18 #[.agg #[.int .i64 kk, .int .i64 aa, .int .i64 bb]] W fun r w' => ∃ fb l, r = .returned (.string fb) ∧ fb = str l ∧ l.length ≤ 52 ∧ fb.size ≤ 52 ∧ Below W.heap.size W w') := fun W => by
        refine (keep_ask kk aa bb W ⟨⟨hk0, hk1⟩, ⟨ha0, ha1⟩, ⟨hb0, hb1⟩⟩).mono ?_
        rintro _ w' ⟨⟨kd, p, h1, h2, rfl⟩, hb⟩
        exact ⟨_, _, rfl, rfl, by rw [told_len]; omega, by rw [str_size, told_len]; omega, hb⟩
      have hhalf : (sl : Int).tdiv 2 = ((sl / 2 : Nat) : Int) := by rw [Int.tdiv_eq_ediv_of_nonneg (by omega)]; omega
      obtain ⟨hf, HHF⟩ : ∃ hf : Nat, Hid (hf = sl / 2) := ⟨_, rfl⟩
      have hhalf2 : (sl : Int) / 2 = hf := by rw [HHF.out]; omega
      rw [← HHF.out] at hhalf HRL
      by_cases him : i = hf
      · subst him
        go_wp2_with (go_at_call 18; refine (hask.out _).mono ?_; rintro _ w5 ⟨fb, l, rfl, hfb, hl, hfz, hb5⟩; replace HH := HH.next hb5; have z1 : cb.size + fb.size ≤ 9223372036854775807 := (by omega); have z2 : cb.size + fb.size + junk.size ≤ 9223372036854775807 := (by omega); have HFB : Hid (fb = str l) := hfb; clear hfb hb5)
        refine ⟨⟨i + 1, r ++ l ++ junk.data.toList, _, by go_num, rfl, ?_, by omega, by omega, ?_, HH⟩, by simp [intOf]; omega⟩
        · rw [HCB.out, HFB.out, str_append, List.append_assoc, List.append_assoc, ← list_str junk, str_append, list_str]
          simp [List.append_assoc]
        · have h1 := HRL.out
          have h2 := HHF.out
          rw [if_neg (by omega)] at h1
          rw [if_pos (by omega)]
          have h3 : junk.data.toList.length = junk.size := by rw [Array.length_toList]; rfl
          have h4 : (r ++ l ++ junk.data.toList).length = r.length + l.length + junk.size := by rw [List.length_append, List.length_append, h3]
          rw [h4]
          omega
      · have him2 : ((i : Int) == (hf : Int)) = false := beq_eq_false_iff_ne.2 (by omega)
        have him3 : ¬ (i : Int) = hf := by omega
        have HIM : Hid (¬ i = hf) := him
        clear him
        go_wp2_with (go_at_call 18; refine (hask.out _).mono ?_; rintro _ w5 ⟨fb, l, rfl, hfb, hl, hfz, hb5⟩; replace HH := HH.next hb5; have z1 : cb.size + fb.size ≤ 9223372036854775807 := (by omega); have HFB : Hid (fb = str l) := hfb; clear hfb hb5)
        refine ⟨⟨i + 1, r ++ l, _, by go_num, rfl, ?_, by omega, by omega, ?_, HH⟩, by simp [intOf]; omega⟩
        · rw [HCB.out, HFB.out, str_append, List.append_assoc]
        · have h1 := HRL.out
          have h2 := HIM.out
          rw [List.length_append]
          by_cases h4 : hf < i
          · rw [if_pos h4] at h1
            rw [if_pos (by omega)]
            omega
          · rw [if_neg h4] at h1
            rw [if_neg (by omega)]
            omega
    · have hlt' : ¬ ((i : Int) < sl ∧ (i : Int) < 40) := by omega
      obtain ⟨B, HB⟩ : ∃ B, Hid (B = told 1 (pinL c) ++ r) := ⟨_, rfl⟩
      have HCB2 : Hid (cb = str B) := by show _ = _; rw [HCB.out, HB.out]
      have hBl : B.length < 1900000 := by rw [HB.out, List.length_append, told_len]; omega
      obtain ⟨al, HAL⟩ : ∃ al, Hid (al = str (fed D B).1) := ⟨_, rfl⟩
      obtain ⟨E, HE⟩ : ∃ E, Hid (E = (fed D B).2) := ⟨_, rfl⟩
      have hfeed1 : Hid (∀ W, KdAt w W g1 D → Calls Tryd.prog 19 #[.pointer (some ⟨g1, 0, none⟩), .string cb] W fun r w' => r = .returned (.string al) ∧ KdAt w w' g1 E ∧ W.grownBy w' (some g1)) := keep_tell G B cb al D E g1 HCB2.out HAL.out HE.out hBl
      have HALL : Hid (∃ r', (fed D B).1 = told 0 [] ++ r') := by
        obtain ⟨e0, he0⟩ := HFF.out
        rw [HB.out, fed_append, he0]
        exact ⟨_, rfl⟩
      have hal4 : 4 ≤ al.size := by
        obtain ⟨r', hr'⟩ := HALL.out
        rw [HAL.out, hr', str_size, List.length_append, told_len]
        omega
      have hal5 : al.size ≤ 70000000 := by
        have := fed_len D B
        rw [HDI.out] at this
        rw [HAL.out, str_size]
        omega
      have halx : al.extract 0 4 = ⟨#[165, 0, 0, 1]⟩ := by
        obtain ⟨r', hr'⟩ := HALL.out
        rw [HAL.out, hr']
        exact told0_four r'
      have hali : (4 : Int) ≤ al.size := by omega
      by_cases q1 : (i : Int) < sl
      · have q2 : ¬ (i : Int) < 40 := fun e => hlt' ⟨q1, e⟩
        go_wp2_with (go_at_call 19; refine (hfeed1.out _ HH.one).mono ?_; rintro _ w6 ⟨rfl, K6, hg6⟩; replace HH := HH.fed1 K6 hg6; clear K6 hg6)
        clear hfeed1
        go_loopw [11, 14, 15] (fun bv ov jv wr => ∃ (j : Nat) (pre rst o : List UInt8) (e : Dv) (rb ob : ByteArray), jv = .int .i64 j ∧ bv = .string rb ∧ rb = str rst ∧ ov = .string ob ∧ ob = str o ∧ B = pre ++ rst ∧ fed D pre = (o, e) ∧ j ≤ cl ∧ PairAt w wr g1 E g2 e) (fun _ _ jv _ => cl - (intOf jv).toNat)
        case atStart => exact ⟨0, [], B, [], D, cb, ⟨#[]⟩, rfl, rfl, HCB2.out, rfl, rfl, rfl, HNIL.out, by omega, HH⟩
        case round =>
          clear HH
          obtain ⟨j, pre, rst, o, e, rb, ob, rfl, rfl, hrb, rfl, hob, hB, hf, hjc, HH⟩ := hrel
          have hrz : rb.size = rst.length := by rw [hrb, str_size]
          have hrl : rst.length ≤ B.length := by rw [hB, List.length_append]; omega
          have HRB : Hid (rb = str rst) := hrb
          have HOB : Hid (ob = str o) := hob
          have HBP : Hid (B = pre ++ rst) := hB
          have HFP : Hid (fed D pre = (o, e)) := hf
          clear hrb hob hB hf
          by_cases hlt : j < cl
          · have q5 : (j : Int) < cl := by omega
            have q6 : (0 : Int) ≤ j := by omega
            obtain ⟨kb2, koff, z, rfl, hkb2, e1, hz0, hz1⟩ := HC.out j hlt
            have e3 : wr.cell? ⟨kb2, koff + j, none⟩ = some (.int .i64 z) := (HH.one.base.cell (p := ⟨kb2, koff + j, none⟩) hkb2).trans e1
            clear e1
            obtain ⟨k, HKK⟩ : ∃ k, Hid (k = pickN z (rb.size + 1)) := ⟨_, rfl⟩
            have hk1 : k < rb.size + 1 := by rw [HKK.out]; exact pickN_lt _ (by omega)
            have hk2 : (k : Int) ≤ rb.size := by omega
            have hk3 : (0 : Int) ≤ k := by omega
            have hk4 : (k : Int).toNat = k := by omega
            have hk5 : k ≤ rb.size := by omega
            have hpick : Hid (∀ W, Calls Tryd.prog 20 #[.int .i64 z, .int .i64 ((rb.size : Int) + 1)] W fun r w' => r = .returned (.int .i64 k) ∧ w' = W) := fun W => pick_next z rb W hz0 hz1 (by omega) k HKK.out
            obtain ⟨x1, HX1⟩ : ∃ x1, Hid (x1 = rb.extract 0 k) := ⟨_, rfl⟩
            obtain ⟨x2, HX2⟩ : ∃ x2, Hid (x2 = rb.extract k rb.size) := ⟨_, rfl⟩
            have hx1 : rb.extract 0 k = x1 := HX1.out.symm
            have hx2 : rb.extract k rb.size = x2 := HX2.out.symm
            have HX1' : Hid (x1 = str (rst.take k)) := by show _ = _; rw [HX1.out, HRB.out, str_take]
            have HX2' : Hid (x2 = str (rst.drop k)) := by show _ = _; rw [HX2.out, HRB.out, str_drop]
            obtain ⟨sB, HSB⟩ : ∃ sB, Hid (sB = str (fed e (rst.take k)).1) := ⟨_, rfl⟩
            obtain ⟨e', HE'⟩ : ∃ e', Hid (e' = (fed e (rst.take k)).2) := ⟨_, rfl⟩
            have hfeed2 : Hid (∀ W, KdAt w W g2 e → Calls Tryd.prog 19 #[.pointer (some ⟨g2, 0, none⟩), .string x1] W fun r w' => r = .returned (.string sB) ∧ KdAt w w' g2 e' ∧ W.grownBy w' (some g2)) := keep_tell G (rst.take k) x1 sB e e' g2 HX1'.out HSB.out HE'.out (by rw [List.length_take]; omega)
            have HNX : Hid (fed D (pre ++ rst.take k) = (o ++ (fed e (rst.take k)).1, e')) := by
              show _ = _
              rw [fed_append, HFP.out, HE'.out]
            have hcat : ob.size + sB.size ≤ 9223372036854775807 := by
              have h1 := fed_le D (pre ++ rst.take k) (rst.drop k)
              rw [List.append_assoc, List.take_append_drop, ← HBP.out, HNX.out, List.length_append] at h1
              have h2 := HAL.out
              have h3 : al.size = (fed D B).1.length := by rw [h2, str_size]
              rw [HOB.out, HSB.out, str_size, str_size]
              omega
            have hrz3 : rb.size < 1900000 := by omega
            have hrz4 : (rb.size : Int) + 1 ≤ 9223372036854775807 := by omega
            clear hrz hrl hk1 hk5
            go_wp2_with (first | (go_at_call 20; refine (hpick.out _).mono ?_; rintro _ wk ⟨rfl, ek⟩; rw [ek]; clear ek wk) | (go_at_call 19; refine (hfeed2.out _ HH.two).mono ?_; rintro _ w7 ⟨rfl, K7, hg7⟩; replace HH := HH.fed2 K7 hg7; clear K7 hg7))
            exact ⟨⟨j + 1, pre ++ rst.take k, rst.drop k, o ++ (fed e (rst.take k)).1, e', x2, ob ++ sB, by go_num, rfl, HX2'.out, rfl, by rw [HOB.out, HSB.out, str_append], by rw [List.append_assoc, List.take_append_drop]; exact HBP.out, HNX.out, by omega, HH⟩, by simp [intOf]; omega⟩
          · have q5 : ¬ (j : Int) < cl := by omega
            obtain ⟨sB, HSB⟩ : ∃ sB, Hid (sB = str (fed e rst).1) := ⟨_, rfl⟩
            have HNX : Hid (fed D B = (o ++ (fed e rst).1, (fed e rst).2)) := by
              show _ = _
              rw [HBP.out, fed_append, HFP.out]
            have HE2 : Hid (E = (fed e rst).2) := by show _ = _; rw [HE.out, HNX.out]
            have hfeed2 : Hid (∀ W, KdAt w W g2 e → Calls Tryd.prog 19 #[.pointer (some ⟨g2, 0, none⟩), .string rb] W fun r w' => r = .returned (.string sB) ∧ KdAt w w' g2 E ∧ W.grownBy w' (some g2)) := keep_tell G rst rb sB e E g2 HRB.out HSB.out HE2.out (by omega)
            have hcat : ob ++ sB = al := by rw [HOB.out, HSB.out, str_append, HAL.out, HNX.out]
            have hcat2 : ob.size + sB.size ≤ 9223372036854775807 := by
              rw [← ByteArray.size_append, hcat]
              omega
            obtain ⟨fl, HFL⟩ : ∃ fl, Hid (fl = E.h0 ++ E.h1) := ⟨_, rfl⟩
            have hfl1 : Hid (∀ W, KdAt w W g1 E → Calls Tryd.prog 21 #[.pointer (some ⟨g1, 0, none⟩)] W fun r w' => r = .returned (.string fl) ∧ KdAt w w' g1 E ∧ Below W.heap.size W w') := fun W K => by rw [HFL.out]; exact keep_Flash K
            have hfl2 : Hid (∀ W, KdAt w W g2 E → Calls Tryd.prog 21 #[.pointer (some ⟨g2, 0, none⟩)] W fun r w' => r = .returned (.string fl) ∧ KdAt w w' g2 E ∧ Below W.heap.size W w') := fun W K => by rw [HFL.out]; exact keep_Flash K
            have t2 : Hid True := trivial
            go_wp2_with (first | (go_at_call 19; refine (hfeed2.out _ HH.two).mono ?_; rintro _ w7 ⟨rfl, K7, hg7⟩; replace HH := HH.fed2 K7 hg7; clear K7 hg7) | (go_at_call 21; first | (have tk := t2; clear tk t2; refine (hfl1.out _ HH.one).mono ?_; rintro _ w8 ⟨rfl, K8, hb8⟩; replace HH := HH.next hb8; clear K8 hb8) | (refine (hfl2.out _ HH.two).mono ?_; rintro _ w9 ⟨rfl, K9, hb9⟩; replace HH := HH.next hb9; clear K9 hb9)))
            go_ret
            exact ⟨rfl, HH.one.base⟩
      · go_wp2_with (go_at_call 19; refine (hfeed1.out _ HH.one).mono ?_; rintro _ w6 ⟨rfl, K6, hg6⟩; replace HH := HH.fed1 K6 hg6; clear K6 hg6)
        clear hfeed1
        go_loopw [11, 14, 15] (fun bv ov jv wr => ∃ (j : Nat) (pre rst o : List UInt8) (e : Dv) (rb ob : ByteArray), jv = .int .i64 j ∧ bv = .string rb ∧ rb = str rst ∧ ov = .string ob ∧ ob = str o ∧ B = pre ++ rst ∧ fed D pre = (o, e) ∧ j ≤ cl ∧ PairAt w wr g1 E g2 e) (fun _ _ jv _ => cl - (intOf jv).toNat)
        case atStart => exact ⟨0, [], B, [], D, cb, ⟨#[]⟩, rfl, rfl, HCB2.out, rfl, rfl, rfl, HNIL.out, by omega, HH⟩
        case round =>
          clear HH
          obtain ⟨j, pre, rst, o, e, rb, ob, rfl, rfl, hrb, rfl, hob, hB, hf, hjc, HH⟩ := hrel
          have hrz : rb.size = rst.length := by rw [hrb, str_size]
          have hrl : rst.length ≤ B.length := by rw [hB, List.length_append]; omega
          have HRB : Hid (rb = str rst) := hrb
          have HOB : Hid (ob = str o) := hob
          have HBP : Hid (B = pre ++ rst) := hB
          have HFP : Hid (fed D pre = (o, e)) := hf
          clear hrb hob hB hf
          by_cases hlt : j < cl
          · have q5 : (j : Int) < cl := by omega
            have q6 : (0 : Int) ≤ j := by omega
            obtain ⟨kb2, koff, z, rfl, hkb2, e1, hz0, hz1⟩ := HC.out j hlt
            have e3 : wr.cell? ⟨kb2, koff + j, none⟩ = some (.int .i64 z) := (HH.one.base.cell (p := ⟨kb2, koff + j, none⟩) hkb2).trans e1
            clear e1
            obtain ⟨k, HKK⟩ : ∃ k, Hid (k = pickN z (rb.size + 1)) := ⟨_, rfl⟩
            have hk1 : k < rb.size + 1 := by rw [HKK.out]; exact pickN_lt _ (by omega)
            have hk2 : (k : Int) ≤ rb.size := by omega
            have hk3 : (0 : Int) ≤ k := by omega
            have hk4 : (k : Int).toNat = k := by omega
            have hk5 : k ≤ rb.size := by omega
            have hpick : Hid (∀ W, Calls Tryd.prog 20 #[.int .i64 z, .int .i64 ((rb.size : Int) + 1)] W fun r w' => r = .returned (.int .i64 k) ∧ w' = W) := fun W => pick_next z rb W hz0 hz1 (by omega) k HKK.out
            obtain ⟨x1, HX1⟩ : ∃ x1, Hid (x1 = rb.extract 0 k) := ⟨_, rfl⟩
            obtain ⟨x2, HX2⟩ : ∃ x2, Hid (x2 = rb.extract k rb.size) := ⟨_, rfl⟩
            have hx1 : rb.extract 0 k = x1 := HX1.out.symm
            have hx2 : rb.extract k rb.size = x2 := HX2.out.symm
            have HX1' : Hid (x1 = str (rst.take k)) := by show _ = _; rw [HX1.out, HRB.out, str_take]
            have HX2' : Hid (x2 = str (rst.drop k)) := by show _ = _; rw [HX2.out, HRB.out, str_drop]
            obtain ⟨sB, HSB⟩ : ∃ sB, Hid (sB = str (fed e (rst.take k)).1) := ⟨_, rfl⟩
            obtain ⟨e', HE'⟩ : ∃ e', Hid (e' = (fed e (rst.take k)).2) := ⟨_, rfl⟩
            have hfeed2 : Hid (∀ W, KdAt w W g2 e → Calls Tryd.prog 19 #[.pointer (some ⟨g2, 0, none⟩), .string x1] W fun r w' => r = .returned (.string sB) ∧ KdAt w w' g2 e' ∧ W.grownBy w' (some g2)) := keep_tell G (rst.take k) x1 sB e e' g2 HX1'.out HSB.out HE'.out (by rw [List.length_take]; omega)
            have HNX : Hid (fed D (pre ++ rst.take k) = (o ++ (fed e (rst.take k)).1, e')) := by
              show _ = _
              rw [fed_append, HFP.out, HE'.out]
            have hcat : ob.size + sB.size ≤ 9223372036854775807 := by
              have h1 := fed_le D (pre ++ rst.take k) (rst.drop k)
              rw [List.append_assoc, List.take_append_drop, ← HBP.out, HNX.out, List.length_append] at h1
              have h2 := HAL.out
              have h3 : al.size = (fed D B).1.length := by rw [h2, str_size]
              rw [HOB.out, HSB.out, str_size, str_size]
              omega
            have hrz3 : rb.size < 1900000 := by omega
            have hrz4 : (rb.size : Int) + 1 ≤ 9223372036854775807 := by omega
            clear hrz hrl hk1 hk5
            go_wp2_with (first | (go_at_call 20; refine (hpick.out _).mono ?_; rintro _ wk ⟨rfl, ek⟩; rw [ek]; clear ek wk) | (go_at_call 19; refine (hfeed2.out _ HH.two).mono ?_; rintro _ w7 ⟨rfl, K7, hg7⟩; replace HH := HH.fed2 K7 hg7; clear K7 hg7))
            exact ⟨⟨j + 1, pre ++ rst.take k, rst.drop k, o ++ (fed e (rst.take k)).1, e', x2, ob ++ sB, by go_num, rfl, HX2'.out, rfl, by rw [HOB.out, HSB.out, str_append], by rw [List.append_assoc, List.take_append_drop]; exact HBP.out, HNX.out, by omega, HH⟩, by simp [intOf]; omega⟩
          · have q5 : ¬ (j : Int) < cl := by omega
            obtain ⟨sB, HSB⟩ : ∃ sB, Hid (sB = str (fed e rst).1) := ⟨_, rfl⟩
            have HNX : Hid (fed D B = (o ++ (fed e rst).1, (fed e rst).2)) := by
              show _ = _
              rw [HBP.out, fed_append, HFP.out]
            have HE2 : Hid (E = (fed e rst).2) := by show _ = _; rw [HE.out, HNX.out]
            have hfeed2 : Hid (∀ W, KdAt w W g2 e → Calls Tryd.prog 19 #[.pointer (some ⟨g2, 0, none⟩), .string rb] W fun r w' => r = .returned (.string sB) ∧ KdAt w w' g2 E ∧ W.grownBy w' (some g2)) := keep_tell G rst rb sB e E g2 HRB.out HSB.out HE2.out (by omega)
            have hcat : ob ++ sB = al := by rw [HOB.out, HSB.out, str_append, HAL.out, HNX.out]
            have hcat2 : ob.size + sB.size ≤ 9223372036854775807 := by
              rw [← ByteArray.size_append, hcat]
              omega
            obtain ⟨fl, HFL⟩ : ∃ fl, Hid (fl = E.h0 ++ E.h1) := ⟨_, rfl⟩
            have hfl1 : Hid (∀ W, KdAt w W g1 E → Calls Tryd.prog 21 #[.pointer (some ⟨g1, 0, none⟩)] W fun r w' => r = .returned (.string fl) ∧ KdAt w w' g1 E ∧ Below W.heap.size W w') := fun W K => by rw [HFL.out]; exact keep_Flash K
            have hfl2 : Hid (∀ W, KdAt w W g2 E → Calls Tryd.prog 21 #[.pointer (some ⟨g2, 0, none⟩)] W fun r w' => r = .returned (.string fl) ∧ KdAt w w' g2 E ∧ Below W.heap.size W w') := fun W K => by rw [HFL.out]; exact keep_Flash K
            have t2 : Hid True := trivial
            go_wp2_with (first | (go_at_call 19; refine (hfeed2.out _ HH.two).mono ?_; rintro _ w7 ⟨rfl, K7, hg7⟩; replace HH := HH.fed2 K7 hg7; clear K7 hg7) | (go_at_call 21; first | (have tk := t2; clear tk t2; refine (hfl1.out _ HH.one).mono ?_; rintro _ w8 ⟨rfl, K8, hb8⟩; replace HH := HH.next hb8; clear K8 hb8) | (refine (hfl2.out _ HH.two).mono ?_; rintro _ w9 ⟨rfl, K9, hb9⟩; replace HH := HH.next hb9; clear K9 hb9)))
            go_ret
            exact ⟨rfl, HH.one.base⟩
end Go.Proofs.YtaokemapkgggoaaDoor

namespace Go.Proofs.YtaokemapkgggoaaDoor
open Go.ChangeShapes Go.WideShapes Go.ChangeAt Go.RowKit

set_option maxRecDepth 100000 in
theorem contract (H : Type) (enc : TypeId × Value → H) (W : World) (base : Nat) (args : Array Value) (ds gs : List (DataW H)) (before : List MemPlace)
    (hval : ∀ (j : Nat) t v, Tryd.f4.params[j]? = some t → args[j]? = some v → Value.okWide Tryd.prog W .any base t v)
    (hW : DataW.Whole enc Tryd.prog Tryd.f4.params.toList Rows.cutsSpec.vars false W args.toList ds gs before) (hL : laidMetH Tryd.prog Rows.cutsUptoRow.laid W) (hk : Rows.uptoSmall H (ds ++ gs) = true) :
    Calls Tryd.prog 4 args W fun e W' => ∃ v, e = .returned v ∧ Rows.cutsSpec.post enc Tryd.prog Tryd.f4 false true false false W args v W' := by
  have hW' := hW
  obtain ⟨p, q, hA0, hV, rfl, _, _⟩ := hW
  have hA : DataW.TrodAll enc Tryd.prog W 0 (fun _ => true) true Tryd.f4.params.toList args.toList ds p := hA0
  have hA2 := hA
  clear hA0
  rw [Tryd.params4] at hA hval
  obtain ⟨u0, l0, d0, e0, p0, q0, E0, D0, P0, h0, hA⟩ := trodAll_cons hA
  obtain ⟨u1, l1, d1, e1, p1, q1, E1, D1, P1, h1, hA⟩ := trodAll_cons hA
  obtain ⟨u2, l2, d2, e2, p2, q2, E2, D2, P2, h2, hA⟩ := trodAll_cons hA
  obtain ⟨u3, l3, d3, e3, p3, q3, E3, D3, P3, h3, hA⟩ := trodAll_cons hA
  obtain ⟨y0, y1, y2⟩ := trodAll_nil hA
  obtain ⟨rfl, rfl⟩ := trodVars_none hV
  obtain rfl : args = #[u0, u1, u2, u3] := Array.toList_inj.1 (by rw [E0, E1, E2, E3, y0])
  obtain rfl : ds = [d0, d1, d2, d3] := by rw [D0, D1, D2, D3, y1]
  clear E0 P0 E1 P1 E2 P2 E3 P3 D0 D1 D2 D3 y0 y1 y2 hA
  obtain ⟨c, rfl⟩ := okWide_int underI (hval 0 3 u0 rfl rfl)
  have b0 : -9223372036854775808 ≤ c ∧ c ≤ 9223372036854775807 := int_in h0
  obtain ⟨v1a, v1n, v1c, rfl⟩ := okWide_slice underSteps (hval 1 33 u1 rfl rfl)
  have s1 : StepsAt W v1a v1n ∧ v1n ≤ maxLen := by obtain ⟨fuel, hf⟩ := h1; exact steps_in hf
  obtain ⟨junk, rfl⟩ := okWide_string under_str (hval 2 9 u2 rfl rfl)
  have b2 : junk.size ≤ maxLen ∧ d2 = .lit (.string junk.data.toList) := str_in h2
  obtain ⟨v3a, v3n, v3c, rfl⟩ := okWide_slice underInts (hval 3 34 u3 rfl rfl)
  have s3 : IntsAt W v3a v3n ∧ v3n ≤ maxLen := by obtain ⟨fuel, hf⟩ := h3; exact ints_in hf
  simp only [List.append_nil] at hW' hk
  have hk2 : Rows.uptoBulkAll [d0, d1, d2, d3] ≤ 1048576 := of_decide_eq_true hk
  have hjz : junk.size ≤ 1048576 := by
    have h1 := bulk_part (l := [d0, d1, d2, d3]) (d := d2) (by simp)
    rw [b2.2, bulk_string] at h1
    rw [b2.2] at hk2
    have h2 : junk.size = junk.data.toList.length := by rw [Array.length_toList]; rfl
    omega
  have hlt : ∀ x ∈ p, x.block < W.heap.size := fun x hx => by simpa using hW'.lt x hx
  refine (keep_Cuts W c v1a v3a v1n v1c v3n v3c junk (glob_of_laid hL) b0.1 b0.2 s1.1 s3.1 (Nat.lt_of_le_of_lt s1.2 (by decide)) (Nat.lt_of_le_of_lt s3.2 (by decide)) hjz).mono fun e W' ⟨he, hb⟩ => ?_
  subst he
  refine ⟨_, rfl, _, _, _, [], _, [], hW', ?_, below_trodAll hb ?_ hA2 hlt, rfl, hb.frame _, fun h => by cases h⟩
  · exact trodAll_mk1 (shut_bool underB _)
  · intro t ht
    rw [Tryd.params4] at ht
    have z0 : t ∈ [3, 33, 9, 34] := ht
    rcases List.mem_cons.1 z0 with rfl | z1
    · exact ⟨by kernel_rfl, of_decide_eq_true (by kernel_rfl)⟩
    rcases List.mem_cons.1 z1 with rfl | z2
    · exact ⟨by kernel_rfl, of_decide_eq_true (by kernel_rfl)⟩
    rcases List.mem_cons.1 z2 with rfl | z3
    · exact ⟨by kernel_rfl, of_decide_eq_true (by kernel_rfl)⟩
    rcases List.mem_cons.1 z3 with rfl | z4
    · exact ⟨by kernel_rfl, of_decide_eq_true (by kernel_rfl)⟩
    cases z4

theorem laid_met (os : Os) : laidMet Tryd.prog Rows.cutsUptoRow.laid ((laidWorld Tryd.prog os).forCall (fun _ _ => 0) ⟨#[], #[.int .i64 0, .slice none 0 0, .string ⟨#[]⟩, .slice none 0 0], []⟩).memory :=
  laidMet_of_run' 8 (by kernel_rfl) (by kernel_rfl)
theorem reads (os : Os) {H : Type} (enc : TypeId × Value → H) : ∃ places, DataW.whole enc Tryd.prog ((laidWorld Tryd.prog os).forCall (fun _ _ => 0) ⟨#[], #[.int .i64 0, .slice none 0 0, .string ⟨#[]⟩, .slice none 0 0], []⟩).memory Tryd.f4.params.toList Rows.cutsSpec.vars false #[Value.int .i64 0, Value.slice none 0 0, Value.string ⟨#[]⟩, Value.slice none 0 0].toList 8 = some ([.lit (.int .i64 0), .nil, .lit (.string []), .nil], [], places) :=
  ⟨[], by kernel_rfl⟩

set_option maxRecDepth 100000 in
theorem lifted (os : Os) (started : os.Started) (H : Type) (enc : TypeId × Value → H) (F : Stop.Interp) :
    ReturnsInHanded {} Tryd.checked os 4 .any ((Rows.OpenSpec.upto Rows.cutsSpec).preRow enc Tryd.prog Tryd.f4 Rows.cutsUptoRow.domain false Rows.cutsUptoRow.laid) (((Rows.OpenSpec.upto Rows.cutsSpec).at F).post enc Tryd.prog Tryd.f4 false true false false) := by
  obtain ⟨places, hx⟩ := reads os enc
  refine returnsInHanded_of_row (C := Tryd.checked) (s := (Rows.OpenSpec.upto Rows.cutsSpec)) own started (by kernel_rfl) Tryd.func4
    (witness_row_at (enc := enc) (C := Tryd.checked) false (laidWorld Tryd.prog os) #[.int .i64 0, .slice none 0 0, .string ⟨#[]⟩, .slice none 0 0] rfl (by kernel_rfl) (by kernel_rfl) (by kernel_rfl)
      (OpenSpec.preRow_of_cond 8 hx (by kernel_rfl) (fun k hk => by cases hk; kernel_rfl) (by kernel_rfl) (laid_met os))) ?_
  intro W base args ds gs before hval hW _ hcond _ hL _ _
  exact contract H enc W base args ds gs before hval hW hL (hcond _ rfl)

theorem said : Rows.CutsUptoSaid :=
  OpenClaim.holds_of_cond 4 Tryd.f4 rfl rfl rfl rfl rfl rfl rfl ⟨rfl, rfl, rfl, rfl, rfl⟩ rfl rfl rfl rfl rfl (by kernel_rfl) Tryd.func4 (by kernel_rfl)
    (of_decide_eq_true (by kernel_rfl)) (by unfold Func.isWrapper; first | (rw [if_pos (by decide +kernel)]; kernel_rfl) | (rw [if_neg (by decide +kernel)]; exact ⟨rfl, rfl⟩))
    (fun os started H enc _ F => by rw [OpenClaim.pre_eq_preRow]; exact lifted os started H enc F)

theorem plain (f : FuncId) (fn : Func) (hf : Tryd.pinned.checked.prog.funcNamed "warden/wardenkeep.Cuts" = some f) (hfn : Tryd.pinned.checked.prog.funcs[f]? = some fn) :
    true = Tryd.pinned.checked.prog.looks [] ∧ ∀ (j : Nat) t, fn.params[j]? = some t → Tryd.pinned.checked.prog.wantsStandIn t = false := by
  obtain rfl : f = 4 := Option.some.inj ((show Tryd.prog.funcNamed "warden/wardenkeep.Cuts" = some 4 by kernel_rfl).symm.trans hf) |>.symm
  obtain rfl : fn = Tryd.f4 := (Option.some.inj (Tryd.func4.symm.trans hfn)).symm
  refine ⟨by kernel_rfl, fun j t ht => ?_⟩
  rw [Tryd.params4] at ht
  have z0 : t ∈ [3, 33, 9, 34] := Array.mem_def.1 (Array.mem_of_getElem? ht)
  rcases List.mem_cons.1 z0 with rfl | z1
  · exact (show Tryd.prog.wantsStandIn 3 = false by kernel_rfl)
  rcases List.mem_cons.1 z1 with rfl | z2
  · exact (show Tryd.prog.wantsStandIn 33 = false by kernel_rfl)
  rcases List.mem_cons.1 z2 with rfl | z3
  · exact (show Tryd.prog.wantsStandIn 9 = false by kernel_rfl)
  rcases List.mem_cons.1 z3 with rfl | z4
  · exact (show Tryd.prog.wantsStandIn 34 = false by kernel_rfl)
  cases z4

theorem cuts_holds : Rows.CutsUptoCardSaid :=
  Claim7.holds_tied_plain_at .later [] _ _ _ _ said (fun _ h => by cases h) (by kernel_rfl) (fun _ h => by cases h) cutsUpto_row_tie rfl ⟨rfl, rfl⟩ (by kernel_rfl) rfl plain (by kernel_rfl)
end Go.Proofs.YtaokemapkgggoaaDoor
