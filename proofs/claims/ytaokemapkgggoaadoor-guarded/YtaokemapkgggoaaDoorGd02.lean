import Derived.Test.YtaokemapkgggoaaDoorKb32
import Derived.Test.YtaokemapkgggoaaDoorGd01
namespace Go.Proofs.YtaokemapkgggoaaDoor
open Go.RowKit

theorem tdiv3 {z : Int} (h0 : -9223372036854775808 ≤ z) (h1 : z ≤ 9223372036854775807) : -9223372036854775808 ≤ z.tdiv 3 ∧ z.tdiv 3 ≤ 9223372036854775807 := by
  rcases Int.le_total 0 z with h | h
  · rw [Int.tdiv_eq_ediv_of_nonneg h]; omega
  · have e : z = -(-z) := by omega
    rw [e, Int.neg_tdiv, Int.tdiv_eq_ediv_of_nonneg (by omega)]; omega
theorem fed_four {d : Dv} (ho : d.off = false) (hi : d.inn = ⟨#[]⟩) (hu : d.unl = false) (l : List UInt8) (hl : l.length ≤ 48) : fed d (told 4 l) = (told 2 [], d) := by
  have e : d.commandC 4 (str l) = (d, 2, []) := by
    rw [Dv.commandC_command (by omega) (by omega) (by omega)]
    unfold Dv.command
    rw [if_neg (by omega), if_neg (by omega), if_neg (by omega), if_pos (by omega)]
    unfold Dv.slot
    rw [if_pos hu]
  exact fed_on 4 l (by omega) (by omega) hl ho hi e ho hi
theorem fed_none {d : Dv} (ho : d.off = false) (hi : d.inn = ⟨#[]⟩) (ht : d.k.tries = 0) (l : List UInt8) (h1 : 1 ≤ l.length) (h2 : l.length ≤ 8) : fed d (told 1 l) = (told 5 [], d) := by
  have e : d.commandC 1 (str l) = (d, 5, []) := by
    unfold Dv.commandC
    rw [if_pos rfl]
    unfold Dv.unlockC
    rw [if_neg (by rw [str_size]; omega), if_pos ht]
  exact fed_on 1 l (by omega) (by omega) (by omega) ho hi e ho hi
theorem told_ne (st : Int) (l : List UInt8) : (str (told st l)).toList.isEmpty = false := toList_ne_nil (by rw [str_size, told_len]; omega)
theorem fresh_guard (p : List UInt8) : GuardAt p 5 1 (Dv.fresh 0 (str p)) := ⟨rfl, rfl, by show (-1 : Int) < 0; omega, rfl, rfl, fun h => absurd h (by omega), Int.le_refl _⟩
theorem frame_lit (st : Int) (p : ByteArray) (l : List UInt8) (hp : p.data.toList = l) (W : World) (h0 : 0 ≤ st) (h1 : st < 256) (hl : l.length < 1000) (x : ByteArray) (hx : x = str (told st l)) :
    Calls Tryd.prog 16 #[.int .i64 st, .string p] W fun r w' => r = .returned (.string x) ∧ Below W.heap.size W w' := by
  have := keep_frame st p W h0 h1 (by have : p.size = p.data.toList.length := (by rw [Array.length_toList]; rfl); rw [this, hp]; omega)
  rw [hp] at this
  rw [hx]
  exact this

set_option maxRecDepth 100000 in
set_option maxHeartbeats 20000000 in
theorem keep_Guarded (w : World) (c : Int) (so po : Option Addr) (sl sc pl pc : Nat) (G : Glob w) (hc0 : -9223372036854775808 ≤ c) (hc1 : c ≤ 9223372036854775807) (hS : StepsAt w so sl) (hP : IntsAt w po pl) (hsl : sl < 9223372036854775808) :
    Calls Tryd.prog 7 #[.int .i64 c, .slice so sl sc, .slice po pl pc] w fun r w' => r = .returned (.bool true) ∧ Below w.heap.size w w' := by
  obtain ⟨pb, HPB⟩ : ∃ pb, Hid (pb = str (pinL c)) := ⟨_, rfl⟩
  have hop := keep_opened w w c G (Below.refl _ _) hc0 hc1
  have hpin := fun W => keep_pin c W hc0 hc1
  rw [← HPB.out] at hpin
  go_enter Tryd.func7, Tryd.ntmps7
  go_wp2_with (first | (go_at_call 15; refine hop.mono ?_; rintro _ w1 ⟨g, rfl, hg, K, hb1⟩; clear hop) | (go_at_call 17; refine (hpin _).mono ?_; rintro _ w2 ⟨rfl, hb2⟩; have K2 := K.next hb2; clear hb2 K))
  clear hpin
  go_loopw [9, 10] (fun lv iv wr => ∃ (i : Nat) (left : Int) (d : Dv), iv = .int .i64 i ∧ lv = .int .i64 left ∧ i ≤ 40 ∧ i ≤ sl ∧ GuardAt (pinL c) left (1 + 2 * i) d ∧ KdAt w wr g d) (fun _ iv _ => 40 - (intOf iv).toNat)
  case atStart => exact ⟨0, 5, _, rfl, rfl, by omega, by omega, fresh_guard _, K2⟩
  case round =>
    clear K2
    obtain ⟨i, left, d, rfl, rfl, hi40, hisl, GA, KD⟩ := hrel
    by_cases hlt : i < sl ∧ i < 40
    · obtain ⟨hlt1, hlt2⟩ := hlt
      have q1 : (i : Int) < sl := by omega
      have q2 : (i : Int) < 40 := by omega
      have q0 : (0 : Int) ≤ i := by omega
      obtain ⟨sb, soff, kk, a, nn, rfl, hsb, c1, c2, c3, -, -, ha0, ha1, -, -⟩ := hS i hlt1
      have e2 : wr.cell? ⟨sb, soff + i * 3 + 1, none⟩ = some (.int .i64 a) := (KD.base.cell (p := ⟨sb, soff + i * 3 + 1, none⟩) hsb).trans c2
      have HC2 : Hid _ := c2
      clear c1 c2 c3
      obtain ⟨qb, HQB⟩ : ∃ qb, Hid (qb = str (pinL a)) := ⟨_, rfl⟩
      obtain ⟨fq, HFQ⟩ : ∃ fq, Hid (fq = str (told 1 (pinL a))) := ⟨_, rfl⟩
      obtain ⟨la1, la2⟩ := pinL_len a
      obtain ⟨lc1, lc2⟩ := pinL_len c
      have hpinA : Hid (∀ W : World, Calls Tryd.prog 17 #[.int .i64 a] W fun r w' => r = .returned (.string qb) ∧ Below W.heap.size W w') := fun W => by rw [HQB.out]; exact keep_pin a W ha0 ha1
      have hfr1 : Hid (∀ W : World, Calls Tryd.prog 16 #[.int .i64 1, .string qb] W fun r w' => r = .returned (.string fq) ∧ Below W.heap.size W w') := fun W => frame_lit 1 qb (pinL a) (by rw [HQB.out]; exact str_list _) W (by omega) (by omega) (by omega) fq HFQ.out
      have hnum : (1 : Int) + 2 * i + 2 < 4294967295 := by omega
      have t1 : Hid True := trivial
      have t2 : Hid True := trivial
      have t3 : Hid True := trivial
      have t4 : Hid True := trivial
      have t5 : Hid True := trivial
      have t6 : Hid True := trivial
      have s1 : Hid True := trivial
      have s2 : Hid True := trivial
      have s3 : Hid True := trivial
      have HL0 : Hid (0 ≤ left ∧ left ≤ 5) := by show _ ∧ _; rw [← GA.tries]; exact ⟨KD.ok.t0, KD.ok.t1⟩
      by_cases hpw : i < pl
      · obtain ⟨ob, ooff, z, rfl, hob, e1, hz0, hz1⟩ := hP i hpw
        have r1 : (i : Int) < pl := by omega
        have e3 : wr.cell? ⟨ob, ooff + i, none⟩ = some (.int .i64 z) := (KD.base.cell (p := ⟨ob, ooff + i, none⟩) hob).trans e1
        clear e1
        by_cases hz3 : z.tmod 3 = 0
        · have hz3b : (z.tmod 3 == 0) = true := by rw [hz3]; rfl
          clear hz3
          obtain ⟨nk, HNK⟩ : ∃ nk, Hid (nk = pickN (z.tdiv 3) 300) := ⟨_, rfl⟩
          have hnk : nk < 300 := by rw [HNK.out]; exact pickN_lt _ (by omega)
          have hnk0 : (0 : Int) ≤ nk := by omega
          have hnk1 : ¬ (nk : Int) < 0 := by omega
          have hdv : -9223372036854775808 ≤ z.tdiv 3 ∧ z.tdiv 3 ≤ 9223372036854775807 := tdiv3 hz0 hz1
          have hpick : Hid (∀ W, Calls Tryd.prog 20 #[.int .i64 (z.tdiv 3), .int .i64 300] W fun r w' => r = .returned (.int .i64 nk) ∧ w' = W) := fun W => by rw [HNK.out]; exact keep_pick _ 300 W hdv.1 hdv.2 (by omega) (by omega)
          obtain ⟨D0, HD0⟩ : ∃ D0 : Dv, Hid (D0 = if true = true then ({ d with cut := ((nk : Nat) : Int) } : Dv) else d) := ⟨_, rfl⟩
          obtain ⟨left', GA', hl0, hl5, hcase⟩ := guard_round GA HD0.out la1 la2 KD.ok hnum
          obtain ⟨D1, HD1⟩ : ∃ D1, Hid (D1 = (fed D0 (told 1 (pinL a))).2) := ⟨_, rfl⟩
          obtain ⟨sB, HSB⟩ : ∃ sB, Hid (sB = str (fed D0 (told 1 (pinL a))).1) := ⟨_, rfl⟩
          obtain ⟨D2, HD2⟩ : ∃ D2, Hid (D2 = after true (fed D0 (told 1 (pinL a))).2) := ⟨_, rfl⟩
          have hfeed : Hid (∀ W, KdAt w W g D0 → Calls Tryd.prog 19 #[.pointer (some ⟨g, 0, none⟩), .string fq] W fun r w' => r = .returned (.string sB) ∧ KdAt w w' g D1 ∧ W.grownBy w' (some g)) := fun W K => by rw [HSB.out, HD1.out]; exact keep_fed G K rfl (by rw [told_len]; omega) _ HFQ.out
          have hcut : Hid (∀ W, KdAt w W g d → Calls Tryd.prog 24 #[.pointer (some ⟨g, 0, none⟩), .int .i64 nk] W fun r w' => r = .returned (.int .i64 0) ∧ KdAt w w' g D0 ∧ W.grownBy w' (some g)) := fun W K => by rw [HD0.out]; exact keep_Cut K nk (by omega)
          have hboot : Hid (∀ W, KdAt w W g D1 → Calls Tryd.prog 25 #[.pointer (some ⟨g, 0, none⟩)] W fun r w' => r = .returned (.int .i64 0) ∧ KdAt w w' g D2 ∧ W.grownBy w' (some g)) := fun W K => by rw [HD2.out, ← HD1.out]; exact keep_Boot K
          obtain ⟨ni, HNI⟩ : ∃ ni : Int, Hid (ni = nk) := ⟨_, rfl⟩
          rw [← HNI.out] at hpick hcut hnk0 hnk1
          have hnkc : (ni < 0) = False := eq_false hnk1
          clear hnk1
          rw [← HD2.out] at GA' hcase
          have hcase2 : ((sB = ⟨#[]⟩ ∧ true = true ∧ D2.unl = false ∧ (left' = left ∨ left' = left - 1)) ∨ (left = 0 ∧ sB = str (told 5 []) ∧ left' = 0 ∧ D2.unl = false) ∨ (¬ left = 0 ∧ qb = pb ∧ sB = str (told 0 []) ∧ left' = 5) ∨ (¬ left = 0 ∧ ¬ qb = pb ∧ sB = str (told 3 [b8 (left - 1)]) ∧ left' = left - 1 ∧ D2.unl = false)) := by
            rw [HSB.out, HQB.out, HPB.out]
            rcases hcase with ⟨x1, x2, x3, x4⟩ | ⟨x1, x2, x3, x4⟩ | ⟨x1, x2, x3, x4⟩ | ⟨x1, x2, x3, x4, x5⟩
            · exact .inl ⟨by rw [x1]; rfl, x2, x3, x4⟩
            · exact .inr (.inl ⟨x1, by rw [x2], x3, x4⟩)
            · exact .inr (.inr (.inl ⟨x1, by rw [x2], by rw [x3], x4⟩))
            · exact .inr (.inr (.inr ⟨x1, fun e => x2 (by have := congrArg (fun b : ByteArray => b.data.toList) e; simpa only [str_list] using this), by rw [x3], x4, x5⟩))
          clear hcase
          have htell0 : ∀ W, KdAt w W g D2 → Calls Tryd.prog 23 #[.pointer (some ⟨g, 0, none⟩)] W fun r w' => r = .returned (.tuple #[.int .i64 (if D2.unl then 1 else 0), .int .i64 left', .int .i64 (D2.k.bits 4), .bool true]) ∧ KdAt w w' g D2 ∧ W.grownBy w' (some g) := fun W K => by have := keep_tells G K GA'.off GA'.inn; rw [GA'.tries] at this; exact this
          generalize D2.k.bits 4 = bi at htell0
          have hne := told_ne
          have HGA : Hid (GuardAt (pinL c) left' (1 + 2 * ((i + 1 : Nat) : Int)) D2) := ⟨GA'.off, GA'.inn, GA'.cut, GA'.pin, GA'.tries, GA'.lock, by have := GA'.num; omega⟩
          rcases hcase2 with ⟨x1, x2, x3, x4⟩ | ⟨x1, x2, x3, x4⟩ | ⟨x1, x2, x3, x4⟩ | ⟨x1, x2, x3, x4, x5⟩
          · have y0 : sB.toList.isEmpty = true := by rw [x1, ByteArray.toList_eq]; rfl
            clear x1
            rw [x3, if_neg (by decide)] at htell0
            have htell : Hid _ := htell0
            clear htell0 hne
            have y1 : ¬ left < left' := by omega
            have y2 : ¬ 5 < left' := by omega
            have y1c : (left < left') = False := eq_false y1
            have y2c : (5 < left') = False := eq_false y2
            clear x2 x3 x4 y1 y2
            by_cases hz' : left' = 0
            · have hu0 := GA'.lock hz'
              obtain ⟨f4, HF4⟩ : ∃ f4, Hid (f4 = str (told 4 [0, 120])) := ⟨_, rfl⟩
              obtain ⟨f2, HF2⟩ : ∃ f2, Hid (f2 = str (told 2 [])) := ⟨_, rfl⟩
              obtain ⟨f5, HF5⟩ : ∃ f5, Hid (f5 = str (told 5 [])) := ⟨_, rfl⟩
              obtain ⟨fR, HFR⟩ : ∃ fR, Hid (fR = str (told 1 (pinL c))) := ⟨_, rfl⟩
              have hfr4 : Hid (∀ W : World, Calls Tryd.prog 16 #[.int .i64 4, .string ⟨#[0, 120]⟩] W fun r w' => r = .returned (.string f4) ∧ Below W.heap.size W w') := fun W => frame_lit 4 _ [0, 120] rfl W (by omega) (by omega) (by decide) f4 HF4.out
              have hfr2 : Hid (∀ W : World, Calls Tryd.prog 16 #[.int .i64 2, .string ⟨#[]⟩] W fun r w' => r = .returned (.string f2) ∧ Below W.heap.size W w') := fun W => frame_lit 2 _ [] rfl W (by omega) (by omega) (by decide) f2 HF2.out
              have hfr5 : Hid (∀ W : World, Calls Tryd.prog 16 #[.int .i64 5, .string ⟨#[]⟩] W fun r w' => r = .returned (.string f5) ∧ Below W.heap.size W w') := fun W => frame_lit 5 _ [] rfl W (by omega) (by omega) (by decide) f5 HF5.out
              have hfrR : Hid (∀ W : World, Calls Tryd.prog 16 #[.int .i64 1, .string pb] W fun r w' => r = .returned (.string fR) ∧ Below W.heap.size W w') := fun W => frame_lit 1 pb (pinL c) (by rw [HPB.out]; exact str_list _) W (by omega) (by omega) (by omega) fR HFR.out
              have hfeed4 : Hid (∀ W, KdAt w W g D2 → Calls Tryd.prog 19 #[.pointer (some ⟨g, 0, none⟩), .string f4] W fun r w' => r = .returned (.string f2) ∧ KdAt w w' g D2 ∧ W.grownBy w' (some g)) := fun W K => by rw [HF2.out]; exact keep_fed G K (fed_four GA'.off GA'.inn hu0 [0, 120] (by decide)) (by rw [told_len]; decide) _ HF4.out
              have hfeedR : Hid (∀ W, KdAt w W g D2 → Calls Tryd.prog 19 #[.pointer (some ⟨g, 0, none⟩), .string fR] W fun r w' => r = .returned (.string f5) ∧ KdAt w w' g D2 ∧ W.grownBy w' (some g)) := fun W K => by rw [HF5.out]; exact keep_fed G K (fed_none GA'.off GA'.inn (GA'.tries.trans hz') (pinL c) lc1 lc2) (by rw [told_len]; omega) _ HFR.out
              by_cases hqp : qb = pb
              · have hqe : (qb.toList == pb.toList) = true := (by rw [hqp]; exact beq_self_eq_true _)
                clear hqp
                subst hz'
                go_wp2_with (first | (go_at_call 16; first | (have tk := t1; clear tk t1; refine (hfr1.out _).mono ?_; rintro _ wf ⟨rfl, hbf⟩; replace KD := KD.next hbf; clear hbf) | (have tk := t3; clear tk t3; refine (hfr4.out _).mono ?_; rintro _ wf ⟨rfl, hbf⟩; replace KD := KD.next hbf; clear hbf) | (have tk := t4; clear tk t4; refine (hfrR.out _).mono ?_; rintro _ wf ⟨rfl, hbf⟩; replace KD := KD.next hbf; clear hbf) | (have tk := t5; clear tk t5; refine (hfr2.out _).mono ?_; rintro _ wf ⟨rfl, hbf⟩; replace KD := KD.next hbf; clear hbf) | (have tk := t6; clear tk t6; refine (hfr5.out _).mono ?_; rintro _ wf ⟨rfl, hbf⟩; replace KD := KD.next hbf; clear hbf)) | (go_at_call 17; first | (refine (hpinA.out _).mono ?_; rintro _ wp ⟨rfl, hbp⟩; replace KD := KD.next hbp; clear hbp)) | (go_at_call 20; first | (refine (hpick.out _).mono ?_; rintro _ wk ⟨rfl, ek⟩; rw [ek]; clear ek wk)) | (go_at_call 24; first | (refine (hcut.out _ KD).mono ?_; clear KD; rintro _ wc ⟨rfl, KD, -⟩; have e4 : wc.cell? ⟨sb, soff + i * 3 + 1, none⟩ = some (.int .i64 a) := (KD.base.cell (p := ⟨sb, soff + i * 3 + 1, none⟩) hsb).trans HC2.out)) | (go_at_call 25; first | (refine (hboot.out _ KD).mono ?_; clear KD; rintro _ wo ⟨rfl, KD, -⟩)) | (go_at_call 19; first | (have tk := s1; clear tk s1; refine (hfeed.out _ KD).mono ?_; clear KD; rintro _ wd ⟨rfl, KD, -⟩) | (have tk := s2; clear tk s2; refine (hfeed4.out _ KD).mono ?_; clear KD; rintro _ wd ⟨rfl, KD, -⟩) | (have tk := s3; clear tk s3; refine (hfeedR.out _ KD).mono ?_; clear KD; rintro _ wd ⟨rfl, KD, -⟩)) | (go_at_call 23; first | (refine (htell.out _ KD).mono ?_; clear KD; rintro _ wt ⟨rfl, KD, -⟩)))
                exact ⟨⟨i + 1, 0, D2, by go_num, rfl, by omega, by omega, HGA.out, KD⟩, by simp [intOf]; omega⟩
              · have hqn := bytes_ne hqp
                clear hqp
                subst hz'
                go_wp2_with (first | (go_at_call 16; first | (have tk := t1; clear tk t1; refine (hfr1.out _).mono ?_; rintro _ wf ⟨rfl, hbf⟩; replace KD := KD.next hbf; clear hbf) | (have tk := t3; clear tk t3; refine (hfr4.out _).mono ?_; rintro _ wf ⟨rfl, hbf⟩; replace KD := KD.next hbf; clear hbf) | (have tk := t4; clear tk t4; refine (hfrR.out _).mono ?_; rintro _ wf ⟨rfl, hbf⟩; replace KD := KD.next hbf; clear hbf) | (have tk := t5; clear tk t5; refine (hfr2.out _).mono ?_; rintro _ wf ⟨rfl, hbf⟩; replace KD := KD.next hbf; clear hbf) | (have tk := t6; clear tk t6; refine (hfr5.out _).mono ?_; rintro _ wf ⟨rfl, hbf⟩; replace KD := KD.next hbf; clear hbf)) | (go_at_call 17; first | (refine (hpinA.out _).mono ?_; rintro _ wp ⟨rfl, hbp⟩; replace KD := KD.next hbp; clear hbp)) | (go_at_call 20; first | (refine (hpick.out _).mono ?_; rintro _ wk ⟨rfl, ek⟩; rw [ek]; clear ek wk)) | (go_at_call 24; first | (refine (hcut.out _ KD).mono ?_; clear KD; rintro _ wc ⟨rfl, KD, -⟩; have e4 : wc.cell? ⟨sb, soff + i * 3 + 1, none⟩ = some (.int .i64 a) := (KD.base.cell (p := ⟨sb, soff + i * 3 + 1, none⟩) hsb).trans HC2.out)) | (go_at_call 25; first | (refine (hboot.out _ KD).mono ?_; clear KD; rintro _ wo ⟨rfl, KD, -⟩)) | (go_at_call 19; first | (have tk := s1; clear tk s1; refine (hfeed.out _ KD).mono ?_; clear KD; rintro _ wd ⟨rfl, KD, -⟩) | (have tk := s2; clear tk s2; refine (hfeed4.out _ KD).mono ?_; clear KD; rintro _ wd ⟨rfl, KD, -⟩) | (have tk := s3; clear tk s3; refine (hfeedR.out _ KD).mono ?_; clear KD; rintro _ wd ⟨rfl, KD, -⟩)) | (go_at_call 23; first | (refine (htell.out _ KD).mono ?_; clear KD; rintro _ wt ⟨rfl, KD, -⟩)))
                exact ⟨⟨i + 1, 0, D2, by go_num, rfl, by omega, by omega, HGA.out, KD⟩, by simp [intOf]; omega⟩
            · have hzb : (left' == 0) = false := beq_eq_false_iff_ne.2 hz'
              clear hz'
              by_cases hqp : qb = pb
              · have hqe : (qb.toList == pb.toList) = true := (by rw [hqp]; exact beq_self_eq_true _)
                clear hqp
                go_wp2_with (first | (go_at_call 16; first | (have tk := t1; clear tk t1; refine (hfr1.out _).mono ?_; rintro _ wf ⟨rfl, hbf⟩; replace KD := KD.next hbf; clear hbf)) | (go_at_call 17; first | (refine (hpinA.out _).mono ?_; rintro _ wp ⟨rfl, hbp⟩; replace KD := KD.next hbp; clear hbp)) | (go_at_call 20; first | (refine (hpick.out _).mono ?_; rintro _ wk ⟨rfl, ek⟩; rw [ek]; clear ek wk)) | (go_at_call 24; first | (refine (hcut.out _ KD).mono ?_; clear KD; rintro _ wc ⟨rfl, KD, -⟩; have e4 : wc.cell? ⟨sb, soff + i * 3 + 1, none⟩ = some (.int .i64 a) := (KD.base.cell (p := ⟨sb, soff + i * 3 + 1, none⟩) hsb).trans HC2.out)) | (go_at_call 25; first | (refine (hboot.out _ KD).mono ?_; clear KD; rintro _ wo ⟨rfl, KD, -⟩)) | (go_at_call 19; first | (have tk := s1; clear tk s1; refine (hfeed.out _ KD).mono ?_; clear KD; rintro _ wd ⟨rfl, KD, -⟩)) | (go_at_call 23; first | (refine (htell.out _ KD).mono ?_; clear KD; rintro _ wt ⟨rfl, KD, -⟩)))
                exact ⟨⟨i + 1, left', D2, by go_num, rfl, by omega, by omega, HGA.out, KD⟩, by simp [intOf]; omega⟩
              · have hqn := bytes_ne hqp
                clear hqp
                go_wp2_with (first | (go_at_call 16; first | (have tk := t1; clear tk t1; refine (hfr1.out _).mono ?_; rintro _ wf ⟨rfl, hbf⟩; replace KD := KD.next hbf; clear hbf)) | (go_at_call 17; first | (refine (hpinA.out _).mono ?_; rintro _ wp ⟨rfl, hbp⟩; replace KD := KD.next hbp; clear hbp)) | (go_at_call 20; first | (refine (hpick.out _).mono ?_; rintro _ wk ⟨rfl, ek⟩; rw [ek]; clear ek wk)) | (go_at_call 24; first | (refine (hcut.out _ KD).mono ?_; clear KD; rintro _ wc ⟨rfl, KD, -⟩; have e4 : wc.cell? ⟨sb, soff + i * 3 + 1, none⟩ = some (.int .i64 a) := (KD.base.cell (p := ⟨sb, soff + i * 3 + 1, none⟩) hsb).trans HC2.out)) | (go_at_call 25; first | (refine (hboot.out _ KD).mono ?_; clear KD; rintro _ wo ⟨rfl, KD, -⟩)) | (go_at_call 19; first | (have tk := s1; clear tk s1; refine (hfeed.out _ KD).mono ?_; clear KD; rintro _ wd ⟨rfl, KD, -⟩)) | (go_at_call 23; first | (refine (htell.out _ KD).mono ?_; clear KD; rintro _ wt ⟨rfl, KD, -⟩)))
                exact ⟨⟨i + 1, left', D2, by go_num, rfl, by omega, by omega, HGA.out, KD⟩, by simp [intOf]; omega⟩
          · subst x1 x3
            have y0 := hne 5 []
            rw [← x2] at y0
            rw [x4, if_neg (by decide)] at htell0
            have htell : Hid _ := htell0
            clear htell0 hne
            have hz' : (0 : Int) = 0 := rfl
            have hu0 := GA'.lock hz'
            obtain ⟨f4, HF4⟩ : ∃ f4, Hid (f4 = str (told 4 [0, 120])) := ⟨_, rfl⟩
            obtain ⟨f2, HF2⟩ : ∃ f2, Hid (f2 = str (told 2 [])) := ⟨_, rfl⟩
            obtain ⟨f5, HF5⟩ : ∃ f5, Hid (f5 = str (told 5 [])) := ⟨_, rfl⟩
            obtain ⟨fR, HFR⟩ : ∃ fR, Hid (fR = str (told 1 (pinL c))) := ⟨_, rfl⟩
            have hfr4 : Hid (∀ W : World, Calls Tryd.prog 16 #[.int .i64 4, .string ⟨#[0, 120]⟩] W fun r w' => r = .returned (.string f4) ∧ Below W.heap.size W w') := fun W => frame_lit 4 _ [0, 120] rfl W (by omega) (by omega) (by decide) f4 HF4.out
            have hfr2 : Hid (∀ W : World, Calls Tryd.prog 16 #[.int .i64 2, .string ⟨#[]⟩] W fun r w' => r = .returned (.string f2) ∧ Below W.heap.size W w') := fun W => frame_lit 2 _ [] rfl W (by omega) (by omega) (by decide) f2 HF2.out
            have hfr5 : Hid (∀ W : World, Calls Tryd.prog 16 #[.int .i64 5, .string ⟨#[]⟩] W fun r w' => r = .returned (.string f5) ∧ Below W.heap.size W w') := fun W => frame_lit 5 _ [] rfl W (by omega) (by omega) (by decide) f5 HF5.out
            have hfrR : Hid (∀ W : World, Calls Tryd.prog 16 #[.int .i64 1, .string pb] W fun r w' => r = .returned (.string fR) ∧ Below W.heap.size W w') := fun W => frame_lit 1 pb (pinL c) (by rw [HPB.out]; exact str_list _) W (by omega) (by omega) (by omega) fR HFR.out
            have hfeed4 : Hid (∀ W, KdAt w W g D2 → Calls Tryd.prog 19 #[.pointer (some ⟨g, 0, none⟩), .string f4] W fun r w' => r = .returned (.string f2) ∧ KdAt w w' g D2 ∧ W.grownBy w' (some g)) := fun W K => by rw [HF2.out]; exact keep_fed G K (fed_four GA'.off GA'.inn hu0 [0, 120] (by decide)) (by rw [told_len]; decide) _ HF4.out
            have hfeedR : Hid (∀ W, KdAt w W g D2 → Calls Tryd.prog 19 #[.pointer (some ⟨g, 0, none⟩), .string fR] W fun r w' => r = .returned (.string f5) ∧ KdAt w w' g D2 ∧ W.grownBy w' (some g)) := fun W K => by rw [HF5.out]; exact keep_fed G K (fed_none GA'.off GA'.inn (GA'.tries.trans hz') (pinL c) lc1 lc2) (by rw [told_len]; omega) _ HFR.out
            have hfrX : Hid (∀ W : World, Calls Tryd.prog 16 #[.int .i64 5, .string ⟨#[]⟩] W fun r w' => r = .returned (.string sB) ∧ Below W.heap.size W w') := fun W => frame_lit 5 _ [] rfl W (by omega) (by omega) (by decide) sB x2
            clear x2
            go_wp2_with (first | (go_at_call 16; first | (have tk := t1; clear tk t1; refine (hfr1.out _).mono ?_; rintro _ wf ⟨rfl, hbf⟩; replace KD := KD.next hbf; clear hbf) | (have tk := t2; clear tk t2; refine (hfrX.out _).mono ?_; rintro _ wf ⟨rfl, hbf⟩; replace KD := KD.next hbf; clear hbf) | (have tk := t3; clear tk t3; refine (hfr4.out _).mono ?_; rintro _ wf ⟨rfl, hbf⟩; replace KD := KD.next hbf; clear hbf) | (have tk := t4; clear tk t4; refine (hfrR.out _).mono ?_; rintro _ wf ⟨rfl, hbf⟩; replace KD := KD.next hbf; clear hbf) | (have tk := t5; clear tk t5; refine (hfr2.out _).mono ?_; rintro _ wf ⟨rfl, hbf⟩; replace KD := KD.next hbf; clear hbf) | (have tk := t6; clear tk t6; refine (hfr5.out _).mono ?_; rintro _ wf ⟨rfl, hbf⟩; replace KD := KD.next hbf; clear hbf)) | (go_at_call 17; first | (refine (hpinA.out _).mono ?_; rintro _ wp ⟨rfl, hbp⟩; replace KD := KD.next hbp; clear hbp)) | (go_at_call 20; first | (refine (hpick.out _).mono ?_; rintro _ wk ⟨rfl, ek⟩; rw [ek]; clear ek wk)) | (go_at_call 24; first | (refine (hcut.out _ KD).mono ?_; clear KD; rintro _ wc ⟨rfl, KD, -⟩; have e4 : wc.cell? ⟨sb, soff + i * 3 + 1, none⟩ = some (.int .i64 a) := (KD.base.cell (p := ⟨sb, soff + i * 3 + 1, none⟩) hsb).trans HC2.out)) | (go_at_call 25; first | (refine (hboot.out _ KD).mono ?_; clear KD; rintro _ wo ⟨rfl, KD, -⟩)) | (go_at_call 19; first | (have tk := s1; clear tk s1; refine (hfeed.out _ KD).mono ?_; clear KD; rintro _ wd ⟨rfl, KD, -⟩) | (have tk := s2; clear tk s2; refine (hfeed4.out _ KD).mono ?_; clear KD; rintro _ wd ⟨rfl, KD, -⟩) | (have tk := s3; clear tk s3; refine (hfeedR.out _ KD).mono ?_; clear KD; rintro _ wd ⟨rfl, KD, -⟩)) | (go_at_call 23; first | (refine (htell.out _ KD).mono ?_; clear KD; rintro _ wt ⟨rfl, KD, -⟩)))
            exact ⟨⟨i + 1, 0, D2, by go_num, rfl, by omega, by omega, HGA.out, KD⟩, by simp [intOf]; omega⟩
          · subst x4
            have hqe : (qb.toList == pb.toList) = true := by rw [x2]; exact beq_self_eq_true _
            have HX2 : Hid (qb = pb) := x2
            have x1b : (left == 0) = false := beq_eq_false_iff_ne.2 x1
            clear x2 x1
            have y0 := hne 0 []
            rw [← x3] at y0
            generalize (if D2.unl = true then (1 : Int) else 0) = ou at htell0
            have htell : Hid _ := htell0
            clear htell0 hne
            have hfrX : Hid (∀ W : World, Calls Tryd.prog 16 #[.int .i64 0, .string ⟨#[]⟩] W fun r w' => r = .returned (.string sB) ∧ Below W.heap.size W w') := fun W => frame_lit 0 _ [] rfl W (by omega) (by omega) (by decide) sB x3
            clear x3
            go_wp2_with (first | (go_at_call 16; first | (have tk := t1; clear tk t1; refine (hfr1.out _).mono ?_; rintro _ wf ⟨rfl, hbf⟩; replace KD := KD.next hbf; clear hbf) | (have tk := t2; clear tk t2; refine (hfrX.out _).mono ?_; rintro _ wf ⟨rfl, hbf⟩; replace KD := KD.next hbf; clear hbf)) | (go_at_call 17; first | (refine (hpinA.out _).mono ?_; rintro _ wp ⟨rfl, hbp⟩; replace KD := KD.next hbp; clear hbp)) | (go_at_call 20; first | (refine (hpick.out _).mono ?_; rintro _ wk ⟨rfl, ek⟩; rw [ek]; clear ek wk)) | (go_at_call 24; first | (refine (hcut.out _ KD).mono ?_; clear KD; rintro _ wc ⟨rfl, KD, -⟩; have e4 : wc.cell? ⟨sb, soff + i * 3 + 1, none⟩ = some (.int .i64 a) := (KD.base.cell (p := ⟨sb, soff + i * 3 + 1, none⟩) hsb).trans HC2.out)) | (go_at_call 25; first | (refine (hboot.out _ KD).mono ?_; clear KD; rintro _ wo ⟨rfl, KD, -⟩)) | (go_at_call 19; first | (have tk := s1; clear tk s1; refine (hfeed.out _ KD).mono ?_; clear KD; rintro _ wd ⟨rfl, KD, -⟩)) | (go_at_call 23; first | (refine (htell.out _ KD).mono ?_; clear KD; rintro _ wt ⟨rfl, KD, -⟩)))
            exact ⟨⟨i + 1, 5, D2, by go_num, rfl, by omega, by omega, HGA.out, KD⟩, by simp [intOf]; omega⟩
          · rw [x5, if_neg (by decide)] at htell0
            have hqn := bytes_ne x2
            have HX2 : Hid (¬ qb = pb) := x2
            have x1b : (left == 0) = false := beq_eq_false_iff_ne.2 x1
            have y3 : (1 : Int) ≤ left := by have := HL0.out; omega
            have y4 : left ≤ 5 := HL0.out.2
            have HX4 : Hid (left' = left - 1) := x4
            have y0 := hne 3 [b8 (left - 1)]
            rw [← x3] at y0
            have htell : Hid _ := htell0
            clear htell0 hne x1 x2 x4 x5
            have HBX : Hid (strOfNums [left - 1] = str [b8 (left - 1)]) := str1 (by omega) (by omega)
            have hm8 : (left - 1) % 256 = left - 1 := by omega
            have hw8 : ∀ x : Int, IntKind.u8.wrap x = x % 256 := u8_wrap
            have hcv : ∀ (W : World), (convert 28 9 (.slice (some ⟨W.heap.size, 0, none⟩) 1 1)).run Tryd.prog (W.alloc (.cells #[.int .u8 (left - 1)] 5)) = .ok (.string (strOfNums [left - 1])) (W.alloc (.cells #[.int .u8 (left - 1)] 5)) := fun W => conv1 W (left - 1) W.heap.size rfl
            have hfrX : Hid (∀ W : World, Calls Tryd.prog 16 #[.int .i64 3, .string (strOfNums [left - 1])] W fun r w' => r = .returned (.string sB) ∧ Below W.heap.size W w') := fun W => frame_lit 3 _ [b8 (left - 1)] (by rw [HBX.out]; exact str_list _) W (by omega) (by omega) (by simp) sB x3
            clear x3
            obtain rfl : left' = left - 1 := HX4.out
            by_cases hz' : left - 1 = 0
            · have hu0 := GA'.lock hz'
              obtain ⟨f4, HF4⟩ : ∃ f4, Hid (f4 = str (told 4 [0, 120])) := ⟨_, rfl⟩
              obtain ⟨f2, HF2⟩ : ∃ f2, Hid (f2 = str (told 2 [])) := ⟨_, rfl⟩
              obtain ⟨f5, HF5⟩ : ∃ f5, Hid (f5 = str (told 5 [])) := ⟨_, rfl⟩
              obtain ⟨fR, HFR⟩ : ∃ fR, Hid (fR = str (told 1 (pinL c))) := ⟨_, rfl⟩
              have hfr4 : Hid (∀ W : World, Calls Tryd.prog 16 #[.int .i64 4, .string ⟨#[0, 120]⟩] W fun r w' => r = .returned (.string f4) ∧ Below W.heap.size W w') := fun W => frame_lit 4 _ [0, 120] rfl W (by omega) (by omega) (by decide) f4 HF4.out
              have hfr2 : Hid (∀ W : World, Calls Tryd.prog 16 #[.int .i64 2, .string ⟨#[]⟩] W fun r w' => r = .returned (.string f2) ∧ Below W.heap.size W w') := fun W => frame_lit 2 _ [] rfl W (by omega) (by omega) (by decide) f2 HF2.out
              have hfr5 : Hid (∀ W : World, Calls Tryd.prog 16 #[.int .i64 5, .string ⟨#[]⟩] W fun r w' => r = .returned (.string f5) ∧ Below W.heap.size W w') := fun W => frame_lit 5 _ [] rfl W (by omega) (by omega) (by decide) f5 HF5.out
              have hfrR : Hid (∀ W : World, Calls Tryd.prog 16 #[.int .i64 1, .string pb] W fun r w' => r = .returned (.string fR) ∧ Below W.heap.size W w') := fun W => frame_lit 1 pb (pinL c) (by rw [HPB.out]; exact str_list _) W (by omega) (by omega) (by omega) fR HFR.out
              have hfeed4 : Hid (∀ W, KdAt w W g D2 → Calls Tryd.prog 19 #[.pointer (some ⟨g, 0, none⟩), .string f4] W fun r w' => r = .returned (.string f2) ∧ KdAt w w' g D2 ∧ W.grownBy w' (some g)) := fun W K => by rw [HF2.out]; exact keep_fed G K (fed_four GA'.off GA'.inn hu0 [0, 120] (by decide)) (by rw [told_len]; decide) _ HF4.out
              have hfeedR : Hid (∀ W, KdAt w W g D2 → Calls Tryd.prog 19 #[.pointer (some ⟨g, 0, none⟩), .string fR] W fun r w' => r = .returned (.string f5) ∧ KdAt w w' g D2 ∧ W.grownBy w' (some g)) := fun W K => by rw [HF5.out]; exact keep_fed G K (fed_none GA'.off GA'.inn (GA'.tries.trans hz') (pinL c) lc1 lc2) (by rw [told_len]; omega) _ HFR.out
              have hzb : (left - 1 == 0) = true := by rw [hz']; rfl
              have HZ : Hid (left - 1 = 0) := hz'
              clear hz'
              go_wp2_with (first | (go_at_call 16; first | (have tk := t1; clear tk t1; refine (hfr1.out _).mono ?_; rintro _ wf ⟨rfl, hbf⟩; replace KD := KD.next hbf; clear hbf) | (have tk := t2; clear tk t2; refine (hfrX.out _).mono ?_; rintro _ wf ⟨rfl, hbf⟩; replace KD := (KD.next ((Below.refl _ _).alloc (Nat.le_refl _) _)).next hbf; clear hbf) | (have tk := t3; clear tk t3; refine (hfr4.out _).mono ?_; rintro _ wf ⟨rfl, hbf⟩; replace KD := KD.next hbf; clear hbf) | (have tk := t4; clear tk t4; refine (hfrR.out _).mono ?_; rintro _ wf ⟨rfl, hbf⟩; replace KD := KD.next hbf; clear hbf) | (have tk := t5; clear tk t5; refine (hfr2.out _).mono ?_; rintro _ wf ⟨rfl, hbf⟩; replace KD := KD.next hbf; clear hbf) | (have tk := t6; clear tk t6; refine (hfr5.out _).mono ?_; rintro _ wf ⟨rfl, hbf⟩; replace KD := KD.next hbf; clear hbf)) | (go_at_call 17; first | (refine (hpinA.out _).mono ?_; rintro _ wp ⟨rfl, hbp⟩; replace KD := KD.next hbp; clear hbp)) | (go_at_call 20; first | (refine (hpick.out _).mono ?_; rintro _ wk ⟨rfl, ek⟩; rw [ek]; clear ek wk)) | (go_at_call 24; first | (refine (hcut.out _ KD).mono ?_; clear KD; rintro _ wc ⟨rfl, KD, -⟩; have e4 : wc.cell? ⟨sb, soff + i * 3 + 1, none⟩ = some (.int .i64 a) := (KD.base.cell (p := ⟨sb, soff + i * 3 + 1, none⟩) hsb).trans HC2.out)) | (go_at_call 25; first | (refine (hboot.out _ KD).mono ?_; clear KD; rintro _ wo ⟨rfl, KD, -⟩)) | (go_at_call 19; first | (have tk := s1; clear tk s1; refine (hfeed.out _ KD).mono ?_; clear KD; rintro _ wd ⟨rfl, KD, -⟩) | (have tk := s2; clear tk s2; refine (hfeed4.out _ KD).mono ?_; clear KD; rintro _ wd ⟨rfl, KD, -⟩) | (have tk := s3; clear tk s3; refine (hfeedR.out _ KD).mono ?_; clear KD; rintro _ wd ⟨rfl, KD, -⟩)) | (go_at_call 23; first | (refine (htell.out _ KD).mono ?_; clear KD; rintro _ wt ⟨rfl, KD, -⟩)))
              exact ⟨⟨i + 1, (left - 1), D2, by go_num, rfl, by omega, by omega, HGA.out, KD⟩, by simp [intOf]; omega⟩
            · have hzb : (left - 1 == 0) = false := beq_eq_false_iff_ne.2 hz'
              clear hz'
              go_wp2_with (first | (go_at_call 16; first | (have tk := t1; clear tk t1; refine (hfr1.out _).mono ?_; rintro _ wf ⟨rfl, hbf⟩; replace KD := KD.next hbf; clear hbf) | (have tk := t2; clear tk t2; refine (hfrX.out _).mono ?_; rintro _ wf ⟨rfl, hbf⟩; replace KD := (KD.next ((Below.refl _ _).alloc (Nat.le_refl _) _)).next hbf; clear hbf)) | (go_at_call 17; first | (refine (hpinA.out _).mono ?_; rintro _ wp ⟨rfl, hbp⟩; replace KD := KD.next hbp; clear hbp)) | (go_at_call 20; first | (refine (hpick.out _).mono ?_; rintro _ wk ⟨rfl, ek⟩; rw [ek]; clear ek wk)) | (go_at_call 24; first | (refine (hcut.out _ KD).mono ?_; clear KD; rintro _ wc ⟨rfl, KD, -⟩; have e4 : wc.cell? ⟨sb, soff + i * 3 + 1, none⟩ = some (.int .i64 a) := (KD.base.cell (p := ⟨sb, soff + i * 3 + 1, none⟩) hsb).trans HC2.out)) | (go_at_call 25; first | (refine (hboot.out _ KD).mono ?_; clear KD; rintro _ wo ⟨rfl, KD, -⟩)) | (go_at_call 19; first | (have tk := s1; clear tk s1; refine (hfeed.out _ KD).mono ?_; clear KD; rintro _ wd ⟨rfl, KD, -⟩)) | (go_at_call 23; first | (refine (htell.out _ KD).mono ?_; clear KD; rintro _ wt ⟨rfl, KD, -⟩)))
              exact ⟨⟨i + 1, (left - 1), D2, by go_num, rfl, by omega, by omega, HGA.out, KD⟩, by simp [intOf]; omega⟩
        · have hz3b : (z.tmod 3 == 0) = false := beq_eq_false_iff_ne.2 hz3
          clear hz3
          obtain ⟨D0, HD0⟩ : ∃ D0 : Dv, Hid (D0 = if false = true then ({ d with cut := ((0 : Nat) : Int) } : Dv) else d) := ⟨_, rfl⟩
          obtain ⟨left', GA', hl0, hl5, hcase⟩ := guard_round GA HD0.out la1 la2 KD.ok hnum
          obtain ⟨D1, HD1⟩ : ∃ D1, Hid (D1 = (fed D0 (told 1 (pinL a))).2) := ⟨_, rfl⟩
          obtain ⟨sB, HSB⟩ : ∃ sB, Hid (sB = str (fed D0 (told 1 (pinL a))).1) := ⟨_, rfl⟩
          obtain ⟨D2, HD2⟩ : ∃ D2, Hid (D2 = after false (fed D0 (told 1 (pinL a))).2) := ⟨_, rfl⟩
          have hfeed : Hid (∀ W, KdAt w W g D0 → Calls Tryd.prog 19 #[.pointer (some ⟨g, 0, none⟩), .string fq] W fun r w' => r = .returned (.string sB) ∧ KdAt w w' g D1 ∧ W.grownBy w' (some g)) := fun W K => by rw [HSB.out, HD1.out]; exact keep_fed G K rfl (by rw [told_len]; omega) _ HFQ.out
          have KD0 : KdAt w wr g D0 := by rw [HD0.out]; exact KD
          clear KD
          have KD := KD0
          clear KD0
          have e12 : Hid (D1 = D2) := by show _ = _; rw [HD1.out, HD2.out]; rfl
          rw [e12.out] at hfeed
          rw [← HD2.out] at GA' hcase
          have hcase2 : ((sB = ⟨#[]⟩ ∧ false = true ∧ D2.unl = false ∧ (left' = left ∨ left' = left - 1)) ∨ (left = 0 ∧ sB = str (told 5 []) ∧ left' = 0 ∧ D2.unl = false) ∨ (¬ left = 0 ∧ qb = pb ∧ sB = str (told 0 []) ∧ left' = 5) ∨ (¬ left = 0 ∧ ¬ qb = pb ∧ sB = str (told 3 [b8 (left - 1)]) ∧ left' = left - 1 ∧ D2.unl = false)) := by
            rw [HSB.out, HQB.out, HPB.out]
            rcases hcase with ⟨x1, x2, x3, x4⟩ | ⟨x1, x2, x3, x4⟩ | ⟨x1, x2, x3, x4⟩ | ⟨x1, x2, x3, x4, x5⟩
            · exact .inl ⟨by rw [x1]; rfl, x2, x3, x4⟩
            · exact .inr (.inl ⟨x1, by rw [x2], x3, x4⟩)
            · exact .inr (.inr (.inl ⟨x1, by rw [x2], by rw [x3], x4⟩))
            · exact .inr (.inr (.inr ⟨x1, fun e => x2 (by have := congrArg (fun b : ByteArray => b.data.toList) e; simpa only [str_list] using this), by rw [x3], x4, x5⟩))
          clear hcase
          have htell0 : ∀ W, KdAt w W g D2 → Calls Tryd.prog 23 #[.pointer (some ⟨g, 0, none⟩)] W fun r w' => r = .returned (.tuple #[.int .i64 (if D2.unl then 1 else 0), .int .i64 left', .int .i64 (D2.k.bits 4), .bool true]) ∧ KdAt w w' g D2 ∧ W.grownBy w' (some g) := fun W K => by have := keep_tells G K GA'.off GA'.inn; rw [GA'.tries] at this; exact this
          generalize D2.k.bits 4 = bi at htell0
          have hne := told_ne
          have HGA : Hid (GuardAt (pinL c) left' (1 + 2 * ((i + 1 : Nat) : Int)) D2) := ⟨GA'.off, GA'.inn, GA'.cut, GA'.pin, GA'.tries, GA'.lock, by have := GA'.num; omega⟩
          rcases hcase2 with ⟨x1, x2, x3, x4⟩ | ⟨x1, x2, x3, x4⟩ | ⟨x1, x2, x3, x4⟩ | ⟨x1, x2, x3, x4, x5⟩
          · cases x2
          · subst x1 x3
            have y0 := hne 5 []
            rw [← x2] at y0
            rw [x4, if_neg (by decide)] at htell0
            have htell : Hid _ := htell0
            clear htell0 hne
            have hz' : (0 : Int) = 0 := rfl
            have hu0 := GA'.lock hz'
            obtain ⟨f4, HF4⟩ : ∃ f4, Hid (f4 = str (told 4 [0, 120])) := ⟨_, rfl⟩
            obtain ⟨f2, HF2⟩ : ∃ f2, Hid (f2 = str (told 2 [])) := ⟨_, rfl⟩
            obtain ⟨f5, HF5⟩ : ∃ f5, Hid (f5 = str (told 5 [])) := ⟨_, rfl⟩
            obtain ⟨fR, HFR⟩ : ∃ fR, Hid (fR = str (told 1 (pinL c))) := ⟨_, rfl⟩
            have hfr4 : Hid (∀ W : World, Calls Tryd.prog 16 #[.int .i64 4, .string ⟨#[0, 120]⟩] W fun r w' => r = .returned (.string f4) ∧ Below W.heap.size W w') := fun W => frame_lit 4 _ [0, 120] rfl W (by omega) (by omega) (by decide) f4 HF4.out
            have hfr2 : Hid (∀ W : World, Calls Tryd.prog 16 #[.int .i64 2, .string ⟨#[]⟩] W fun r w' => r = .returned (.string f2) ∧ Below W.heap.size W w') := fun W => frame_lit 2 _ [] rfl W (by omega) (by omega) (by decide) f2 HF2.out
            have hfr5 : Hid (∀ W : World, Calls Tryd.prog 16 #[.int .i64 5, .string ⟨#[]⟩] W fun r w' => r = .returned (.string f5) ∧ Below W.heap.size W w') := fun W => frame_lit 5 _ [] rfl W (by omega) (by omega) (by decide) f5 HF5.out
            have hfrR : Hid (∀ W : World, Calls Tryd.prog 16 #[.int .i64 1, .string pb] W fun r w' => r = .returned (.string fR) ∧ Below W.heap.size W w') := fun W => frame_lit 1 pb (pinL c) (by rw [HPB.out]; exact str_list _) W (by omega) (by omega) (by omega) fR HFR.out
            have hfeed4 : Hid (∀ W, KdAt w W g D2 → Calls Tryd.prog 19 #[.pointer (some ⟨g, 0, none⟩), .string f4] W fun r w' => r = .returned (.string f2) ∧ KdAt w w' g D2 ∧ W.grownBy w' (some g)) := fun W K => by rw [HF2.out]; exact keep_fed G K (fed_four GA'.off GA'.inn hu0 [0, 120] (by decide)) (by rw [told_len]; decide) _ HF4.out
            have hfeedR : Hid (∀ W, KdAt w W g D2 → Calls Tryd.prog 19 #[.pointer (some ⟨g, 0, none⟩), .string fR] W fun r w' => r = .returned (.string f5) ∧ KdAt w w' g D2 ∧ W.grownBy w' (some g)) := fun W K => by rw [HF5.out]; exact keep_fed G K (fed_none GA'.off GA'.inn (GA'.tries.trans hz') (pinL c) lc1 lc2) (by rw [told_len]; omega) _ HFR.out
            have hfrX : Hid (∀ W : World, Calls Tryd.prog 16 #[.int .i64 5, .string ⟨#[]⟩] W fun r w' => r = .returned (.string sB) ∧ Below W.heap.size W w') := fun W => frame_lit 5 _ [] rfl W (by omega) (by omega) (by decide) sB x2
            clear x2
            go_wp2_with (first | (go_at_call 16; first | (have tk := t1; clear tk t1; refine (hfr1.out _).mono ?_; rintro _ wf ⟨rfl, hbf⟩; replace KD := KD.next hbf; clear hbf) | (have tk := t2; clear tk t2; refine (hfrX.out _).mono ?_; rintro _ wf ⟨rfl, hbf⟩; replace KD := KD.next hbf; clear hbf) | (have tk := t3; clear tk t3; refine (hfr4.out _).mono ?_; rintro _ wf ⟨rfl, hbf⟩; replace KD := KD.next hbf; clear hbf) | (have tk := t4; clear tk t4; refine (hfrR.out _).mono ?_; rintro _ wf ⟨rfl, hbf⟩; replace KD := KD.next hbf; clear hbf) | (have tk := t5; clear tk t5; refine (hfr2.out _).mono ?_; rintro _ wf ⟨rfl, hbf⟩; replace KD := KD.next hbf; clear hbf) | (have tk := t6; clear tk t6; refine (hfr5.out _).mono ?_; rintro _ wf ⟨rfl, hbf⟩; replace KD := KD.next hbf; clear hbf)) | (go_at_call 17; first | (refine (hpinA.out _).mono ?_; rintro _ wp ⟨rfl, hbp⟩; replace KD := KD.next hbp; clear hbp)) | (go_at_call 19; first | (have tk := s1; clear tk s1; refine (hfeed.out _ KD).mono ?_; clear KD; rintro _ wd ⟨rfl, KD, -⟩) | (have tk := s2; clear tk s2; refine (hfeed4.out _ KD).mono ?_; clear KD; rintro _ wd ⟨rfl, KD, -⟩) | (have tk := s3; clear tk s3; refine (hfeedR.out _ KD).mono ?_; clear KD; rintro _ wd ⟨rfl, KD, -⟩)) | (go_at_call 23; first | (refine (htell.out _ KD).mono ?_; clear KD; rintro _ wt ⟨rfl, KD, -⟩)))
            exact ⟨⟨i + 1, 0, D2, by go_num, rfl, by omega, by omega, HGA.out, KD⟩, by simp [intOf]; omega⟩
          · subst x4
            have hqe : (qb.toList == pb.toList) = true := by rw [x2]; exact beq_self_eq_true _
            have HX2 : Hid (qb = pb) := x2
            have x1b : (left == 0) = false := beq_eq_false_iff_ne.2 x1
            clear x2 x1
            have y0 := hne 0 []
            rw [← x3] at y0
            generalize (if D2.unl = true then (1 : Int) else 0) = ou at htell0
            have htell : Hid _ := htell0
            clear htell0 hne
            have hfrX : Hid (∀ W : World, Calls Tryd.prog 16 #[.int .i64 0, .string ⟨#[]⟩] W fun r w' => r = .returned (.string sB) ∧ Below W.heap.size W w') := fun W => frame_lit 0 _ [] rfl W (by omega) (by omega) (by decide) sB x3
            clear x3
            go_wp2_with (first | (go_at_call 16; first | (have tk := t1; clear tk t1; refine (hfr1.out _).mono ?_; rintro _ wf ⟨rfl, hbf⟩; replace KD := KD.next hbf; clear hbf) | (have tk := t2; clear tk t2; refine (hfrX.out _).mono ?_; rintro _ wf ⟨rfl, hbf⟩; replace KD := KD.next hbf; clear hbf)) | (go_at_call 17; first | (refine (hpinA.out _).mono ?_; rintro _ wp ⟨rfl, hbp⟩; replace KD := KD.next hbp; clear hbp)) | (go_at_call 19; first | (have tk := s1; clear tk s1; refine (hfeed.out _ KD).mono ?_; clear KD; rintro _ wd ⟨rfl, KD, -⟩)) | (go_at_call 23; first | (refine (htell.out _ KD).mono ?_; clear KD; rintro _ wt ⟨rfl, KD, -⟩)))
            exact ⟨⟨i + 1, 5, D2, by go_num, rfl, by omega, by omega, HGA.out, KD⟩, by simp [intOf]; omega⟩
          · rw [x5, if_neg (by decide)] at htell0
            have hqn := bytes_ne x2
            have HX2 : Hid (¬ qb = pb) := x2
            have x1b : (left == 0) = false := beq_eq_false_iff_ne.2 x1
            have y3 : (1 : Int) ≤ left := by have := HL0.out; omega
            have y4 : left ≤ 5 := HL0.out.2
            have HX4 : Hid (left' = left - 1) := x4
            have y0 := hne 3 [b8 (left - 1)]
            rw [← x3] at y0
            have htell : Hid _ := htell0
            clear htell0 hne x1 x2 x4 x5
            have HBX : Hid (strOfNums [left - 1] = str [b8 (left - 1)]) := str1 (by omega) (by omega)
            have hm8 : (left - 1) % 256 = left - 1 := by omega
            have hw8 : ∀ x : Int, IntKind.u8.wrap x = x % 256 := u8_wrap
            have hcv : ∀ (W : World), (convert 28 9 (.slice (some ⟨W.heap.size, 0, none⟩) 1 1)).run Tryd.prog (W.alloc (.cells #[.int .u8 (left - 1)] 5)) = .ok (.string (strOfNums [left - 1])) (W.alloc (.cells #[.int .u8 (left - 1)] 5)) := fun W => conv1 W (left - 1) W.heap.size rfl
            have hfrX : Hid (∀ W : World, Calls Tryd.prog 16 #[.int .i64 3, .string (strOfNums [left - 1])] W fun r w' => r = .returned (.string sB) ∧ Below W.heap.size W w') := fun W => frame_lit 3 _ [b8 (left - 1)] (by rw [HBX.out]; exact str_list _) W (by omega) (by omega) (by simp) sB x3
            clear x3
            obtain rfl : left' = left - 1 := HX4.out
            by_cases hz' : left - 1 = 0
            · have hu0 := GA'.lock hz'
              obtain ⟨f4, HF4⟩ : ∃ f4, Hid (f4 = str (told 4 [0, 120])) := ⟨_, rfl⟩
              obtain ⟨f2, HF2⟩ : ∃ f2, Hid (f2 = str (told 2 [])) := ⟨_, rfl⟩
              obtain ⟨f5, HF5⟩ : ∃ f5, Hid (f5 = str (told 5 [])) := ⟨_, rfl⟩
              obtain ⟨fR, HFR⟩ : ∃ fR, Hid (fR = str (told 1 (pinL c))) := ⟨_, rfl⟩
              have hfr4 : Hid (∀ W : World, Calls Tryd.prog 16 #[.int .i64 4, .string ⟨#[0, 120]⟩] W fun r w' => r = .returned (.string f4) ∧ Below W.heap.size W w') := fun W => frame_lit 4 _ [0, 120] rfl W (by omega) (by omega) (by decide) f4 HF4.out
              have hfr2 : Hid (∀ W : World, Calls Tryd.prog 16 #[.int .i64 2, .string ⟨#[]⟩] W fun r w' => r = .returned (.string f2) ∧ Below W.heap.size W w') := fun W => frame_lit 2 _ [] rfl W (by omega) (by omega) (by decide) f2 HF2.out
              have hfr5 : Hid (∀ W : World, Calls Tryd.prog 16 #[.int .i64 5, .string ⟨#[]⟩] W fun r w' => r = .returned (.string f5) ∧ Below W.heap.size W w') := fun W => frame_lit 5 _ [] rfl W (by omega) (by omega) (by decide) f5 HF5.out
              have hfrR : Hid (∀ W : World, Calls Tryd.prog 16 #[.int .i64 1, .string pb] W fun r w' => r = .returned (.string fR) ∧ Below W.heap.size W w') := fun W => frame_lit 1 pb (pinL c) (by rw [HPB.out]; exact str_list _) W (by omega) (by omega) (by omega) fR HFR.out
              have hfeed4 : Hid (∀ W, KdAt w W g D2 → Calls Tryd.prog 19 #[.pointer (some ⟨g, 0, none⟩), .string f4] W fun r w' => r = .returned (.string f2) ∧ KdAt w w' g D2 ∧ W.grownBy w' (some g)) := fun W K => by rw [HF2.out]; exact keep_fed G K (fed_four GA'.off GA'.inn hu0 [0, 120] (by decide)) (by rw [told_len]; decide) _ HF4.out
              have hfeedR : Hid (∀ W, KdAt w W g D2 → Calls Tryd.prog 19 #[.pointer (some ⟨g, 0, none⟩), .string fR] W fun r w' => r = .returned (.string f5) ∧ KdAt w w' g D2 ∧ W.grownBy w' (some g)) := fun W K => by rw [HF5.out]; exact keep_fed G K (fed_none GA'.off GA'.inn (GA'.tries.trans hz') (pinL c) lc1 lc2) (by rw [told_len]; omega) _ HFR.out
              have hzb : (left - 1 == 0) = true := by rw [hz']; rfl
              have HZ : Hid (left - 1 = 0) := hz'
              clear hz'
              go_wp2_with (first | (go_at_call 16; first | (have tk := t1; clear tk t1; refine (hfr1.out _).mono ?_; rintro _ wf ⟨rfl, hbf⟩; replace KD := KD.next hbf; clear hbf) | (have tk := t2; clear tk t2; refine (hfrX.out _).mono ?_; rintro _ wf ⟨rfl, hbf⟩; replace KD := (KD.next ((Below.refl _ _).alloc (Nat.le_refl _) _)).next hbf; clear hbf) | (have tk := t3; clear tk t3; refine (hfr4.out _).mono ?_; rintro _ wf ⟨rfl, hbf⟩; replace KD := KD.next hbf; clear hbf) | (have tk := t4; clear tk t4; refine (hfrR.out _).mono ?_; rintro _ wf ⟨rfl, hbf⟩; replace KD := KD.next hbf; clear hbf) | (have tk := t5; clear tk t5; refine (hfr2.out _).mono ?_; rintro _ wf ⟨rfl, hbf⟩; replace KD := KD.next hbf; clear hbf) | (have tk := t6; clear tk t6; refine (hfr5.out _).mono ?_; rintro _ wf ⟨rfl, hbf⟩; replace KD := KD.next hbf; clear hbf)) | (go_at_call 17; first | (refine (hpinA.out _).mono ?_; rintro _ wp ⟨rfl, hbp⟩; replace KD := KD.next hbp; clear hbp)) | (go_at_call 19; first | (have tk := s1; clear tk s1; refine (hfeed.out _ KD).mono ?_; clear KD; rintro _ wd ⟨rfl, KD, -⟩) | (have tk := s2; clear tk s2; refine (hfeed4.out _ KD).mono ?_; clear KD; rintro _ wd ⟨rfl, KD, -⟩) | (have tk := s3; clear tk s3; refine (hfeedR.out _ KD).mono ?_; clear KD; rintro _ wd ⟨rfl, KD, -⟩)) | (go_at_call 23; first | (refine (htell.out _ KD).mono ?_; clear KD; rintro _ wt ⟨rfl, KD, -⟩)))
              exact ⟨⟨i + 1, (left - 1), D2, by go_num, rfl, by omega, by omega, HGA.out, KD⟩, by simp [intOf]; omega⟩
            · have hzb : (left - 1 == 0) = false := beq_eq_false_iff_ne.2 hz'
              clear hz'
              go_wp2_with (first | (go_at_call 16; first | (have tk := t1; clear tk t1; refine (hfr1.out _).mono ?_; rintro _ wf ⟨rfl, hbf⟩; replace KD := KD.next hbf; clear hbf) | (have tk := t2; clear tk t2; refine (hfrX.out _).mono ?_; rintro _ wf ⟨rfl, hbf⟩; replace KD := (KD.next ((Below.refl _ _).alloc (Nat.le_refl _) _)).next hbf; clear hbf)) | (go_at_call 17; first | (refine (hpinA.out _).mono ?_; rintro _ wp ⟨rfl, hbp⟩; replace KD := KD.next hbp; clear hbp)) | (go_at_call 19; first | (have tk := s1; clear tk s1; refine (hfeed.out _ KD).mono ?_; clear KD; rintro _ wd ⟨rfl, KD, -⟩)) | (go_at_call 23; first | (refine (htell.out _ KD).mono ?_; clear KD; rintro _ wt ⟨rfl, KD, -⟩)))
              exact ⟨⟨i + 1, (left - 1), D2, by go_num, rfl, by omega, by omega, HGA.out, KD⟩, by simp [intOf]; omega⟩
      · have r1 : ¬ (i : Int) < pl := by omega
        obtain ⟨D0, HD0⟩ : ∃ D0 : Dv, Hid (D0 = if false = true then ({ d with cut := ((0 : Nat) : Int) } : Dv) else d) := ⟨_, rfl⟩
        obtain ⟨left', GA', hl0, hl5, hcase⟩ := guard_round GA HD0.out la1 la2 KD.ok hnum
        obtain ⟨D1, HD1⟩ : ∃ D1, Hid (D1 = (fed D0 (told 1 (pinL a))).2) := ⟨_, rfl⟩
        obtain ⟨sB, HSB⟩ : ∃ sB, Hid (sB = str (fed D0 (told 1 (pinL a))).1) := ⟨_, rfl⟩
        obtain ⟨D2, HD2⟩ : ∃ D2, Hid (D2 = after false (fed D0 (told 1 (pinL a))).2) := ⟨_, rfl⟩
        have hfeed : Hid (∀ W, KdAt w W g D0 → Calls Tryd.prog 19 #[.pointer (some ⟨g, 0, none⟩), .string fq] W fun r w' => r = .returned (.string sB) ∧ KdAt w w' g D1 ∧ W.grownBy w' (some g)) := fun W K => by rw [HSB.out, HD1.out]; exact keep_fed G K rfl (by rw [told_len]; omega) _ HFQ.out
        have KD0 : KdAt w wr g D0 := by rw [HD0.out]; exact KD
        clear KD
        have KD := KD0
        clear KD0
        have e12 : Hid (D1 = D2) := by show _ = _; rw [HD1.out, HD2.out]; rfl
        rw [e12.out] at hfeed
        rw [← HD2.out] at GA' hcase
        have hcase2 : ((sB = ⟨#[]⟩ ∧ false = true ∧ D2.unl = false ∧ (left' = left ∨ left' = left - 1)) ∨ (left = 0 ∧ sB = str (told 5 []) ∧ left' = 0 ∧ D2.unl = false) ∨ (¬ left = 0 ∧ qb = pb ∧ sB = str (told 0 []) ∧ left' = 5) ∨ (¬ left = 0 ∧ ¬ qb = pb ∧ sB = str (told 3 [b8 (left - 1)]) ∧ left' = left - 1 ∧ D2.unl = false)) := by
          rw [HSB.out, HQB.out, HPB.out]
          rcases hcase with ⟨x1, x2, x3, x4⟩ | ⟨x1, x2, x3, x4⟩ | ⟨x1, x2, x3, x4⟩ | ⟨x1, x2, x3, x4, x5⟩
          · exact .inl ⟨by rw [x1]; rfl, x2, x3, x4⟩
          · exact .inr (.inl ⟨x1, by rw [x2], x3, x4⟩)
          · exact .inr (.inr (.inl ⟨x1, by rw [x2], by rw [x3], x4⟩))
          · exact .inr (.inr (.inr ⟨x1, fun e => x2 (by have := congrArg (fun b : ByteArray => b.data.toList) e; simpa only [str_list] using this), by rw [x3], x4, x5⟩))
        clear hcase
        have htell0 : ∀ W, KdAt w W g D2 → Calls Tryd.prog 23 #[.pointer (some ⟨g, 0, none⟩)] W fun r w' => r = .returned (.tuple #[.int .i64 (if D2.unl then 1 else 0), .int .i64 left', .int .i64 (D2.k.bits 4), .bool true]) ∧ KdAt w w' g D2 ∧ W.grownBy w' (some g) := fun W K => by have := keep_tells G K GA'.off GA'.inn; rw [GA'.tries] at this; exact this
        generalize D2.k.bits 4 = bi at htell0
        have hne := told_ne
        have HGA : Hid (GuardAt (pinL c) left' (1 + 2 * ((i + 1 : Nat) : Int)) D2) := ⟨GA'.off, GA'.inn, GA'.cut, GA'.pin, GA'.tries, GA'.lock, by have := GA'.num; omega⟩
        rcases hcase2 with ⟨x1, x2, x3, x4⟩ | ⟨x1, x2, x3, x4⟩ | ⟨x1, x2, x3, x4⟩ | ⟨x1, x2, x3, x4, x5⟩
        · cases x2
        · subst x1 x3
          have y0 := hne 5 []
          rw [← x2] at y0
          rw [x4, if_neg (by decide)] at htell0
          have htell : Hid _ := htell0
          clear htell0 hne
          have hz' : (0 : Int) = 0 := rfl
          have hu0 := GA'.lock hz'
          obtain ⟨f4, HF4⟩ : ∃ f4, Hid (f4 = str (told 4 [0, 120])) := ⟨_, rfl⟩
          obtain ⟨f2, HF2⟩ : ∃ f2, Hid (f2 = str (told 2 [])) := ⟨_, rfl⟩
          obtain ⟨f5, HF5⟩ : ∃ f5, Hid (f5 = str (told 5 [])) := ⟨_, rfl⟩
          obtain ⟨fR, HFR⟩ : ∃ fR, Hid (fR = str (told 1 (pinL c))) := ⟨_, rfl⟩
          have hfr4 : Hid (∀ W : World, Calls Tryd.prog 16 #[.int .i64 4, .string ⟨#[0, 120]⟩] W fun r w' => r = .returned (.string f4) ∧ Below W.heap.size W w') := fun W => frame_lit 4 _ [0, 120] rfl W (by omega) (by omega) (by decide) f4 HF4.out
          have hfr2 : Hid (∀ W : World, Calls Tryd.prog 16 #[.int .i64 2, .string ⟨#[]⟩] W fun r w' => r = .returned (.string f2) ∧ Below W.heap.size W w') := fun W => frame_lit 2 _ [] rfl W (by omega) (by omega) (by decide) f2 HF2.out
          have hfr5 : Hid (∀ W : World, Calls Tryd.prog 16 #[.int .i64 5, .string ⟨#[]⟩] W fun r w' => r = .returned (.string f5) ∧ Below W.heap.size W w') := fun W => frame_lit 5 _ [] rfl W (by omega) (by omega) (by decide) f5 HF5.out
          have hfrR : Hid (∀ W : World, Calls Tryd.prog 16 #[.int .i64 1, .string pb] W fun r w' => r = .returned (.string fR) ∧ Below W.heap.size W w') := fun W => frame_lit 1 pb (pinL c) (by rw [HPB.out]; exact str_list _) W (by omega) (by omega) (by omega) fR HFR.out
          have hfeed4 : Hid (∀ W, KdAt w W g D2 → Calls Tryd.prog 19 #[.pointer (some ⟨g, 0, none⟩), .string f4] W fun r w' => r = .returned (.string f2) ∧ KdAt w w' g D2 ∧ W.grownBy w' (some g)) := fun W K => by rw [HF2.out]; exact keep_fed G K (fed_four GA'.off GA'.inn hu0 [0, 120] (by decide)) (by rw [told_len]; decide) _ HF4.out
          have hfeedR : Hid (∀ W, KdAt w W g D2 → Calls Tryd.prog 19 #[.pointer (some ⟨g, 0, none⟩), .string fR] W fun r w' => r = .returned (.string f5) ∧ KdAt w w' g D2 ∧ W.grownBy w' (some g)) := fun W K => by rw [HF5.out]; exact keep_fed G K (fed_none GA'.off GA'.inn (GA'.tries.trans hz') (pinL c) lc1 lc2) (by rw [told_len]; omega) _ HFR.out
          have hfrX : Hid (∀ W : World, Calls Tryd.prog 16 #[.int .i64 5, .string ⟨#[]⟩] W fun r w' => r = .returned (.string sB) ∧ Below W.heap.size W w') := fun W => frame_lit 5 _ [] rfl W (by omega) (by omega) (by decide) sB x2
          clear x2
          go_wp2_with (first | (go_at_call 16; first | (have tk := t1; clear tk t1; refine (hfr1.out _).mono ?_; rintro _ wf ⟨rfl, hbf⟩; replace KD := KD.next hbf; clear hbf) | (have tk := t2; clear tk t2; refine (hfrX.out _).mono ?_; rintro _ wf ⟨rfl, hbf⟩; replace KD := KD.next hbf; clear hbf) | (have tk := t3; clear tk t3; refine (hfr4.out _).mono ?_; rintro _ wf ⟨rfl, hbf⟩; replace KD := KD.next hbf; clear hbf) | (have tk := t4; clear tk t4; refine (hfrR.out _).mono ?_; rintro _ wf ⟨rfl, hbf⟩; replace KD := KD.next hbf; clear hbf) | (have tk := t5; clear tk t5; refine (hfr2.out _).mono ?_; rintro _ wf ⟨rfl, hbf⟩; replace KD := KD.next hbf; clear hbf) | (have tk := t6; clear tk t6; refine (hfr5.out _).mono ?_; rintro _ wf ⟨rfl, hbf⟩; replace KD := KD.next hbf; clear hbf)) | (go_at_call 17; first | (refine (hpinA.out _).mono ?_; rintro _ wp ⟨rfl, hbp⟩; replace KD := KD.next hbp; clear hbp)) | (go_at_call 19; first | (have tk := s1; clear tk s1; refine (hfeed.out _ KD).mono ?_; clear KD; rintro _ wd ⟨rfl, KD, -⟩) | (have tk := s2; clear tk s2; refine (hfeed4.out _ KD).mono ?_; clear KD; rintro _ wd ⟨rfl, KD, -⟩) | (have tk := s3; clear tk s3; refine (hfeedR.out _ KD).mono ?_; clear KD; rintro _ wd ⟨rfl, KD, -⟩)) | (go_at_call 23; first | (refine (htell.out _ KD).mono ?_; clear KD; rintro _ wt ⟨rfl, KD, -⟩)))
          exact ⟨⟨i + 1, 0, D2, by go_num, rfl, by omega, by omega, HGA.out, KD⟩, by simp [intOf]; omega⟩
        · subst x4
          have hqe : (qb.toList == pb.toList) = true := by rw [x2]; exact beq_self_eq_true _
          have HX2 : Hid (qb = pb) := x2
          have x1b : (left == 0) = false := beq_eq_false_iff_ne.2 x1
          clear x2 x1
          have y0 := hne 0 []
          rw [← x3] at y0
          generalize (if D2.unl = true then (1 : Int) else 0) = ou at htell0
          have htell : Hid _ := htell0
          clear htell0 hne
          have hfrX : Hid (∀ W : World, Calls Tryd.prog 16 #[.int .i64 0, .string ⟨#[]⟩] W fun r w' => r = .returned (.string sB) ∧ Below W.heap.size W w') := fun W => frame_lit 0 _ [] rfl W (by omega) (by omega) (by decide) sB x3
          clear x3
          go_wp2_with (first | (go_at_call 16; first | (have tk := t1; clear tk t1; refine (hfr1.out _).mono ?_; rintro _ wf ⟨rfl, hbf⟩; replace KD := KD.next hbf; clear hbf) | (have tk := t2; clear tk t2; refine (hfrX.out _).mono ?_; rintro _ wf ⟨rfl, hbf⟩; replace KD := KD.next hbf; clear hbf)) | (go_at_call 17; first | (refine (hpinA.out _).mono ?_; rintro _ wp ⟨rfl, hbp⟩; replace KD := KD.next hbp; clear hbp)) | (go_at_call 19; first | (have tk := s1; clear tk s1; refine (hfeed.out _ KD).mono ?_; clear KD; rintro _ wd ⟨rfl, KD, -⟩)) | (go_at_call 23; first | (refine (htell.out _ KD).mono ?_; clear KD; rintro _ wt ⟨rfl, KD, -⟩)))
          exact ⟨⟨i + 1, 5, D2, by go_num, rfl, by omega, by omega, HGA.out, KD⟩, by simp [intOf]; omega⟩
        · rw [x5, if_neg (by decide)] at htell0
          have hqn := bytes_ne x2
          have HX2 : Hid (¬ qb = pb) := x2
          have x1b : (left == 0) = false := beq_eq_false_iff_ne.2 x1
          have y3 : (1 : Int) ≤ left := by have := HL0.out; omega
          have y4 : left ≤ 5 := HL0.out.2
          have HX4 : Hid (left' = left - 1) := x4
          have y0 := hne 3 [b8 (left - 1)]
          rw [← x3] at y0
          have htell : Hid _ := htell0
          clear htell0 hne x1 x2 x4 x5
          have HBX : Hid (strOfNums [left - 1] = str [b8 (left - 1)]) := str1 (by omega) (by omega)
          have hm8 : (left - 1) % 256 = left - 1 := by omega
          have hw8 : ∀ x : Int, IntKind.u8.wrap x = x % 256 := u8_wrap
          have hcv : ∀ (W : World), (convert 28 9 (.slice (some ⟨W.heap.size, 0, none⟩) 1 1)).run Tryd.prog (W.alloc (.cells #[.int .u8 (left - 1)] 5)) = .ok (.string (strOfNums [left - 1])) (W.alloc (.cells #[.int .u8 (left - 1)] 5)) := fun W => conv1 W (left - 1) W.heap.size rfl
          have hfrX : Hid (∀ W : World, Calls Tryd.prog 16 #[.int .i64 3, .string (strOfNums [left - 1])] W fun r w' => r = .returned (.string sB) ∧ Below W.heap.size W w') := fun W => frame_lit 3 _ [b8 (left - 1)] (by rw [HBX.out]; exact str_list _) W (by omega) (by omega) (by simp) sB x3
          clear x3
          obtain rfl : left' = left - 1 := HX4.out
          by_cases hz' : left - 1 = 0
          · have hu0 := GA'.lock hz'
            obtain ⟨f4, HF4⟩ : ∃ f4, Hid (f4 = str (told 4 [0, 120])) := ⟨_, rfl⟩
            obtain ⟨f2, HF2⟩ : ∃ f2, Hid (f2 = str (told 2 [])) := ⟨_, rfl⟩
            obtain ⟨f5, HF5⟩ : ∃ f5, Hid (f5 = str (told 5 [])) := ⟨_, rfl⟩
            obtain ⟨fR, HFR⟩ : ∃ fR, Hid (fR = str (told 1 (pinL c))) := ⟨_, rfl⟩
            have hfr4 : Hid (∀ W : World, Calls Tryd.prog 16 #[.int .i64 4, .string ⟨#[0, 120]⟩] W fun r w' => r = .returned (.string f4) ∧ Below W.heap.size W w') := fun W => frame_lit 4 _ [0, 120] rfl W (by omega) (by omega) (by decide) f4 HF4.out
            have hfr2 : Hid (∀ W : World, Calls Tryd.prog 16 #[.int .i64 2, .string ⟨#[]⟩] W fun r w' => r = .returned (.string f2) ∧ Below W.heap.size W w') := fun W => frame_lit 2 _ [] rfl W (by omega) (by omega) (by decide) f2 HF2.out
            have hfr5 : Hid (∀ W : World, Calls Tryd.prog 16 #[.int .i64 5, .string ⟨#[]⟩] W fun r w' => r = .returned (.string f5) ∧ Below W.heap.size W w') := fun W => frame_lit 5 _ [] rfl W (by omega) (by omega) (by decide) f5 HF5.out
            have hfrR : Hid (∀ W : World, Calls Tryd.prog 16 #[.int .i64 1, .string pb] W fun r w' => r = .returned (.string fR) ∧ Below W.heap.size W w') := fun W => frame_lit 1 pb (pinL c) (by rw [HPB.out]; exact str_list _) W (by omega) (by omega) (by omega) fR HFR.out
            have hfeed4 : Hid (∀ W, KdAt w W g D2 → Calls Tryd.prog 19 #[.pointer (some ⟨g, 0, none⟩), .string f4] W fun r w' => r = .returned (.string f2) ∧ KdAt w w' g D2 ∧ W.grownBy w' (some g)) := fun W K => by rw [HF2.out]; exact keep_fed G K (fed_four GA'.off GA'.inn hu0 [0, 120] (by decide)) (by rw [told_len]; decide) _ HF4.out
            have hfeedR : Hid (∀ W, KdAt w W g D2 → Calls Tryd.prog 19 #[.pointer (some ⟨g, 0, none⟩), .string fR] W fun r w' => r = .returned (.string f5) ∧ KdAt w w' g D2 ∧ W.grownBy w' (some g)) := fun W K => by rw [HF5.out]; exact keep_fed G K (fed_none GA'.off GA'.inn (GA'.tries.trans hz') (pinL c) lc1 lc2) (by rw [told_len]; omega) _ HFR.out
            have hzb : (left - 1 == 0) = true := by rw [hz']; rfl
            have HZ : Hid (left - 1 = 0) := hz'
            clear hz'
            go_wp2_with (first | (go_at_call 16; first | (have tk := t1; clear tk t1; refine (hfr1.out _).mono ?_; rintro _ wf ⟨rfl, hbf⟩; replace KD := KD.next hbf; clear hbf) | (have tk := t2; clear tk t2; refine (hfrX.out _).mono ?_; rintro _ wf ⟨rfl, hbf⟩; replace KD := (KD.next ((Below.refl _ _).alloc (Nat.le_refl _) _)).next hbf; clear hbf) | (have tk := t3; clear tk t3; refine (hfr4.out _).mono ?_; rintro _ wf ⟨rfl, hbf⟩; replace KD := KD.next hbf; clear hbf) | (have tk := t4; clear tk t4; refine (hfrR.out _).mono ?_; rintro _ wf ⟨rfl, hbf⟩; replace KD := KD.next hbf; clear hbf) | (have tk := t5; clear tk t5; refine (hfr2.out _).mono ?_; rintro _ wf ⟨rfl, hbf⟩; replace KD := KD.next hbf; clear hbf) | (have tk := t6; clear tk t6; refine (hfr5.out _).mono ?_; rintro _ wf ⟨rfl, hbf⟩; replace KD := KD.next hbf; clear hbf)) | (go_at_call 17; first | (refine (hpinA.out _).mono ?_; rintro _ wp ⟨rfl, hbp⟩; replace KD := KD.next hbp; clear hbp)) | (go_at_call 19; first | (have tk := s1; clear tk s1; refine (hfeed.out _ KD).mono ?_; clear KD; rintro _ wd ⟨rfl, KD, -⟩) | (have tk := s2; clear tk s2; refine (hfeed4.out _ KD).mono ?_; clear KD; rintro _ wd ⟨rfl, KD, -⟩) | (have tk := s3; clear tk s3; refine (hfeedR.out _ KD).mono ?_; clear KD; rintro _ wd ⟨rfl, KD, -⟩)) | (go_at_call 23; first | (refine (htell.out _ KD).mono ?_; clear KD; rintro _ wt ⟨rfl, KD, -⟩)))
            exact ⟨⟨i + 1, (left - 1), D2, by go_num, rfl, by omega, by omega, HGA.out, KD⟩, by simp [intOf]; omega⟩
          · have hzb : (left - 1 == 0) = false := beq_eq_false_iff_ne.2 hz'
            clear hz'
            go_wp2_with (first | (go_at_call 16; first | (have tk := t1; clear tk t1; refine (hfr1.out _).mono ?_; rintro _ wf ⟨rfl, hbf⟩; replace KD := KD.next hbf; clear hbf) | (have tk := t2; clear tk t2; refine (hfrX.out _).mono ?_; rintro _ wf ⟨rfl, hbf⟩; replace KD := (KD.next ((Below.refl _ _).alloc (Nat.le_refl _) _)).next hbf; clear hbf)) | (go_at_call 17; first | (refine (hpinA.out _).mono ?_; rintro _ wp ⟨rfl, hbp⟩; replace KD := KD.next hbp; clear hbp)) | (go_at_call 19; first | (have tk := s1; clear tk s1; refine (hfeed.out _ KD).mono ?_; clear KD; rintro _ wd ⟨rfl, KD, -⟩)) | (go_at_call 23; first | (refine (htell.out _ KD).mono ?_; clear KD; rintro _ wt ⟨rfl, KD, -⟩)))
            exact ⟨⟨i + 1, (left - 1), D2, by go_num, rfl, by omega, by omega, HGA.out, KD⟩, by simp [intOf]; omega⟩
    · have hlt' : ¬ ((i : Int) < sl ∧ (i : Int) < 40) := by omega
      by_cases q1 : (i : Int) < sl
      · have q2 : ¬ (i : Int) < 40 := fun e => hlt' ⟨q1, e⟩
        go_wp2
        go_ret
        exact ⟨rfl, KD.base⟩
      · go_wp2
        go_ret
        exact ⟨rfl, KD.base⟩
end Go.Proofs.YtaokemapkgggoaaDoor
