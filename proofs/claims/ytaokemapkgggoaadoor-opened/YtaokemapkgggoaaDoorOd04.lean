import Derived.Test.YtaokemapkgggoaaDoorOd02
namespace Go.Proofs.YtaokemapkgggoaaDoor
open Go.RowKit

set_option linter.unusedSimpArgs false in
set_option maxRecDepth 100000 in
set_option maxHeartbeats 32000000 in
theorem keep_OpenedLaw_F (w : World) (c number tries aq bq0 : Int) (ko : Option Addr) (kl kc : Nat) (G : Glob w) (hI : (-9223372036854775808 ≤ c ∧ c ≤ 9223372036854775807) ∧ (-9223372036854775808 ≤ number ∧ number ≤ 9223372036854775807) ∧ (-9223372036854775808 ≤ tries ∧ tries ≤ 9223372036854775807) ∧ (-9223372036854775808 ≤ aq ∧ aq ≤ 9223372036854775807) ∧ (-9223372036854775808 ≤ bq0 ∧ bq0 ≤ 9223372036854775807)) (hK : IntsAt w ko kl) :
    Calls Tryd.prog 9 #[.int .i64 c, .int .i64 number, .int .i64 tries, .slice ko kl kc, .bool false, .int .i64 aq, .int .i64 bq0] w fun r w' => r = .returned (.bool true) ∧ Below w.heap.size w w' := by
  obtain ⟨⟨hc0, hc1⟩, ⟨hn0, hn1⟩, ⟨ht0, ht1⟩, ⟨ha0, ha1⟩, ⟨hb0, hb1⟩⟩ := hI
  obtain ⟨lc1, lc2⟩ := pinL_len c
  obtain ⟨pb, HPB⟩ : ∃ pb, Hid (pb = str (pinL c)) := ⟨_, rfl⟩
  have hpz1 : 1 ≤ pb.size := by rw [HPB.out, str_size]; exact lc1
  have hpz2 : pb.size ≤ 8 := by rw [HPB.out, str_size]; exact lc2
  have hpin : Hid (∀ W, Calls Tryd.prog 17 #[.int .i64 c] W fun r w' => r = .returned (.string pb) ∧ Below W.heap.size W w') := fun W => by rw [HPB.out]; exact keep_pin c W hc0 hc1
  obtain ⟨nn, Hnn⟩ : ∃ nn, Hid (nn = pickN number 1000000) := ⟨_, rfl⟩
  have hnn6 : nn < 1000000 := by rw [Hnn.out]; exact pickN_lt _ (by omega)
  have hpickN : Hid (∀ W, Calls Tryd.prog 20 #[.int .i64 number, .int .i64 1000000] W fun r w' => r = .returned (.int .i64 nn) ∧ w' = W) := fun W => by rw [Hnn.out]; exact keep_pickB _ 1000000 W hn0 hn1 (by omega) (by omega)
  obtain ⟨tn, Htn⟩ : ∃ tn, Hid (tn = pickN tries 5) := ⟨_, rfl⟩
  have htn5 : tn < 5 := by rw [Htn.out]; exact pickN_lt _ (by omega)
  have hpickT : Hid (∀ W, Calls Tryd.prog 20 #[.int .i64 tries, .int .i64 5] W fun r w' => r = .returned (.int .i64 tn) ∧ w' = W) := fun W => by rw [Htn.out]; exact keep_pick _ 5 W ht0 ht1 (by omega) (by omega)
  obtain ⟨an, Han⟩ : ∃ an, Hid (an = pickN aq 100) := ⟨_, rfl⟩
  have ha100 : an < 100 := by rw [Han.out]; exact pickN_lt _ (by omega)
  have hpickA : Hid (∀ W, Calls Tryd.prog 20 #[.int .i64 aq, .int .i64 100] W fun r w' => r = .returned (.int .i64 an) ∧ w' = W) := fun W => by rw [Han.out]; exact keep_pick _ 100 W ha0 ha1 (by omega) (by omega)
  obtain ⟨bn, Hbn⟩ : ∃ bn, Hid (bn = pickN bq0 255) := ⟨_, rfl⟩
  have hbn5 : bn < 255 := by rw [Hbn.out]; exact pickN_lt _ (by omega)
  have hpickB : Hid (∀ W, Calls Tryd.prog 20 #[.int .i64 bq0, .int .i64 255] W fun r w' => r = .returned (.int .i64 bn) ∧ w' = W) := fun W => by rw [Hbn.out]; exact keep_pick _ 255 W hb0 hb1 (by omega) (by omega)
  have haw := keep_awake w G
  have HK : Hid (IntsAt w ko kl) := hK
  have hw8 : ∀ x : Int, IntKind.u8.wrap x = x % 256 := u8_wrap
  have hz1 := size1
  clear hK Hnn Htn Han Hbn
  go_enter Tryd.func9, Tryd.ntmps9
  go_wp2_with (first | (go_at_call 10; refine haw.mono ?_; rintro _ w1 ⟨rfl, hb1'⟩; clear haw) | (refine wpList_allocR rfl 45 rfl 4 (.string ⟨#[]⟩) arr4s ?_; go_simp))
  have HT : TabAt w (w1.alloc (.cells (zrow 4 (.string ⟨#[]⟩)).toArray 45)) w1.heap.size [⟨#[]⟩, ⟨#[]⟩, ⟨#[]⟩, ⟨#[]⟩] := ⟨Row.made w1 _ _, hb1'.alloc hb1'.size _, hb1'.size⟩
  go_loopw [17] (fun iv wr => ∃ (i : Nat) (ss : List ByteArray), i ≤ 4 ∧ iv = .int .i64 i ∧ ss.length = 4 ∧ (∀ s ∈ ss, s.size ≤ 20) ∧ TabAt w wr w1.heap.size ss) (fun iv _ => 4 - (intOf iv).toNat)
  case atStart => exact ⟨0, _, by omega, rfl, rfl, fun s hs => by simp at hs; subst hs; decide, HT⟩
  case round =>
    clear HT hb1'
    obtain ⟨i, ss, hi4, rfl, hsl, hss, HT⟩ := hrel
    by_cases hlt : i < 4 ∧ i < kl
    · obtain ⟨hlt1, hlt2⟩ := hlt
      have q1 : (i : Int) < 4 := by omega
      have q2 : (i : Int) < kl := by omega
      have q0 : (0 : Int) ≤ i := by omega
      have hin : (i : Int).toNat = i := by omega
      obtain ⟨kb, koff, z, rfl, hkb, e1, hz0, hz1'⟩ := HK.out i hlt2
      have e3 : wr.cell? ⟨kb, koff + i, none⟩ = some (.int .i64 z) := (HT.base.cell (p := ⟨kb, koff + i, none⟩) hkb).trans e1
      clear e1
      have HL4 : Hid (ss.length = 4) := hsl
      have HSS : Hid (∀ s ∈ ss, s.size ≤ 20) := hss
      clear hsl hss
      by_cases hz : z.tmod 3 = 0
      · have hzb : (z.tmod 3 == 0) = true := by rw [hz]; rfl
        go_wp2
        exact ⟨⟨i + 1, ss, by omega, by go_num, HL4.out, HSS.out, HT⟩, by simp [intOf]; omega⟩
      · have hzb : (z.tmod 3 == 0) = false := beq_eq_false_iff_ne.2 hz
        have hzn : (z.tmod 3 != 0) = true := by simpa using hz
        obtain ⟨ks, HKS⟩ : ∃ ks, Hid (ks = str (keyL6 z)) := ⟨_, rfl⟩
        have hkz : ks.size ≤ 20 := by rw [HKS.out, str_size]; exact (keyL6_len z).2
        have HKZ : Hid (ks.size ≤ 20) := hkz
        have hkey : Hid (∀ W, Calls Tryd.prog 11 #[.int .i64 z] W fun r w' => r = .returned (.string ks) ∧ Below W.heap.size W w') := fun W => by rw [HKS.out]; exact keep_key z W hz0 hz1'
        go_wp2_with (go_at_call 11; refine (hkey.out _).mono ?_; rintro _ w2 ⟨rfl, hb2⟩; replace HT := HT.next hb2; clear hb2; have c4 := HT.cell i (by rw [HL4.out]; exact hlt1); have z4 := HT.row.frozen i)
        exact ⟨⟨i + 1, _, by omega, by go_num, by rw [List.length_set]; exact HL4.out, mem_set4 HSS.out HKZ.out, HT.set i _⟩, by simp [intOf]; omega⟩
    · have hlt' : ¬ ((i : Int) < 4 ∧ (i : Int) < kl) := by omega
      by_cases q1 : (i : Int) < 4
      · have q2 : ¬ (i : Int) < kl := fun e => hlt' ⟨q1, e⟩
        obtain ⟨s0, s1, s2, s3, rfl⟩ := four_of ss hsl
        have hs0 : s0.size ≤ 20 := hss s0 (by simp)
        have hs1 : s1.size ≤ 20 := hss s1 (by simp)
        have hs2 : s2.size ≤ 20 := hss s2 (by simp)
        have hs3 : s3.size ≤ 20 := hss s3 (by simp)
        obtain ⟨Ko, HKO⟩ : ∃ Ko, Hid (Ko = (⟨1 + (nn : Int), 5, ⟨#[111, 108, 100]⟩, ⟨#[]⟩, ⟨#[]⟩, ⟨#[]⟩, ⟨#[]⟩⟩ : Kep)) := ⟨_, rfl⟩
        obtain ⟨Kn, HKN⟩ : ∃ Kn, Hid (Kn = (⟨1 + (nn : Int) + 1, 1 + (tn : Int), pb, s0, s1, s2, s3⟩ : Kep)) := ⟨_, rfl⟩
        have Go : Ko.good := by rw [HKO.out]; exact ⟨by show (0 : Int) ≤ 1 + nn; omega, by show 1 + (nn : Int) < _; omega, by show (0 : Int) ≤ 5; omega, by show (5 : Int) ≤ 5; omega, by show (⟨#[111, 108, 100]⟩ : ByteArray).size ≤ 8; decide, by show (⟨#[]⟩ : ByteArray).size ≤ 20; decide, by show (⟨#[]⟩ : ByteArray).size ≤ 20; decide, by show (⟨#[]⟩ : ByteArray).size ≤ 20; decide, by show (⟨#[]⟩ : ByteArray).size ≤ 20; decide⟩
        have Gn : Kn.good := by rw [HKN.out]; exact ⟨by show (0 : Int) ≤ 1 + nn + 1; omega, by show 1 + (nn : Int) + 1 < _; omega, by show (0 : Int) ≤ 1 + tn; omega, by show 1 + (tn : Int) ≤ 5; omega, by show pb.size ≤ 8; omega, hs0, hs1, hs2, hs3⟩
        obtain ⟨ob, HOB⟩ : ∃ ob, Hid (ob = str Ko.img) := ⟨_, rfl⟩
        obtain ⟨nb, HNB⟩ : ∃ nb, Hid (nb = str Kn.img) := ⟨_, rfl⟩
        have hoz : ob.size = 100 := by rw [HOB.out]; exact img_size Go
        have hnz : nb.size = 100 := by rw [HNB.out]; exact img_size Gn
        have HRO : Hid (readOk (Bs ob) ∧ readK (Bs ob) = Ko) := by rw [HOB.out]; exact img_ok Go (by rw [HKO.out]; show (1 : Int) ≤ 1 + nn; omega) (by rw [HKO.out]; show 1 ≤ (⟨#[111, 108, 100]⟩ : ByteArray).size; decide)
        have HRN : Hid (readOk (Bs nb) ∧ readK (Bs nb) = Kn) := by rw [HNB.out]; exact img_ok Gn (by rw [HKN.out]; show (1 : Int) ≤ 1 + nn + 1; omega) (by rw [HKN.out]; show 1 ≤ pb.size; omega)
        have himg1 : Hid (∀ W, Calls Tryd.prog 27 #[.int .i64 (1 + (nn : Int)), .int .i64 5, .string ⟨#[111, 108, 100]⟩, .agg (zrow 4 (.string ⟨#[]⟩)).toArray] W fun r w' => r = .returned (.string ob) ∧ Below W.heap.size W w') := fun W => by rw [HOB.out, HKO.out]; exact keep_image _ 5 ⟨#[111, 108, 100]⟩ ⟨#[]⟩ ⟨#[]⟩ ⟨#[]⟩ ⟨#[]⟩ W (by omega) (by omega) (by decide) (by decide) (by decide) (by decide) (by decide)
        have himg2 : Hid (∀ W, Calls Tryd.prog 27 #[.int .i64 (1 + (nn : Int) + 1), .int .i64 (1 + (tn : Int)), .string pb, .agg (strs [s0, s1, s2, s3]).toArray] W fun r w' => r = .returned (.string nb) ∧ Below W.heap.size W w') := fun W => by rw [HNB.out, HKN.out]; exact keep_image _ _ pb s0 s1 s2 s3 W (by omega) (by omega) (by omega) hs0 hs1 hs2 hs3
        have t1 : Hid True := trivial
        go_wp2_with (first | (go_at_call 20; first | (have tk := t1; clear tk t1; refine (hpickN.out _).mono ?_; rintro _ wk ⟨rfl, ek⟩; rw [ek]; clear ek wk) | (refine (hpickT.out _).mono ?_; rintro _ wk ⟨rfl, ek⟩; rw [ek]; clear ek wk)) | (refine wpList_buildZ rfl 45 rfl 4 (.string ⟨#[]⟩) arr4s (fun e he => by obtain rfl := (TypeDesc.array.inj (Option.some.inj (under4s.symm.trans he))).2; kernel_rfl) ?_; go_simp) | (go_at_call 27; refine (himg1.out _).mono ?_; rintro _ w5 ⟨rfl, hb5⟩; replace HT := HT.next hb5; clear hb5))
        have wn1 := wrap_id (1 + (nn : Int) + 1) (by omega) (by omega)
        have hkS : ∀ X X' : World, TabAt w X w1.heap.size [s0, s1, s2, s3] → Below X.heap.size X X' → TabAt w X' w1.heap.size [s0, s1, s2, s3] := fun X X' h hb => h.next hb
        have hS0 : TabAt w w5.drew w1.heap.size [s0, s1, s2, s3] := HT.next ((Below.refl _ _).drew)
        refine wp_normalK ?_
        refine wp_region_letter (S := fun X => TabAt w X w1.heap.size [s0, s1, s2, s3]) (by kernel_rfl) hS0 ?_
        intro w0 hS_w0
        refine wpAnyH_take (i := 0) (v := .int .i64 (1 + (nn : Int))) rfl (by kernel_rfl) (by kernel_rfl) (by kernel_rfl) (fun _ _ _ h => no_panic h.1) (yields_of rfl (fun w' hw' => by clear hw'; go_simp)) hS_w0 ?_
        try simp only [List.getElem_toArray, List.getElem_cons_succ, List.getElem_cons_zero, Act.put, List.setIfInBounds_toArray, List.set_cons_succ, List.set_cons_zero]
        refine wpAnyH_take (i := 1) (v := .int .i64 (1 + (nn : Int) + 1)) rfl (by kernel_rfl) (by kernel_rfl) (by kernel_rfl) (fun _ _ _ h => no_panic h.1) (yields_of rfl (fun w' hw' => by clear hw'; go_simp)) hS_w0 ?_
        try simp only [List.getElem_toArray, List.getElem_cons_succ, List.getElem_cons_zero, Act.put, List.setIfInBounds_toArray, List.set_cons_succ, List.set_cons_zero]
        refine wpAnyH_take (i := 2) (v := .int .i64 (1 + (tn : Int))) rfl (by kernel_rfl) (by kernel_rfl) (by kernel_rfl) (fun _ _ _ h => no_panic h.1) (yields_of rfl (fun w' hw' => by clear hw'; go_simp)) hS_w0 ?_
        try simp only [List.getElem_toArray, List.getElem_cons_succ, List.getElem_cons_zero, Act.put, List.setIfInBounds_toArray, List.set_cons_succ, List.set_cons_zero]
        refine wpAnyH_take (i := 3) (v := .int .i64 c) rfl (by kernel_rfl) (by kernel_rfl) (by kernel_rfl) (fun _ _ _ h => no_panic h.1) (yields_of rfl (fun w' hw' => by clear hw'; go_simp)) hS_w0 ?_
        try simp only [List.getElem_toArray, List.getElem_cons_succ, List.getElem_cons_zero, Act.put, List.setIfInBounds_toArray, List.set_cons_succ, List.set_cons_zero]
        refine wpAnyH_take (i := 5) (v := .agg (strs [s0, s1, s2, s3]).toArray) rfl (by kernel_rfl) (by kernel_rfl) (by kernel_rfl) (fun _ _ _ h => no_panic h.1) (yields_loadK rfl 45 _ rfl w1.heap.size 0 rfl (strs [s0, s1, s2, s3]) _ (fun _ h => h.row.range) under4s rfl arr4s.size) hS_w0 ?_
        try simp only [List.getElem_toArray, List.getElem_cons_succ, List.getElem_cons_zero, Act.put, List.setIfInBounds_toArray, List.set_cons_succ, List.set_cons_zero]
        refine wpAnyH_ready (rs := [4]) (by kernel_rfl) (by simp) (AllReadyH.cons (i := 4) rfl (fun K hK => ?_) AllReadyH.nil)
        refine step_of rfl ?_
        try simp only [List.getElem_toArray, List.getElem_cons_succ, List.getElem_cons_zero, Act.put, List.setIfInBounds_toArray, List.set_cons_succ, List.set_cons_zero]
        refine wp_callC 17 #[.int .i64 c] (by go_simp) ?_
        refine (hpin.out w0).mono ?_
        rintro _ x1 ⟨rfl, hb_x1⟩
        have hS_x1 := hkS _ _ hS_w0 hb_x1
        refine ⟨_, rfl, hK.out _ _ hS_x1 (fun _ => ?_)⟩
        clear hK K
        try simp only [List.getElem_toArray, List.getElem_cons_succ, List.getElem_cons_zero, Act.put, List.setIfInBounds_toArray, List.set_cons_succ, List.set_cons_zero]
        refine wpAnyH_ready (rs := [6]) (by kernel_rfl) (by simp) (AllReadyH.cons (i := 6) rfl (fun K hK => ?_) AllReadyH.nil)
        refine step_of rfl ?_
        try simp only [List.getElem_toArray, List.getElem_cons_succ, List.getElem_cons_zero, Act.put, List.setIfInBounds_toArray, List.set_cons_succ, List.set_cons_zero]
        refine wp_callC 27 #[.int .i64 (1 + (nn : Int) + 1), .int .i64 (1 + (tn : Int)), .string pb, .agg (strs [s0, s1, s2, s3]).toArray] (by go_simp) ?_
        refine (himg2.out x1).mono ?_
        rintro _ x2 ⟨rfl, hb_x2⟩
        have hS_x2 := hkS _ _ hS_x1 hb_x2
        refine ⟨_, rfl, hK.out _ _ hS_x2 (fun _ => ?_)⟩
        clear hK K
        try simp only [List.getElem_toArray, List.getElem_cons_succ, List.getElem_cons_zero, Act.put, List.setIfInBounds_toArray, List.set_cons_succ, List.set_cons_zero]
        refine wpAnyH_take (i := 7) (v := .string nb) rfl (by kernel_rfl) (by kernel_rfl) (by kernel_rfl) (fun _ _ _ h => no_panic h.1) (yields_of rfl (fun w' hw' => by clear hw'; go_simp)) hS_x2 ?_
        try simp only [List.getElem_toArray, List.getElem_cons_succ, List.getElem_cons_zero, Act.put, List.setIfInBounds_toArray, List.set_cons_succ, List.set_cons_zero]
        refine wpAnyH_done (by kernel_rfl) ⟨rfl, ?_⟩ _
        clear hkS hS0 HT
        have HT := hS_x2
        have hcz0 : 100 + 100 ≤ 9223372036854775807 := by omega
        obtain ⟨fb, HFB⟩ : ∃ fb, Hid (fb = ob ++ nb) := ⟨_, rfl⟩
        have hfb : ob ++ nb = fb := HFB.out.symm
        have hfz : fb.size = 200 := by rw [HFB.out, ByteArray.size_append]; omega
        have HE1 : Hid ((Dv.of 0 ob nb).bootC = ({ (Dv.of 0 ob nb).base with off := false, k := Kn, wh := 1 }, 0)) := open_second HRN.out.1 HRN.out.2 (.inr (by rw [HRO.out.2, HKO.out, HKN.out]; show 1 + (nn : Int) < 1 + nn + 1; omega))
        obtain ⟨E1, HEE⟩ : ∃ E1, Hid (E1 = ({ (Dv.of 0 ob nb).base with off := false, k := Kn, wh := 1 } : Dv)) := ⟨_, rfl⟩
        have U1 : Up E1 := by rw [HEE.out]; exact ⟨rfl, rfl, by show (-1 : Int) < 0; omega⟩
        have HK1 : Hid (E1.k = Kn) := by show _ = _; rw [HEE.out]
        have HU1 : Hid (E1.unl = false) := by show _ = _; rw [HEE.out]; rfl
        have HF1 : Hid (E1.h0 ++ E1.h1 = fb) := by show _ = _; rw [HEE.out, HFB.out]; rfl
        have hopen1 : Hid (∀ W, Below w.heap.size w W → Calls Tryd.prog 28 #[.string fb] W fun r w' => ∃ g, r = .returned (.tuple #[.pointer (some ⟨g, 0, none⟩), .int .i64 0]) ∧ W.heap.size ≤ g ∧ KdAt w w' g E1 ∧ Below W.heap.size W w') := fun W hb => by rw [HEE.out]; exact keep_Open w W fb ob nb HFB.out hoz hnz _ HE1.out hb
        go_wp2_with (go_at_call 28; refine (hopen1.out _ HT.base).mono ?_; rintro _ w6 ⟨g1, rfl, hg1, K1, hb6⟩; have HH : HoldAt w w6 g1 E1 w1.heap.size [s0, s1, s2, s3] := ⟨K1, HT.row.below hb6 HT.row.lt, HT.low, by have := HT.row.lt; omega⟩; clear HT K1 hb6 hg1 hopen1)
        have htl : ∀ W, KdAt w W g1 E1 → Calls Tryd.prog 23 #[.pointer (some ⟨g1, 0, none⟩)] W fun r w' => r = .returned (.tuple #[.int .i64 0, .int .i64 (1 + (tn : Int)), .int .i64 (bitsHi [s0, s1, s2, s3]), .bool true]) ∧ KdAt w w' g1 E1 ∧ W.grownBy w' (some g1) := fun W K => by
          have := keep_tells G K U1.off U1.inn
          rw [HU1.out, HK1.out, if_neg (by decide), HKN.out, ← bitsHi_all] at this
          exact this
        have HTL : Hid _ := htl
        clear htl
        obtain ⟨bh, HBH⟩ : ∃ bh, Hid (bh = bitsHi [s0, s1, s2, s3]) := ⟨_, rfl⟩
        rw [← HBH.out] at HTL
        go_wp2_with (go_at_call 23; refine (HTL.out _ HH.kd).mono ?_; rintro _ w7 ⟨rfl, K7, hg7⟩; replace HH := HH.feed K7 hg7; clear K7 hg7)
        clear HTL
        go_loopw [29, 30] (fun bv iv wr => ∃ m : Nat, m ≤ 4 ∧ iv = .int .i64 ((m : Int) - 1) ∧ bv = .int .i64 (bitsHi ([s0, s1, s2, s3].drop m)) ∧ HoldAt w wr g1 E1 w1.heap.size [s0, s1, s2, s3]) (fun _ iv _ => ((intOf iv) + 1).toNat)
        case atStart => exact ⟨4, by omega, rfl, rfl, HH⟩
        case round =>
          clear HH
          obtain ⟨m, hm4, rfl, rfl, HH⟩ := hrel
          by_cases hm0 : m = 0
          · subst hm0
            rw [List.drop_zero, ← HBH.out, show ((0 : Nat) : Int) - 1 = -1 from rfl]
            have q9 : ¬ (0 : Int) ≤ -1 := by omega
            obtain ⟨a0, HA0⟩ : ∃ a0, Hid (a0 = str (told 0 [])) := ⟨_, rfl⟩
            obtain ⟨f1, HF1p⟩ : ∃ f1, Hid (f1 = str (told 1 (pinL c))) := ⟨_, rfl⟩
            have hfl : Hid (∀ W, KdAt w W g1 E1 → Calls Tryd.prog 21 #[.pointer (some ⟨g1, 0, none⟩)] W fun r w' => r = .returned (.string fb) ∧ KdAt w w' g1 E1 ∧ Below W.heap.size W w') := fun W K => by rw [← HF1.out]; exact keep_Flash K
            obtain ⟨e1, hfd1, U2, hu2, hk2⟩ := fed_right U1 (pinL c) (by rw [HK1.out, HKN.out]; exact HPB.out) lc1 lc2 (by rw [HK1.out, HKN.out]; show ¬ (1 + (tn : Int) = 0); omega) (by rw [HK1.out, HKN.out]; show (1 + (nn : Int) + 1) + 2 < _; omega)
            have hgood := HH.kd.fed (told 1 (pinL c))
            rw [hfd1] at hgood
            obtain ⟨so1, st1, -⟩ := hgood
            obtain ⟨E2, hE2, hk3, U3, hu3⟩ := open_stands st1
            have hfr1 : Hid (∀ W, Calls Tryd.prog 16 #[.int .i64 1, .string pb] W fun r w' => r = .returned (.string f1) ∧ Below W.heap.size W w') := fun W => frame_is 1 pb (pinL c) (by rw [HPB.out]; exact str_list _) W (by omega) (by omega) (by omega) f1 HF1p.out
            have hfr0 : Hid (∀ W, Calls Tryd.prog 16 #[.int .i64 0, .string ⟨#[]⟩] W fun r w' => r = .returned (.string a0) ∧ Below W.heap.size W w') := fun W => frame_is 0 _ [] rfl W (by omega) (by omega) (by decide) a0 HA0.out
            have hfeed1 : Hid (∀ W, KdAt w W g1 E1 → Calls Tryd.prog 19 #[.pointer (some ⟨g1, 0, none⟩), .string f1] W fun r w' => r = .returned (.string a0) ∧ KdAt w w' g1 e1 ∧ W.grownBy w' (some g1)) := fun W K => by rw [HA0.out]; exact keep_fed G K hfd1 (by rw [told_len]; omega) _ HF1p.out
            obtain ⟨f2, HF2⟩ : ∃ f2, Hid (f2 = e1.h0 ++ e1.h1) := ⟨_, rfl⟩
            have hfl2 : Hid (∀ W, KdAt w W g1 e1 → Calls Tryd.prog 21 #[.pointer (some ⟨g1, 0, none⟩)] W fun r w' => r = .returned (.string f2) ∧ KdAt w w' g1 e1 ∧ Below W.heap.size W w') := fun W K => by rw [HF2.out]; exact keep_Flash K
            have hopen2 : Hid (∀ W, Below w.heap.size w W → Calls Tryd.prog 28 #[.string f2] W fun r w' => ∃ g, r = .returned (.tuple #[.pointer (some ⟨g, 0, none⟩), .int .i64 0]) ∧ W.heap.size ≤ g ∧ KdAt w w' g E2 ∧ Below W.heap.size W w') := fun W hb => keep_Open w W f2 e1.h0 e1.h1 HF2.out so1.s0 so1.s1 _ hE2 hb
            have htl : ∀ W g, KdAt w W g E2 → Calls Tryd.prog 23 #[.pointer (some ⟨g, 0, none⟩)] W fun r w' => r = .returned (.tuple #[.int .i64 0, .int .i64 5, .int .i64 bh, .bool true]) ∧ KdAt w w' g E2 ∧ W.grownBy w' (some g) := fun W g K => by
              have := keep_tells G K U3.off U3.inn
              rw [hu3, hk3, if_neg (by decide), bits_keys e1.k Kn (by rw [hk2, HK1.out]) (by rw [hk2, HK1.out]) (by rw [hk2, HK1.out]) (by rw [hk2, HK1.out]), hk2] at this
              rw [show Kn.bits 4 = bh by rw [HBH.out, HKN.out, bitsHi_all]] at this
              exact this
            have HTL : Hid _ := htl
            clear htl hfd1 U1 U2 U3 hu2 hu3 hk2 hk3 st1 so1 hE2
            have t2 : Hid True := trivial
            have t3 : Hid True := trivial
            have t4 : Hid True := trivial
            go_wp2_with (first | (go_at_call 21; first | (have tk := t2; clear tk t2; refine (hfl.out _ HH.kd).mono ?_; rintro _ w8 ⟨rfl, K8, hb8⟩; replace HH := HH.next hb8; clear K8 hb8) | (refine (hfl2.out _ HH.kd).mono ?_; rintro _ w9 ⟨rfl, K9, hb9⟩; replace HH := HH.next hb9; clear K9 hb9)) | (go_at_call 17; refine (hpin.out _).mono ?_; rintro _ wp ⟨rfl, hbp⟩; replace HH := HH.next hbp; clear hbp) | (go_at_call 16; first | (have tk := t3; clear tk t3; refine (hfr1.out _).mono ?_; rintro _ wf ⟨rfl, hbf⟩; replace HH := HH.next hbf; clear hbf) | (refine (hfr0.out _).mono ?_; rintro _ wf ⟨rfl, hbf⟩; replace HH := HH.next hbf; clear hbf)) | (go_at_call 19; refine (hfeed1.out _ HH.kd).mono ?_; rintro _ wd ⟨rfl, Kd, hgd⟩; replace HH := HH.feed Kd hgd; clear Kd hgd) | (go_at_call 28; refine (hopen2.out _ HH.kd.base).mono ?_; rintro _ wo ⟨g2, rfl, hg2, K2, hb2⟩; clear HH hg2 hb2) | (go_at_call 23; refine (HTL.out _ _ K2).mono ?_; rintro _ wt ⟨rfl, K3, hg3⟩; clear K2 hg3) | (go_at_call 20; refine (hpickA.out _).mono ?_; rintro _ wk ⟨rfl, ek⟩; rw [ek]; clear ek wk))
            clear hfl hfl2 hpin hfr1 hfeed1 hopen2 HTL hpickA
            obtain ⟨kk, HKK⟩ : ∃ kk : Nat, Hid (kk = (an + 100)) := ⟨_, rfl⟩
            have hkk0 : (an : Int) + 100 = kk := by rw [HKK.out]; omega
            rw [hkk0]
            have hkk2 : kk < 200 := by rw [HKK.out]; omega
            have k0 : (0 : Int) ≤ kk := by omega
            have k1 : (kk : Int) < 200 := by omega
            have k2 : (kk : Int) ≤ 200 := by omega
            have k3 : (kk : Int) + 1 ≤ 200 := by omega
            have k4 : (0 : Int) ≤ (kk : Int) + 1 := by omega
            have k5 : (kk : Int).toNat = kk := by omega
            have k6 : ((kk : Int) + 1).toNat = kk + 1 := by omega
            have k7 : (kk : Int) < fb.size := by omega
            have k8 : (kk : Int) ≤ fb.size := by omega
            have k9 : (kk : Int) + 1 ≤ fb.size := by omega
            clear hkk0
            have hyb := byte_at (s := fb) (i := kk) (by omega)
            have hyd := getD_isB (bytesI_B fb.data.toList) kk
            obtain ⟨y, HY⟩ : ∃ y, Hid (y = (bytesI fb.data.toList).getD kk 0) := ⟨_, rfl⟩
            rw [← HY.out] at hyb hyd
            obtain ⟨y0, y1⟩ := hyd
            obtain ⟨xa0, xa1, xa2⟩ := xr_ne y (1 + (bn : Int)) ⟨y0, y1⟩ ⟨by omega, by omega⟩
            have hxo : bits .xor .u8 y (1 + (bn : Int)) = xr y (1 + (bn : Int)) := u8_xor _ _ y0 y1 (by omega) (by omega)
            obtain ⟨xo, HXO⟩ : ∃ xo, Hid (xo = xr y (1 + (bn : Int))) := ⟨_, rfl⟩
            rw [← HXO.out] at hxo xa0 xa1 xa2
            have hb8 : (1 + (bn : Int)) % 256 = 1 + bn := by omega
            have wn2 := wrap_id ((kk : Int) + 1) (by omega) (by omega)
            have wn3 := wrap_id (1 + (bn : Int)) (by omega) (by omega)
            obtain ⟨p1, HP1⟩ : ∃ p1, Hid (p1 = fb.extract 0 kk) := ⟨_, rfl⟩
            obtain ⟨p2, HP2⟩ : ∃ p2, Hid (p2 = fb.extract (kk + 1) fb.size) := ⟨_, rfl⟩
            have hp1 : fb.extract 0 kk = p1 := HP1.out.symm
            have hp2 : fb.extract (kk + 1) fb.size = p2 := HP2.out.symm
            have hp2' : fb.extract (kk + 1) 200 = p2 := by rw [HP2.out, hfz]
            have zp1 : p1.size = kk := by rw [HP1.out, ByteArray.size_extract]; omega
            have zp2 : p2.size = 199 - kk := by rw [HP2.out, ByteArray.size_extract]; omega
            have HZ1 : Hid (p1.size = kk) := zp1
            have HZ2 : Hid (p2.size = 199 - kk) := zp2
            have zq1 : p1.size + 1 ≤ 9223372036854775807 := by omega
            have zq2 : p1.size + 1 + p2.size ≤ 9223372036854775807 := by omega
            clear zp1 zp2
            obtain ⟨sp, HSP⟩ : ∃ sp, Hid (sp = p1 ++ strOfNums [xo] ++ p2) := ⟨_, rfl⟩
            have B3 : Below w.heap.size w wt := K3.base
            have hkS : ∀ X X' : World, Below w.heap.size w X → Below X.heap.size X X' → Below w.heap.size w X' := fun X X' h hb => h.trans (hb.mono h.size)
            have hS0 : Below w.heap.size w wt.drew := B3.drew
            refine wp_normalK ?_
            refine wp_region_letter (S := fun X => Below w.heap.size w X) (by kernel_rfl) hS0 ?_
            intro w0 hS_w0
            refine wpAnyH_take (i := 0) (v := .string fb) rfl (by kernel_rfl) (by kernel_rfl) (by kernel_rfl) (fun _ _ _ h => no_panic h.1) (yields_of rfl (fun w' hw' => by clear hw'; go_simp)) hS_w0 ?_
            try simp only [List.getElem_toArray, List.getElem_cons_succ, List.getElem_cons_zero, Act.put, List.setIfInBounds_toArray, List.set_cons_succ, List.set_cons_zero]
            refine wpAnyH_take (i := 1) (v := .int .i64 kk) rfl (by kernel_rfl) (by kernel_rfl) (by kernel_rfl) (fun _ _ _ h => no_panic h.1) (yields_of rfl (fun w' hw' => by clear hw'; go_simp)) hS_w0 ?_
            try simp only [List.getElem_toArray, List.getElem_cons_succ, List.getElem_cons_zero, Act.put, List.setIfInBounds_toArray, List.set_cons_succ, List.set_cons_zero]
            refine wpAnyH_take (i := 2) (v := .string p1) rfl (by kernel_rfl) (by kernel_rfl) (by kernel_rfl) (fun _ _ _ h => no_panic h.1) (yields_of rfl (fun w' hw' => by clear hw'; go_simp)) hS_w0 ?_
            try simp only [List.getElem_toArray, List.getElem_cons_succ, List.getElem_cons_zero, Act.put, List.setIfInBounds_toArray, List.set_cons_succ, List.set_cons_zero]
            refine wpAnyH_take (i := 3) (v := .string fb) rfl (by kernel_rfl) (by kernel_rfl) (by kernel_rfl) (fun _ _ _ h => no_panic h.1) (yields_of rfl (fun w' hw' => by clear hw'; go_simp)) hS_w0 ?_
            try simp only [List.getElem_toArray, List.getElem_cons_succ, List.getElem_cons_zero, Act.put, List.setIfInBounds_toArray, List.set_cons_succ, List.set_cons_zero]
            refine wpAnyH_take (i := 4) (v := .int .i64 kk) rfl (by kernel_rfl) (by kernel_rfl) (by kernel_rfl) (fun _ _ _ h => no_panic h.1) (yields_of rfl (fun w' hw' => by clear hw'; go_simp)) hS_w0 ?_
            try simp only [List.getElem_toArray, List.getElem_cons_succ, List.getElem_cons_zero, Act.put, List.setIfInBounds_toArray, List.set_cons_succ, List.set_cons_zero]
            refine wpAnyH_take (i := 5) (v := .int .u8 y) rfl (by kernel_rfl) (by kernel_rfl) (by kernel_rfl) (fun _ _ _ h => no_panic h.1) (yields_of rfl (fun w' hw' => by clear hw'; go_simp)) hS_w0 ?_
            try simp only [List.getElem_toArray, List.getElem_cons_succ, List.getElem_cons_zero, Act.put, List.setIfInBounds_toArray, List.set_cons_succ, List.set_cons_zero]
            refine wpAnyH_take (i := 6) (v := .int .i64 bq0) rfl (by kernel_rfl) (by kernel_rfl) (by kernel_rfl) (fun _ _ _ h => no_panic h.1) (yields_of rfl (fun w' hw' => by clear hw'; go_simp)) hS_w0 ?_
            try simp only [List.getElem_toArray, List.getElem_cons_succ, List.getElem_cons_zero, Act.put, List.setIfInBounds_toArray, List.set_cons_succ, List.set_cons_zero]
            refine wpAnyH_take (i := 14) (v := .string fb) rfl (by kernel_rfl) (by kernel_rfl) (by kernel_rfl) (fun _ _ _ h => no_panic h.1) (yields_of rfl (fun w' hw' => by clear hw'; go_simp)) hS_w0 ?_
            try simp only [List.getElem_toArray, List.getElem_cons_succ, List.getElem_cons_zero, Act.put, List.setIfInBounds_toArray, List.set_cons_succ, List.set_cons_zero]
            refine wpAnyH_take (i := 15) (v := .int .i64 kk) rfl (by kernel_rfl) (by kernel_rfl) (by kernel_rfl) (fun _ _ _ h => no_panic h.1) (yields_of rfl (fun w' hw' => by clear hw'; go_simp)) hS_w0 ?_
            try simp only [List.getElem_toArray, List.getElem_cons_succ, List.getElem_cons_zero, Act.put, List.setIfInBounds_toArray, List.set_cons_succ, List.set_cons_zero]
            refine wpAnyH_take (i := 16) (v := .int .i64 ((kk : Int) + 1)) rfl (by kernel_rfl) (by kernel_rfl) (by kernel_rfl) (fun _ _ _ h => no_panic h.1) (yields_of rfl (fun w' hw' => by clear hw'; go_simp)) hS_w0 ?_
            try simp only [List.getElem_toArray, List.getElem_cons_succ, List.getElem_cons_zero, Act.put, List.setIfInBounds_toArray, List.set_cons_succ, List.set_cons_zero]
            refine wpAnyH_take (i := 17) (v := .string p2) rfl (by kernel_rfl) (by kernel_rfl) (by kernel_rfl) (fun _ _ _ h => no_panic h.1) (yields_of rfl (fun w' hw' => by clear hw'; go_simp)) hS_w0 ?_
            try simp only [List.getElem_toArray, List.getElem_cons_succ, List.getElem_cons_zero, Act.put, List.setIfInBounds_toArray, List.set_cons_succ, List.set_cons_zero]
            refine wpAnyH_ready (rs := [7]) (by kernel_rfl) (by simp) (AllReadyH.cons (i := 7) rfl (fun K hK => ?_) AllReadyH.nil)
            refine step_of rfl ?_
            try simp only [List.getElem_toArray, List.getElem_cons_succ, List.getElem_cons_zero, Act.put, List.setIfInBounds_toArray, List.set_cons_succ, List.set_cons_zero]
            refine wp_callC 20 #[.int .i64 bq0, .int .i64 255] (by go_simp) ?_
            refine (hpickB.out w0).mono ?_
            rintro _ w9 ⟨rfl, e9⟩
            rw [e9]
            clear e9 w9
            refine ⟨_, rfl, hK.out _ _ hS_w0 (fun _ => ?_)⟩
            clear hK K
            try simp only [List.getElem_toArray, List.getElem_cons_succ, List.getElem_cons_zero, Act.put, List.setIfInBounds_toArray, List.set_cons_succ, List.set_cons_zero]
            refine wpAnyH_take (i := 8) (v := .int .i64 (1 + (bn : Int))) rfl (by kernel_rfl) (by kernel_rfl) (by kernel_rfl) (fun _ _ _ h => no_panic h.1) (yields_of rfl (fun w' hw' => by clear hw'; go_simp)) hS_w0 ?_
            try simp only [List.getElem_toArray, List.getElem_cons_succ, List.getElem_cons_zero, Act.put, List.setIfInBounds_toArray, List.set_cons_succ, List.set_cons_zero]
            refine wpAnyH_take (i := 9) (v := .int .u8 (1 + (bn : Int))) rfl (by kernel_rfl) (by kernel_rfl) (by kernel_rfl) (fun _ _ _ h => no_panic h.1) (yields_of rfl (fun w' hw' => by clear hw'; go_simp)) hS_w0 ?_
            try simp only [List.getElem_toArray, List.getElem_cons_succ, List.getElem_cons_zero, Act.put, List.setIfInBounds_toArray, List.set_cons_succ, List.set_cons_zero]
            refine wpAnyH_take (i := 10) (v := .int .u8 xo) rfl (by kernel_rfl) (by kernel_rfl) (by kernel_rfl) (fun _ _ _ h => no_panic h.1) (yields_of rfl (fun w' hw' => by clear hw'; go_simp)) hS_w0 ?_
            try simp only [List.getElem_toArray, List.getElem_cons_succ, List.getElem_cons_zero, Act.put, List.setIfInBounds_toArray, List.set_cons_succ, List.set_cons_zero]
            refine wpAnyH_ready (rs := [11]) (by kernel_rfl) (by simp) (AllReadyH.cons (i := 11) rfl (fun K hK => ?_) AllReadyH.nil)
            have hS_x1 := hkS _ _ hS_w0 (below_built w0 (.cells #[.int .u8 xo] 5))
            have r11_x1 := row_built w0 xo
            refine step_of rfl (wp_val (v := .slice (some ⟨w0.heap.size, 0, none⟩) 1 1) (w' := w0.alloc (.cells #[.int .u8 xo] 5)) (by go_simp) (hK.out _ _ hS_x1 (fun _ => ?_)))
            clear hK K
            try simp only [List.getElem_toArray, List.getElem_cons_succ, List.getElem_cons_zero, Act.put, List.setIfInBounds_toArray, List.set_cons_succ, List.set_cons_zero]
            generalize w0.alloc (.cells #[.int .u8 xo] 5) = x1 at *
            refine wpAnyH_ready (rs := [12]) (by kernel_rfl) (by simp) (AllReadyH.cons (i := 12) rfl (fun K hK => ?_) AllReadyH.nil)
            have hcv := run_convR x1 (w0.heap.size) [xo] 1 1 rfl r11_x1.range
            refine step_of rfl (wp_val (v := .string (strOfNums [xo])) (w' := x1) (by go_simp) (hK.out _ _ hS_x1 (fun _ => ?_)))
            clear hK K hcv
            try simp only [List.getElem_toArray, List.getElem_cons_succ, List.getElem_cons_zero, Act.put, List.setIfInBounds_toArray, List.set_cons_succ, List.set_cons_zero]
            refine wpAnyH_take (i := 13) (v := .string (p1 ++ strOfNums [xo])) rfl (by kernel_rfl) (by kernel_rfl) (by kernel_rfl) (fun _ _ _ h => no_panic h.1) (yields_of rfl (fun w' hw' => by clear hw'; go_simp)) hS_x1 ?_
            try simp only [List.getElem_toArray, List.getElem_cons_succ, List.getElem_cons_zero, Act.put, List.setIfInBounds_toArray, List.set_cons_succ, List.set_cons_zero]
            refine wpAnyH_take (i := 18) (v := .string (p1 ++ strOfNums [xo] ++ p2)) rfl (by kernel_rfl) (by kernel_rfl) (by kernel_rfl) (fun _ _ _ h => no_panic h.1) (yields_of rfl (fun w' hw' => by clear hw'; go_simp)) hS_x1 ?_
            try simp only [List.getElem_toArray, List.getElem_cons_succ, List.getElem_cons_zero, Act.put, List.setIfInBounds_toArray, List.set_cons_succ, List.set_cons_zero]
            refine wpAnyH_take (i := 19) (v := .string (p1 ++ strOfNums [xo] ++ p2)) rfl (by kernel_rfl) (by kernel_rfl) (by kernel_rfl) (fun _ _ _ h => no_panic h.1) (yields_of rfl (fun w' hw' => by clear hw'; go_simp)) hS_x1 ?_
            try simp only [List.getElem_toArray, List.getElem_cons_succ, List.getElem_cons_zero, Act.put, List.setIfInBounds_toArray, List.set_cons_succ, List.set_cons_zero]
            refine wpAnyH_done (by kernel_rfl) ⟨rfl, ?_⟩ _
            rw [← HSP.out]
            have B4 : Below w.heap.size w x1 := hS_x1
            clear hkS hS0 hxo hyb hb8 hp1 hp2 hp2' zq1 zq2 k7 k8 k9
            have HFL : Hid (fb.data.toList.length = 200) := by show _ = _; rw [Array.length_toList]; exact hfz
            have HSL : Hid (sp = str (fb.data.toList.set kk (UInt8.ofNat xo.toNat))) := by
              show _ = _
              rw [HSP.out, HP1.out, HP2.out, ← list_str fb, str_take, str_drop, strOfNums_str, str_append, str_append, str_list]
              exact congrArg str (set_parts _ _ _ (by rw [HFL.out]; exact hkk2))
            have hsz : sp.size = 200 := by rw [HSL.out, str_size, List.length_set, HFL.out]
            have hkh : 100 ≤ kk := by rw [HKK.out]; omega
            obtain ⟨kj, HKJ⟩ : ∃ kj, Hid (kj = kk - 100) := ⟨_, rfl⟩
            have hkj : kj < 100 := by rw [HKJ.out]; omega
            have hkj2 : kk = 100 + kj := by rw [HKJ.out]; omega
            have HNW : Hid (¬ readOk (Bs (str (nb.data.toList.set kj (UInt8.ofNat xo.toNat))))) := by
              have e : Bs (str (nb.data.toList.set kj (UInt8.ofNat xo.toNat))) = (Bs nb).set kj (UInt8.ofNat xo.toNat) := str_list _
              have hl : (Bs nb).length = 100 := by rw [Bs_len]; exact hnz
              rw [e]
              refine turned_wrong hl HRN.out.1 kj hkj _ ((Bs nb)[kj]'(by omega)) (List.getElem?_eq_getElem _) ?_
              intro hh
              apply xa2
              have h1 : y = (((Bs nb)[kj]'(by omega)).toNat : Int) := by
                rw [HY.out, HFB.out, ByteArray.data_append, Array.toList_append]
                have : (bytesI (ob.data.toList ++ nb.data.toList)).getD kk 0 = (bytesI nb.data.toList).getD kj 0 := by
                  have lo : (bytesI ob.data.toList).length = 100 := by rw [bytesI_length, Array.length_toList]; exact hoz
                  rw [bytesI_append, List.getD_eq_getElem?_getD, List.getElem?_append_right (by omega), lo, List.getD_eq_getElem?_getD, show kk - 100 = kj by omega]
                rw [this]
                exact bAt_get (Bs nb) kj (by omega)
              rw [h1, ← hh, UInt8.toNat_ofNat']
              omega
            obtain ⟨nw, HNW2⟩ : ∃ nw, Hid (nw = str (nb.data.toList.set kj (UInt8.ofNat xo.toNat))) := ⟨_, rfl⟩
            rw [← HNW2.out] at HNW
            have hwz : nw.size = 100 := by rw [HNW2.out, str_size, List.length_set, Array.length_toList]; exact hnz
            have HSA : Hid (sp = ob ++ nw) := by
              show _ = _
              have lo : ob.data.toList.length = 100 := by rw [Array.length_toList]; exact hoz
              rw [HSL.out, HNW2.out, HFB.out, ByteArray.data_append, Array.toList_append, List.set_append_right _ _ (by omega), lo, show kk - 100 = kj by omega, ← str_append, list_str]
            have HE3 : Hid ((Dv.of 0 ob nw).bootC = ({ (Dv.of 0 ob nw).base with off := false, k := Ko, wh := 0 }, 0)) := open_first HRO.out.1 HRO.out.2 (.inl HNW.out)
            obtain ⟨E3, HE3E⟩ : ∃ E3, Hid (E3 = ({ (Dv.of 0 ob nw).base with off := false, k := Ko, wh := 0 } : Dv)) := ⟨_, rfl⟩
            have U3 : Up E3 := by rw [HE3E.out]; exact ⟨rfl, rfl, by show (-1 : Int) < 0; omega⟩
            have hk3 : E3.k = Ko := by rw [HE3E.out]
            have hopen3 : Hid (∀ W, Below w.heap.size w W → Calls Tryd.prog 28 #[.string sp] W fun r w' => ∃ g, r = .returned (.tuple #[.pointer (some ⟨g, 0, none⟩), .int .i64 0]) ∧ W.heap.size ≤ g ∧ KdAt w w' g E3 ∧ Below W.heap.size W w') := fun W hb => by rw [HE3E.out]; exact keep_Open w W sp ob nw HSA.out hoz hwz _ HE3.out hb
            obtain ⟨e3, hfd3, -, -, -⟩ := fed_right U3 [111, 108, 100] (by rw [hk3, HKO.out]; rfl) (by decide) (by decide) (by rw [hk3, HKO.out]; show ¬ (5 : Int) = 0; omega) (by rw [hk3, HKO.out]; show (1 + (nn : Int)) + 2 < _; omega)
            obtain ⟨f3, HF3⟩ : ∃ f3, Hid (f3 = str (told 1 [111, 108, 100])) := ⟨_, rfl⟩
            have hfr3 : Hid (∀ W, Calls Tryd.prog 16 #[.int .i64 1, .string ⟨#[111, 108, 100]⟩] W fun r w' => r = .returned (.string f3) ∧ Below W.heap.size W w') := fun W => frame_is 1 _ [111, 108, 100] rfl W (by omega) (by omega) (by decide) f3 HF3.out
            have hfeed3 : Hid (∀ W g, KdAt w W g E3 → Calls Tryd.prog 19 #[.pointer (some ⟨g, 0, none⟩), .string f3] W fun r w' => r = .returned (.string a0) ∧ KdAt w w' g e3 ∧ W.grownBy w' (some g)) := fun W g K => by rw [HA0.out]; exact keep_fed G K hfd3 (by rw [told_len]; decide) _ HF3.out
            obtain ⟨f9, HF9⟩ : ∃ f9, Hid (f9 = fb.extract 0 199) := ⟨_, rfl⟩
            have hf9 : fb.extract 0 199 = f9 := HF9.out.symm
            have hopen9 : Hid (∀ W, Calls Tryd.prog 28 #[.string f9] W fun r w' => r = .returned (.tuple #[.pointer none, .int .i64 2]) ∧ w' = W) := fun W => prog_Open_size f9 W (by rw [HF9.out, ByteArray.size_extract]; omega)
            have hZ0 : (⟨#[0]⟩ : ByteArray).size = 1 := rfl
            obtain ⟨q1, HQ1⟩ : ∃ q1, Hid (q1 = sp.extract 0 kk) := ⟨_, rfl⟩
            obtain ⟨q2, HQ2⟩ : ∃ q2, Hid (q2 = sp.extract (kk + 1) sp.size) := ⟨_, rfl⟩
            obtain ⟨sz, HSZ⟩ : ∃ sz, Hid (sz = q1 ++ ⟨#[0]⟩ ++ q2) := ⟨_, rfl⟩
            have HSZL : Hid (sz = str (sp.data.toList.set kk 0)) := by
              show _ = _
              rw [HSZ.out, HQ1.out, HQ2.out, ← list_str sp, str_take, str_drop, str_zero, str_append, str_append, str_list]
              exact congrArg str (set_parts _ _ _ (by rw [Array.length_toList]; show kk < sp.size; omega))
            have HSZA : Hid (∃ nv, sz = ob ++ nv ∧ nv.size = 100) := by
              have lo : ob.data.toList.length = 100 := by rw [Array.length_toList]; exact hoz
              exact ⟨str (nw.data.toList.set kj 0), by rw [HSZL.out, HSA.out, ByteArray.data_append, Array.toList_append, List.set_append_right _ _ (by omega), lo, show kk - 100 = kj by omega, ← str_append, list_str], by rw [str_size, List.length_set, Array.length_toList]; exact hwz⟩
            obtain ⟨nv, hnv, hvz⟩ := HSZA.out
            obtain ⟨E4, hE4⟩ := open_any (h0 := ob) (h1 := nv) (.inl HRO.out.1)
            have hopen4 : Hid (∀ W, Below w.heap.size w W → Calls Tryd.prog 28 #[.string sz] W fun r w' => ∃ g, r = .returned (.tuple #[.pointer (some ⟨g, 0, none⟩), .int .i64 0]) ∧ W.heap.size ≤ g ∧ KdAt w w' g E4 ∧ Below W.heap.size W w') := fun W hb => keep_Open w W sz ob nv hnv hoz hvz _ hE4 hb
            clear hnv hvz hE4 U3 hk3 hfd3 xa0 xa1 xa2 y0 y1 hss hkh hkj hkj2
            have t5 : Hid True := trivial
            have hfi : (199 : Int) ≤ fb.size := by omega
            go_wp2_with (first | (go_at_call 28; first | (have tk := t5; clear tk t5; refine (hopen3.out _ B4).mono ?_; rintro _ w10 ⟨g3, rfl, hg3, K4, hb10⟩; clear hg3 hb10 B4) | (refine (hopen9.out _).mono ?_; rintro _ wk ⟨rfl, ek⟩; rw [ek]; clear ek wk)) | (go_at_call 16; refine (hfr3.out _).mono ?_; rintro _ w11 ⟨rfl, hb11⟩; replace K4 := K4.next hb11; clear hb11) | (go_at_call 19; refine (hfeed3.out _ _ K4).mono ?_; rintro _ w12 ⟨rfl, K5, hg5⟩; clear K4 hg5))
            clear hopen3 hopen9 hfr3 hfeed3 hf9 hfi
            have hqa : sp.extract 0 kk = q1 := HQ1.out.symm
            have hqb : sp.extract (kk + 1) sp.size = q2 := HQ2.out.symm
            have hqb' : sp.extract (kk + 1) 200 = q2 := by rw [HQ2.out, hsz]
            have zqa : q1.size = kk := by rw [HQ1.out, ByteArray.size_extract]; omega
            have zqb : q2.size = 199 - kk := by rw [HQ2.out, ByteArray.size_extract]; omega
            have zqc : q1.size + 1 ≤ 9223372036854775807 := by omega
            have zqd : q1.size + 1 + q2.size ≤ 9223372036854775807 := by omega
            have k8 : (kk : Int) ≤ sp.size := by omega
            have k9 : (kk : Int) + 1 ≤ sp.size := by omega
            clear zqa zqb
            have hkS : ∀ X X' : World, Below w.heap.size w X → Below X.heap.size X X' → Below w.heap.size w X' := fun X X' h hb => h.trans (hb.mono h.size)
            have hS0 : Below w.heap.size w w12.drew := K5.base.drew
            have hopen5 : Hid (∀ W, Below w.heap.size w W → Calls Tryd.prog 28 #[.string (q1 ++ ⟨#[0]⟩ ++ q2)] W fun r w' => ∃ g, r = .returned (.tuple #[.pointer (some ⟨g, 0, none⟩), .int .i64 0]) ∧ W.heap.size ≤ g ∧ KdAt w w' g E4 ∧ Below W.heap.size W w') := fun W hb => by rw [← HSZ.out]; exact hopen4.out W hb
            refine wp_normalK ?_
            refine wp_region_letter (S := fun X => Below w.heap.size w X) (by kernel_rfl) hS0 ?_
            intro v0 hS_v0
            refine wpAnyH_take (i := 0) (v := .string sp) rfl (by kernel_rfl) (by kernel_rfl) (by kernel_rfl) (fun _ _ _ h => no_panic h.1) (yields_of rfl (fun w' hw' => by clear hw'; go_simp)) hS_v0 ?_
            try simp only [List.getElem_toArray, List.getElem_cons_succ, List.getElem_cons_zero, Act.put, List.setIfInBounds_toArray, List.set_cons_succ, List.set_cons_zero]
            refine wpAnyH_take (i := 1) (v := .int .i64 kk) rfl (by kernel_rfl) (by kernel_rfl) (by kernel_rfl) (fun _ _ _ h => no_panic h.1) (yields_of rfl (fun w' hw' => by clear hw'; go_simp)) hS_v0 ?_
            try simp only [List.getElem_toArray, List.getElem_cons_succ, List.getElem_cons_zero, Act.put, List.setIfInBounds_toArray, List.set_cons_succ, List.set_cons_zero]
            refine wpAnyH_take (i := 2) (v := .string q1) rfl (by kernel_rfl) (by kernel_rfl) (by kernel_rfl) (fun _ _ _ h => no_panic h.1) (yields_of rfl (fun w' hw' => by clear hw'; go_simp)) hS_v0 ?_
            try simp only [List.getElem_toArray, List.getElem_cons_succ, List.getElem_cons_zero, Act.put, List.setIfInBounds_toArray, List.set_cons_succ, List.set_cons_zero]
            refine wpAnyH_take (i := 3) (v := .string (q1 ++ ⟨#[0]⟩)) rfl (by kernel_rfl) (by kernel_rfl) (by kernel_rfl) (fun _ _ _ h => no_panic h.1) (yields_of rfl (fun w' hw' => by clear hw'; go_simp)) hS_v0 ?_
            try simp only [List.getElem_toArray, List.getElem_cons_succ, List.getElem_cons_zero, Act.put, List.setIfInBounds_toArray, List.set_cons_succ, List.set_cons_zero]
            refine wpAnyH_take (i := 4) (v := .string sp) rfl (by kernel_rfl) (by kernel_rfl) (by kernel_rfl) (fun _ _ _ h => no_panic h.1) (yields_of rfl (fun w' hw' => by clear hw'; go_simp)) hS_v0 ?_
            try simp only [List.getElem_toArray, List.getElem_cons_succ, List.getElem_cons_zero, Act.put, List.setIfInBounds_toArray, List.set_cons_succ, List.set_cons_zero]
            refine wpAnyH_take (i := 5) (v := .int .i64 kk) rfl (by kernel_rfl) (by kernel_rfl) (by kernel_rfl) (fun _ _ _ h => no_panic h.1) (yields_of rfl (fun w' hw' => by clear hw'; go_simp)) hS_v0 ?_
            try simp only [List.getElem_toArray, List.getElem_cons_succ, List.getElem_cons_zero, Act.put, List.setIfInBounds_toArray, List.set_cons_succ, List.set_cons_zero]
            refine wpAnyH_take (i := 6) (v := .int .i64 ((kk : Int) + 1)) rfl (by kernel_rfl) (by kernel_rfl) (by kernel_rfl) (fun _ _ _ h => no_panic h.1) (yields_of rfl (fun w' hw' => by clear hw'; go_simp)) hS_v0 ?_
            try simp only [List.getElem_toArray, List.getElem_cons_succ, List.getElem_cons_zero, Act.put, List.setIfInBounds_toArray, List.set_cons_succ, List.set_cons_zero]
            refine wpAnyH_take (i := 7) (v := .string q2) rfl (by kernel_rfl) (by kernel_rfl) (by kernel_rfl) (fun _ _ _ h => no_panic h.1) (yields_of rfl (fun w' hw' => by clear hw'; go_simp)) hS_v0 ?_
            try simp only [List.getElem_toArray, List.getElem_cons_succ, List.getElem_cons_zero, Act.put, List.setIfInBounds_toArray, List.set_cons_succ, List.set_cons_zero]
            refine wpAnyH_take (i := 8) (v := .string (q1 ++ ⟨#[0]⟩ ++ q2)) rfl (by kernel_rfl) (by kernel_rfl) (by kernel_rfl) (fun _ _ _ h => no_panic h.1) (yields_of rfl (fun w' hw' => by clear hw'; go_simp)) hS_v0 ?_
            try simp only [List.getElem_toArray, List.getElem_cons_succ, List.getElem_cons_zero, Act.put, List.setIfInBounds_toArray, List.set_cons_succ, List.set_cons_zero]
            refine wpAnyH_ready (rs := [9]) (by kernel_rfl) (by simp) (AllReadyH.cons (i := 9) rfl (fun K hK => ?_) AllReadyH.nil)
            refine step_of rfl ?_
            try simp only [List.getElem_toArray, List.getElem_cons_succ, List.getElem_cons_zero, Act.put, List.setIfInBounds_toArray, List.set_cons_succ, List.set_cons_zero]
            refine wp_callC 28 #[.string (q1 ++ ⟨#[0]⟩ ++ q2)] (by go_simp) ?_
            refine ((hopen5.out v0 hS_v0)).mono ?_
            rintro _ x1 ⟨g4, rfl, hg4, K6, hb_x1⟩
            have hS_x1 := hkS _ _ hS_v0 hb_x1
            refine ⟨_, rfl, hK.out _ _ hS_x1 (fun _ => ?_)⟩
            clear hK K
            try simp only [List.getElem_toArray, List.getElem_cons_succ, List.getElem_cons_zero, Act.put, List.setIfInBounds_toArray, List.set_cons_succ, List.set_cons_zero]
            refine wpAnyH_take (i := 10) (v := .tuple #[.pointer (some ⟨g4, 0, none⟩), .int .i64 0]) rfl (by kernel_rfl) (by kernel_rfl) (by kernel_rfl) (fun _ _ _ h => no_panic h.1) (yields_of rfl (fun w' hw' => by clear hw'; go_simp)) hS_x1 ?_
            try simp only [List.getElem_toArray, List.getElem_cons_succ, List.getElem_cons_zero, Act.put, List.setIfInBounds_toArray, List.set_cons_succ, List.set_cons_zero]
            refine wpAnyH_take (i := 11) (v := .pointer (some ⟨g4, 0, none⟩)) rfl (by kernel_rfl) (by kernel_rfl) (by kernel_rfl) (fun _ _ _ h => no_panic h.1) (yields_of rfl (fun w' hw' => by clear hw'; go_simp)) hS_x1 ?_
            try simp only [List.getElem_toArray, List.getElem_cons_succ, List.getElem_cons_zero, Act.put, List.setIfInBounds_toArray, List.set_cons_succ, List.set_cons_zero]
            refine wpAnyH_take (i := 12) (v := .int .i64 0) rfl (by kernel_rfl) (by kernel_rfl) (by kernel_rfl) (fun _ _ _ h => no_panic h.1) (yields_of rfl (fun w' hw' => by clear hw'; go_simp)) hS_x1 ?_
            try simp only [List.getElem_toArray, List.getElem_cons_succ, List.getElem_cons_zero, Act.put, List.setIfInBounds_toArray, List.set_cons_succ, List.set_cons_zero]
            refine wpAnyH_take (i := 13) (v := .pointer (some ⟨g4, 0, none⟩)) rfl (by kernel_rfl) (by kernel_rfl) (by kernel_rfl) (fun _ _ _ h => no_panic h.1) (yields_of rfl (fun w' hw' => by clear hw'; go_simp)) hS_x1 ?_
            try simp only [List.getElem_toArray, List.getElem_cons_succ, List.getElem_cons_zero, Act.put, List.setIfInBounds_toArray, List.set_cons_succ, List.set_cons_zero]
            refine wpAnyH_take (i := 14) (v := .int .i64 0) rfl (by kernel_rfl) (by kernel_rfl) (by kernel_rfl) (fun _ _ _ h => no_panic h.1) (yields_of rfl (fun w' hw' => by clear hw'; go_simp)) hS_x1 ?_
            try simp only [List.getElem_toArray, List.getElem_cons_succ, List.getElem_cons_zero, Act.put, List.setIfInBounds_toArray, List.set_cons_succ, List.set_cons_zero]
            refine wpAnyH_done (by kernel_rfl) ⟨rfl, ?_⟩ _
            clear hkS hS0 hopen5 hopen4
            have K7 := K6
            clear K6
            go_wp2_with (go_at_call 16; refine (hfr0.out _).mono ?_; rintro _ w13 ⟨rfl, hb13⟩; replace K7 := K7.next hb13; clear hb13)
            go_ret
            exact ⟨rfl, K7.base⟩
          · obtain ⟨j, rfl⟩ : ∃ j, m = j + 1 := ⟨m - 1, by omega⟩
            rw [show ((j + 1 : Nat) : Int) - 1 = (j : Int) by omega]
            have q0 : (0 : Int) ≤ j := by omega
            have q1 : (j : Int) < 4 := by omega
            have hjn : (j : Int).toNat = j := by omega
            obtain ⟨sj, HSJ⟩ : ∃ sj, Hid (sj = [s0, s1, s2, s3].getD j ⟨#[]⟩) := ⟨_, rfl⟩
            have c4 := HH.cell j (by simp; omega)
            rw [← HSJ.out] at c4
            have HBT : Hid (bitsHi ([s0, s1, s2, s3].drop j) = (if sj.size = 0 then 0 else 1) + 2 * bitsHi ([s0, s1, s2, s3].drop (j + 1))) := by
              show _ = _
              rw [HSJ.out]
              rcases (by omega : j = 0 ∨ j = 1 ∨ j = 2 ∨ j = 3) with rfl | rfl | rfl | rfl <;> rfl
            have hbd := bitsHi_bd ([s0, s1, s2, s3].drop (j + 1))
            have hbd2 : (2 : Int) ^ ([s0, s1, s2, s3].drop (j + 1)).length ≤ 8 := by rcases (by omega : j = 0 ∨ j = 1 ∨ j = 2 ∨ j = 3) with rfl | rfl | rfl | rfl <;> simp
            generalize (2 : Int) ^ ([s0, s1, s2, s3].drop (j + 1)).length = pw at hbd hbd2
            generalize bitsHi ([s0, s1, s2, s3].drop (j + 1)) = bq at *
            obtain ⟨bd0, bd1⟩ := hbd
            have bd3 : bq < 8 := by omega
            clear bd1 hbd2
            by_cases hz : sj.size = 0
            · have hze := empty_ba hz
              rw [if_pos hz] at HBT
              clear hz HSJ
              subst hze
              go_wp2
              exact ⟨⟨j, by omega, rfl, by rw [HBT.out]; congr 1; omega, HH⟩, by simp only [intOf]; omega⟩
            · have hze : sj.toList.isEmpty = false := toList_ne_nil (by omega)
              rw [if_neg hz] at HBT
              clear hz
              go_wp2
              exact ⟨⟨j, by omega, rfl, by rw [HBT.out]; congr 1; omega, HH⟩, by simp only [intOf]; omega⟩
      · obtain ⟨s0, s1, s2, s3, rfl⟩ := four_of ss hsl
        have hs0 : s0.size ≤ 20 := hss s0 (by simp)
        have hs1 : s1.size ≤ 20 := hss s1 (by simp)
        have hs2 : s2.size ≤ 20 := hss s2 (by simp)
        have hs3 : s3.size ≤ 20 := hss s3 (by simp)
        obtain ⟨Ko, HKO⟩ : ∃ Ko, Hid (Ko = (⟨1 + (nn : Int), 5, ⟨#[111, 108, 100]⟩, ⟨#[]⟩, ⟨#[]⟩, ⟨#[]⟩, ⟨#[]⟩⟩ : Kep)) := ⟨_, rfl⟩
        obtain ⟨Kn, HKN⟩ : ∃ Kn, Hid (Kn = (⟨1 + (nn : Int) + 1, 1 + (tn : Int), pb, s0, s1, s2, s3⟩ : Kep)) := ⟨_, rfl⟩
        have Go : Ko.good := by rw [HKO.out]; exact ⟨by show (0 : Int) ≤ 1 + nn; omega, by show 1 + (nn : Int) < _; omega, by show (0 : Int) ≤ 5; omega, by show (5 : Int) ≤ 5; omega, by show (⟨#[111, 108, 100]⟩ : ByteArray).size ≤ 8; decide, by show (⟨#[]⟩ : ByteArray).size ≤ 20; decide, by show (⟨#[]⟩ : ByteArray).size ≤ 20; decide, by show (⟨#[]⟩ : ByteArray).size ≤ 20; decide, by show (⟨#[]⟩ : ByteArray).size ≤ 20; decide⟩
        have Gn : Kn.good := by rw [HKN.out]; exact ⟨by show (0 : Int) ≤ 1 + nn + 1; omega, by show 1 + (nn : Int) + 1 < _; omega, by show (0 : Int) ≤ 1 + tn; omega, by show 1 + (tn : Int) ≤ 5; omega, by show pb.size ≤ 8; omega, hs0, hs1, hs2, hs3⟩
        obtain ⟨ob, HOB⟩ : ∃ ob, Hid (ob = str Ko.img) := ⟨_, rfl⟩
        obtain ⟨nb, HNB⟩ : ∃ nb, Hid (nb = str Kn.img) := ⟨_, rfl⟩
        have hoz : ob.size = 100 := by rw [HOB.out]; exact img_size Go
        have hnz : nb.size = 100 := by rw [HNB.out]; exact img_size Gn
        have HRO : Hid (readOk (Bs ob) ∧ readK (Bs ob) = Ko) := by rw [HOB.out]; exact img_ok Go (by rw [HKO.out]; show (1 : Int) ≤ 1 + nn; omega) (by rw [HKO.out]; show 1 ≤ (⟨#[111, 108, 100]⟩ : ByteArray).size; decide)
        have HRN : Hid (readOk (Bs nb) ∧ readK (Bs nb) = Kn) := by rw [HNB.out]; exact img_ok Gn (by rw [HKN.out]; show (1 : Int) ≤ 1 + nn + 1; omega) (by rw [HKN.out]; show 1 ≤ pb.size; omega)
        have himg1 : Hid (∀ W, Calls Tryd.prog 27 #[.int .i64 (1 + (nn : Int)), .int .i64 5, .string ⟨#[111, 108, 100]⟩, .agg (zrow 4 (.string ⟨#[]⟩)).toArray] W fun r w' => r = .returned (.string ob) ∧ Below W.heap.size W w') := fun W => by rw [HOB.out, HKO.out]; exact keep_image _ 5 ⟨#[111, 108, 100]⟩ ⟨#[]⟩ ⟨#[]⟩ ⟨#[]⟩ ⟨#[]⟩ W (by omega) (by omega) (by decide) (by decide) (by decide) (by decide) (by decide)
        have himg2 : Hid (∀ W, Calls Tryd.prog 27 #[.int .i64 (1 + (nn : Int) + 1), .int .i64 (1 + (tn : Int)), .string pb, .agg (strs [s0, s1, s2, s3]).toArray] W fun r w' => r = .returned (.string nb) ∧ Below W.heap.size W w') := fun W => by rw [HNB.out, HKN.out]; exact keep_image _ _ pb s0 s1 s2 s3 W (by omega) (by omega) (by omega) hs0 hs1 hs2 hs3
        have t1 : Hid True := trivial
        go_wp2_with (first | (go_at_call 20; first | (have tk := t1; clear tk t1; refine (hpickN.out _).mono ?_; rintro _ wk ⟨rfl, ek⟩; rw [ek]; clear ek wk) | (refine (hpickT.out _).mono ?_; rintro _ wk ⟨rfl, ek⟩; rw [ek]; clear ek wk)) | (refine wpList_buildZ rfl 45 rfl 4 (.string ⟨#[]⟩) arr4s (fun e he => by obtain rfl := (TypeDesc.array.inj (Option.some.inj (under4s.symm.trans he))).2; kernel_rfl) ?_; go_simp) | (go_at_call 27; refine (himg1.out _).mono ?_; rintro _ w5 ⟨rfl, hb5⟩; replace HT := HT.next hb5; clear hb5))
        have wn1 := wrap_id (1 + (nn : Int) + 1) (by omega) (by omega)
        have hkS : ∀ X X' : World, TabAt w X w1.heap.size [s0, s1, s2, s3] → Below X.heap.size X X' → TabAt w X' w1.heap.size [s0, s1, s2, s3] := fun X X' h hb => h.next hb
        have hS0 : TabAt w w5.drew w1.heap.size [s0, s1, s2, s3] := HT.next ((Below.refl _ _).drew)
        refine wp_normalK ?_
        refine wp_region_letter (S := fun X => TabAt w X w1.heap.size [s0, s1, s2, s3]) (by kernel_rfl) hS0 ?_
        intro w0 hS_w0
        refine wpAnyH_take (i := 0) (v := .int .i64 (1 + (nn : Int))) rfl (by kernel_rfl) (by kernel_rfl) (by kernel_rfl) (fun _ _ _ h => no_panic h.1) (yields_of rfl (fun w' hw' => by clear hw'; go_simp)) hS_w0 ?_
        try simp only [List.getElem_toArray, List.getElem_cons_succ, List.getElem_cons_zero, Act.put, List.setIfInBounds_toArray, List.set_cons_succ, List.set_cons_zero]
        refine wpAnyH_take (i := 1) (v := .int .i64 (1 + (nn : Int) + 1)) rfl (by kernel_rfl) (by kernel_rfl) (by kernel_rfl) (fun _ _ _ h => no_panic h.1) (yields_of rfl (fun w' hw' => by clear hw'; go_simp)) hS_w0 ?_
        try simp only [List.getElem_toArray, List.getElem_cons_succ, List.getElem_cons_zero, Act.put, List.setIfInBounds_toArray, List.set_cons_succ, List.set_cons_zero]
        refine wpAnyH_take (i := 2) (v := .int .i64 (1 + (tn : Int))) rfl (by kernel_rfl) (by kernel_rfl) (by kernel_rfl) (fun _ _ _ h => no_panic h.1) (yields_of rfl (fun w' hw' => by clear hw'; go_simp)) hS_w0 ?_
        try simp only [List.getElem_toArray, List.getElem_cons_succ, List.getElem_cons_zero, Act.put, List.setIfInBounds_toArray, List.set_cons_succ, List.set_cons_zero]
        refine wpAnyH_take (i := 3) (v := .int .i64 c) rfl (by kernel_rfl) (by kernel_rfl) (by kernel_rfl) (fun _ _ _ h => no_panic h.1) (yields_of rfl (fun w' hw' => by clear hw'; go_simp)) hS_w0 ?_
        try simp only [List.getElem_toArray, List.getElem_cons_succ, List.getElem_cons_zero, Act.put, List.setIfInBounds_toArray, List.set_cons_succ, List.set_cons_zero]
        refine wpAnyH_take (i := 5) (v := .agg (strs [s0, s1, s2, s3]).toArray) rfl (by kernel_rfl) (by kernel_rfl) (by kernel_rfl) (fun _ _ _ h => no_panic h.1) (yields_loadK rfl 45 _ rfl w1.heap.size 0 rfl (strs [s0, s1, s2, s3]) _ (fun _ h => h.row.range) under4s rfl arr4s.size) hS_w0 ?_
        try simp only [List.getElem_toArray, List.getElem_cons_succ, List.getElem_cons_zero, Act.put, List.setIfInBounds_toArray, List.set_cons_succ, List.set_cons_zero]
        refine wpAnyH_ready (rs := [4]) (by kernel_rfl) (by simp) (AllReadyH.cons (i := 4) rfl (fun K hK => ?_) AllReadyH.nil)
        refine step_of rfl ?_
        try simp only [List.getElem_toArray, List.getElem_cons_succ, List.getElem_cons_zero, Act.put, List.setIfInBounds_toArray, List.set_cons_succ, List.set_cons_zero]
        refine wp_callC 17 #[.int .i64 c] (by go_simp) ?_
        refine (hpin.out w0).mono ?_
        rintro _ x1 ⟨rfl, hb_x1⟩
        have hS_x1 := hkS _ _ hS_w0 hb_x1
        refine ⟨_, rfl, hK.out _ _ hS_x1 (fun _ => ?_)⟩
        clear hK K
        try simp only [List.getElem_toArray, List.getElem_cons_succ, List.getElem_cons_zero, Act.put, List.setIfInBounds_toArray, List.set_cons_succ, List.set_cons_zero]
        refine wpAnyH_ready (rs := [6]) (by kernel_rfl) (by simp) (AllReadyH.cons (i := 6) rfl (fun K hK => ?_) AllReadyH.nil)
        refine step_of rfl ?_
        try simp only [List.getElem_toArray, List.getElem_cons_succ, List.getElem_cons_zero, Act.put, List.setIfInBounds_toArray, List.set_cons_succ, List.set_cons_zero]
        refine wp_callC 27 #[.int .i64 (1 + (nn : Int) + 1), .int .i64 (1 + (tn : Int)), .string pb, .agg (strs [s0, s1, s2, s3]).toArray] (by go_simp) ?_
        refine (himg2.out x1).mono ?_
        rintro _ x2 ⟨rfl, hb_x2⟩
        have hS_x2 := hkS _ _ hS_x1 hb_x2
        refine ⟨_, rfl, hK.out _ _ hS_x2 (fun _ => ?_)⟩
        clear hK K
        try simp only [List.getElem_toArray, List.getElem_cons_succ, List.getElem_cons_zero, Act.put, List.setIfInBounds_toArray, List.set_cons_succ, List.set_cons_zero]
        refine wpAnyH_take (i := 7) (v := .string nb) rfl (by kernel_rfl) (by kernel_rfl) (by kernel_rfl) (fun _ _ _ h => no_panic h.1) (yields_of rfl (fun w' hw' => by clear hw'; go_simp)) hS_x2 ?_
        try simp only [List.getElem_toArray, List.getElem_cons_succ, List.getElem_cons_zero, Act.put, List.setIfInBounds_toArray, List.set_cons_succ, List.set_cons_zero]
        refine wpAnyH_done (by kernel_rfl) ⟨rfl, ?_⟩ _
        clear hkS hS0 HT
        have HT := hS_x2
        have hcz0 : 100 + 100 ≤ 9223372036854775807 := by omega
        obtain ⟨fb, HFB⟩ : ∃ fb, Hid (fb = ob ++ nb) := ⟨_, rfl⟩
        have hfb : ob ++ nb = fb := HFB.out.symm
        have hfz : fb.size = 200 := by rw [HFB.out, ByteArray.size_append]; omega
        have HE1 : Hid ((Dv.of 0 ob nb).bootC = ({ (Dv.of 0 ob nb).base with off := false, k := Kn, wh := 1 }, 0)) := open_second HRN.out.1 HRN.out.2 (.inr (by rw [HRO.out.2, HKO.out, HKN.out]; show 1 + (nn : Int) < 1 + nn + 1; omega))
        obtain ⟨E1, HEE⟩ : ∃ E1, Hid (E1 = ({ (Dv.of 0 ob nb).base with off := false, k := Kn, wh := 1 } : Dv)) := ⟨_, rfl⟩
        have U1 : Up E1 := by rw [HEE.out]; exact ⟨rfl, rfl, by show (-1 : Int) < 0; omega⟩
        have HK1 : Hid (E1.k = Kn) := by show _ = _; rw [HEE.out]
        have HU1 : Hid (E1.unl = false) := by show _ = _; rw [HEE.out]; rfl
        have HF1 : Hid (E1.h0 ++ E1.h1 = fb) := by show _ = _; rw [HEE.out, HFB.out]; rfl
        have hopen1 : Hid (∀ W, Below w.heap.size w W → Calls Tryd.prog 28 #[.string fb] W fun r w' => ∃ g, r = .returned (.tuple #[.pointer (some ⟨g, 0, none⟩), .int .i64 0]) ∧ W.heap.size ≤ g ∧ KdAt w w' g E1 ∧ Below W.heap.size W w') := fun W hb => by rw [HEE.out]; exact keep_Open w W fb ob nb HFB.out hoz hnz _ HE1.out hb
        go_wp2_with (go_at_call 28; refine (hopen1.out _ HT.base).mono ?_; rintro _ w6 ⟨g1, rfl, hg1, K1, hb6⟩; have HH : HoldAt w w6 g1 E1 w1.heap.size [s0, s1, s2, s3] := ⟨K1, HT.row.below hb6 HT.row.lt, HT.low, by have := HT.row.lt; omega⟩; clear HT K1 hb6 hg1 hopen1)
        have htl : ∀ W, KdAt w W g1 E1 → Calls Tryd.prog 23 #[.pointer (some ⟨g1, 0, none⟩)] W fun r w' => r = .returned (.tuple #[.int .i64 0, .int .i64 (1 + (tn : Int)), .int .i64 (bitsHi [s0, s1, s2, s3]), .bool true]) ∧ KdAt w w' g1 E1 ∧ W.grownBy w' (some g1) := fun W K => by
          have := keep_tells G K U1.off U1.inn
          rw [HU1.out, HK1.out, if_neg (by decide), HKN.out, ← bitsHi_all] at this
          exact this
        have HTL : Hid _ := htl
        clear htl
        obtain ⟨bh, HBH⟩ : ∃ bh, Hid (bh = bitsHi [s0, s1, s2, s3]) := ⟨_, rfl⟩
        rw [← HBH.out] at HTL
        go_wp2_with (go_at_call 23; refine (HTL.out _ HH.kd).mono ?_; rintro _ w7 ⟨rfl, K7, hg7⟩; replace HH := HH.feed K7 hg7; clear K7 hg7)
        clear HTL
        go_loopw [29, 30] (fun bv iv wr => ∃ m : Nat, m ≤ 4 ∧ iv = .int .i64 ((m : Int) - 1) ∧ bv = .int .i64 (bitsHi ([s0, s1, s2, s3].drop m)) ∧ HoldAt w wr g1 E1 w1.heap.size [s0, s1, s2, s3]) (fun _ iv _ => ((intOf iv) + 1).toNat)
        case atStart => exact ⟨4, by omega, rfl, rfl, HH⟩
        case round =>
          clear HH
          obtain ⟨m, hm4, rfl, rfl, HH⟩ := hrel
          by_cases hm0 : m = 0
          · subst hm0
            rw [List.drop_zero, ← HBH.out, show ((0 : Nat) : Int) - 1 = -1 from rfl]
            have q9 : ¬ (0 : Int) ≤ -1 := by omega
            obtain ⟨a0, HA0⟩ : ∃ a0, Hid (a0 = str (told 0 [])) := ⟨_, rfl⟩
            obtain ⟨f1, HF1p⟩ : ∃ f1, Hid (f1 = str (told 1 (pinL c))) := ⟨_, rfl⟩
            have hfl : Hid (∀ W, KdAt w W g1 E1 → Calls Tryd.prog 21 #[.pointer (some ⟨g1, 0, none⟩)] W fun r w' => r = .returned (.string fb) ∧ KdAt w w' g1 E1 ∧ Below W.heap.size W w') := fun W K => by rw [← HF1.out]; exact keep_Flash K
            obtain ⟨e1, hfd1, U2, hu2, hk2⟩ := fed_right U1 (pinL c) (by rw [HK1.out, HKN.out]; exact HPB.out) lc1 lc2 (by rw [HK1.out, HKN.out]; show ¬ (1 + (tn : Int) = 0); omega) (by rw [HK1.out, HKN.out]; show (1 + (nn : Int) + 1) + 2 < _; omega)
            have hgood := HH.kd.fed (told 1 (pinL c))
            rw [hfd1] at hgood
            obtain ⟨so1, st1, -⟩ := hgood
            obtain ⟨E2, hE2, hk3, U3, hu3⟩ := open_stands st1
            have hfr1 : Hid (∀ W, Calls Tryd.prog 16 #[.int .i64 1, .string pb] W fun r w' => r = .returned (.string f1) ∧ Below W.heap.size W w') := fun W => frame_is 1 pb (pinL c) (by rw [HPB.out]; exact str_list _) W (by omega) (by omega) (by omega) f1 HF1p.out
            have hfr0 : Hid (∀ W, Calls Tryd.prog 16 #[.int .i64 0, .string ⟨#[]⟩] W fun r w' => r = .returned (.string a0) ∧ Below W.heap.size W w') := fun W => frame_is 0 _ [] rfl W (by omega) (by omega) (by decide) a0 HA0.out
            have hfeed1 : Hid (∀ W, KdAt w W g1 E1 → Calls Tryd.prog 19 #[.pointer (some ⟨g1, 0, none⟩), .string f1] W fun r w' => r = .returned (.string a0) ∧ KdAt w w' g1 e1 ∧ W.grownBy w' (some g1)) := fun W K => by rw [HA0.out]; exact keep_fed G K hfd1 (by rw [told_len]; omega) _ HF1p.out
            obtain ⟨f2, HF2⟩ : ∃ f2, Hid (f2 = e1.h0 ++ e1.h1) := ⟨_, rfl⟩
            have hfl2 : Hid (∀ W, KdAt w W g1 e1 → Calls Tryd.prog 21 #[.pointer (some ⟨g1, 0, none⟩)] W fun r w' => r = .returned (.string f2) ∧ KdAt w w' g1 e1 ∧ Below W.heap.size W w') := fun W K => by rw [HF2.out]; exact keep_Flash K
            have hopen2 : Hid (∀ W, Below w.heap.size w W → Calls Tryd.prog 28 #[.string f2] W fun r w' => ∃ g, r = .returned (.tuple #[.pointer (some ⟨g, 0, none⟩), .int .i64 0]) ∧ W.heap.size ≤ g ∧ KdAt w w' g E2 ∧ Below W.heap.size W w') := fun W hb => keep_Open w W f2 e1.h0 e1.h1 HF2.out so1.s0 so1.s1 _ hE2 hb
            have htl : ∀ W g, KdAt w W g E2 → Calls Tryd.prog 23 #[.pointer (some ⟨g, 0, none⟩)] W fun r w' => r = .returned (.tuple #[.int .i64 0, .int .i64 5, .int .i64 bh, .bool true]) ∧ KdAt w w' g E2 ∧ W.grownBy w' (some g) := fun W g K => by
              have := keep_tells G K U3.off U3.inn
              rw [hu3, hk3, if_neg (by decide), bits_keys e1.k Kn (by rw [hk2, HK1.out]) (by rw [hk2, HK1.out]) (by rw [hk2, HK1.out]) (by rw [hk2, HK1.out]), hk2] at this
              rw [show Kn.bits 4 = bh by rw [HBH.out, HKN.out, bitsHi_all]] at this
              exact this
            have HTL : Hid _ := htl
            clear htl hfd1 U1 U2 U3 hu2 hu3 hk2 hk3 st1 so1 hE2
            have t2 : Hid True := trivial
            have t3 : Hid True := trivial
            have t4 : Hid True := trivial
            go_wp2_with (first | (go_at_call 21; first | (have tk := t2; clear tk t2; refine (hfl.out _ HH.kd).mono ?_; rintro _ w8 ⟨rfl, K8, hb8⟩; replace HH := HH.next hb8; clear K8 hb8) | (refine (hfl2.out _ HH.kd).mono ?_; rintro _ w9 ⟨rfl, K9, hb9⟩; replace HH := HH.next hb9; clear K9 hb9)) | (go_at_call 17; refine (hpin.out _).mono ?_; rintro _ wp ⟨rfl, hbp⟩; replace HH := HH.next hbp; clear hbp) | (go_at_call 16; first | (have tk := t3; clear tk t3; refine (hfr1.out _).mono ?_; rintro _ wf ⟨rfl, hbf⟩; replace HH := HH.next hbf; clear hbf) | (refine (hfr0.out _).mono ?_; rintro _ wf ⟨rfl, hbf⟩; replace HH := HH.next hbf; clear hbf)) | (go_at_call 19; refine (hfeed1.out _ HH.kd).mono ?_; rintro _ wd ⟨rfl, Kd, hgd⟩; replace HH := HH.feed Kd hgd; clear Kd hgd) | (go_at_call 28; refine (hopen2.out _ HH.kd.base).mono ?_; rintro _ wo ⟨g2, rfl, hg2, K2, hb2⟩; clear HH hg2 hb2) | (go_at_call 23; refine (HTL.out _ _ K2).mono ?_; rintro _ wt ⟨rfl, K3, hg3⟩; clear K2 hg3) | (go_at_call 20; refine (hpickA.out _).mono ?_; rintro _ wk ⟨rfl, ek⟩; rw [ek]; clear ek wk))
            clear hfl hfl2 hpin hfr1 hfeed1 hopen2 HTL hpickA
            obtain ⟨kk, HKK⟩ : ∃ kk : Nat, Hid (kk = (an + 100)) := ⟨_, rfl⟩
            have hkk0 : (an : Int) + 100 = kk := by rw [HKK.out]; omega
            rw [hkk0]
            have hkk2 : kk < 200 := by rw [HKK.out]; omega
            have k0 : (0 : Int) ≤ kk := by omega
            have k1 : (kk : Int) < 200 := by omega
            have k2 : (kk : Int) ≤ 200 := by omega
            have k3 : (kk : Int) + 1 ≤ 200 := by omega
            have k4 : (0 : Int) ≤ (kk : Int) + 1 := by omega
            have k5 : (kk : Int).toNat = kk := by omega
            have k6 : ((kk : Int) + 1).toNat = kk + 1 := by omega
            have k7 : (kk : Int) < fb.size := by omega
            have k8 : (kk : Int) ≤ fb.size := by omega
            have k9 : (kk : Int) + 1 ≤ fb.size := by omega
            clear hkk0
            have hyb := byte_at (s := fb) (i := kk) (by omega)
            have hyd := getD_isB (bytesI_B fb.data.toList) kk
            obtain ⟨y, HY⟩ : ∃ y, Hid (y = (bytesI fb.data.toList).getD kk 0) := ⟨_, rfl⟩
            rw [← HY.out] at hyb hyd
            obtain ⟨y0, y1⟩ := hyd
            obtain ⟨xa0, xa1, xa2⟩ := xr_ne y (1 + (bn : Int)) ⟨y0, y1⟩ ⟨by omega, by omega⟩
            have hxo : bits .xor .u8 y (1 + (bn : Int)) = xr y (1 + (bn : Int)) := u8_xor _ _ y0 y1 (by omega) (by omega)
            obtain ⟨xo, HXO⟩ : ∃ xo, Hid (xo = xr y (1 + (bn : Int))) := ⟨_, rfl⟩
            rw [← HXO.out] at hxo xa0 xa1 xa2
            have hb8 : (1 + (bn : Int)) % 256 = 1 + bn := by omega
            have wn2 := wrap_id ((kk : Int) + 1) (by omega) (by omega)
            have wn3 := wrap_id (1 + (bn : Int)) (by omega) (by omega)
            obtain ⟨p1, HP1⟩ : ∃ p1, Hid (p1 = fb.extract 0 kk) := ⟨_, rfl⟩
            obtain ⟨p2, HP2⟩ : ∃ p2, Hid (p2 = fb.extract (kk + 1) fb.size) := ⟨_, rfl⟩
            have hp1 : fb.extract 0 kk = p1 := HP1.out.symm
            have hp2 : fb.extract (kk + 1) fb.size = p2 := HP2.out.symm
            have hp2' : fb.extract (kk + 1) 200 = p2 := by rw [HP2.out, hfz]
            have zp1 : p1.size = kk := by rw [HP1.out, ByteArray.size_extract]; omega
            have zp2 : p2.size = 199 - kk := by rw [HP2.out, ByteArray.size_extract]; omega
            have HZ1 : Hid (p1.size = kk) := zp1
            have HZ2 : Hid (p2.size = 199 - kk) := zp2
            have zq1 : p1.size + 1 ≤ 9223372036854775807 := by omega
            have zq2 : p1.size + 1 + p2.size ≤ 9223372036854775807 := by omega
            clear zp1 zp2
            obtain ⟨sp, HSP⟩ : ∃ sp, Hid (sp = p1 ++ strOfNums [xo] ++ p2) := ⟨_, rfl⟩
            have B3 : Below w.heap.size w wt := K3.base
            have hkS : ∀ X X' : World, Below w.heap.size w X → Below X.heap.size X X' → Below w.heap.size w X' := fun X X' h hb => h.trans (hb.mono h.size)
            have hS0 : Below w.heap.size w wt.drew := B3.drew
            refine wp_normalK ?_
            refine wp_region_letter (S := fun X => Below w.heap.size w X) (by kernel_rfl) hS0 ?_
            intro w0 hS_w0
            refine wpAnyH_take (i := 0) (v := .string fb) rfl (by kernel_rfl) (by kernel_rfl) (by kernel_rfl) (fun _ _ _ h => no_panic h.1) (yields_of rfl (fun w' hw' => by clear hw'; go_simp)) hS_w0 ?_
            try simp only [List.getElem_toArray, List.getElem_cons_succ, List.getElem_cons_zero, Act.put, List.setIfInBounds_toArray, List.set_cons_succ, List.set_cons_zero]
            refine wpAnyH_take (i := 1) (v := .int .i64 kk) rfl (by kernel_rfl) (by kernel_rfl) (by kernel_rfl) (fun _ _ _ h => no_panic h.1) (yields_of rfl (fun w' hw' => by clear hw'; go_simp)) hS_w0 ?_
            try simp only [List.getElem_toArray, List.getElem_cons_succ, List.getElem_cons_zero, Act.put, List.setIfInBounds_toArray, List.set_cons_succ, List.set_cons_zero]
            refine wpAnyH_take (i := 2) (v := .string p1) rfl (by kernel_rfl) (by kernel_rfl) (by kernel_rfl) (fun _ _ _ h => no_panic h.1) (yields_of rfl (fun w' hw' => by clear hw'; go_simp)) hS_w0 ?_
            try simp only [List.getElem_toArray, List.getElem_cons_succ, List.getElem_cons_zero, Act.put, List.setIfInBounds_toArray, List.set_cons_succ, List.set_cons_zero]
            refine wpAnyH_take (i := 3) (v := .string fb) rfl (by kernel_rfl) (by kernel_rfl) (by kernel_rfl) (fun _ _ _ h => no_panic h.1) (yields_of rfl (fun w' hw' => by clear hw'; go_simp)) hS_w0 ?_
            try simp only [List.getElem_toArray, List.getElem_cons_succ, List.getElem_cons_zero, Act.put, List.setIfInBounds_toArray, List.set_cons_succ, List.set_cons_zero]
            refine wpAnyH_take (i := 4) (v := .int .i64 kk) rfl (by kernel_rfl) (by kernel_rfl) (by kernel_rfl) (fun _ _ _ h => no_panic h.1) (yields_of rfl (fun w' hw' => by clear hw'; go_simp)) hS_w0 ?_
            try simp only [List.getElem_toArray, List.getElem_cons_succ, List.getElem_cons_zero, Act.put, List.setIfInBounds_toArray, List.set_cons_succ, List.set_cons_zero]
            refine wpAnyH_take (i := 5) (v := .int .u8 y) rfl (by kernel_rfl) (by kernel_rfl) (by kernel_rfl) (fun _ _ _ h => no_panic h.1) (yields_of rfl (fun w' hw' => by clear hw'; go_simp)) hS_w0 ?_
            try simp only [List.getElem_toArray, List.getElem_cons_succ, List.getElem_cons_zero, Act.put, List.setIfInBounds_toArray, List.set_cons_succ, List.set_cons_zero]
            refine wpAnyH_take (i := 6) (v := .int .i64 bq0) rfl (by kernel_rfl) (by kernel_rfl) (by kernel_rfl) (fun _ _ _ h => no_panic h.1) (yields_of rfl (fun w' hw' => by clear hw'; go_simp)) hS_w0 ?_
            try simp only [List.getElem_toArray, List.getElem_cons_succ, List.getElem_cons_zero, Act.put, List.setIfInBounds_toArray, List.set_cons_succ, List.set_cons_zero]
            refine wpAnyH_take (i := 14) (v := .string fb) rfl (by kernel_rfl) (by kernel_rfl) (by kernel_rfl) (fun _ _ _ h => no_panic h.1) (yields_of rfl (fun w' hw' => by clear hw'; go_simp)) hS_w0 ?_
            try simp only [List.getElem_toArray, List.getElem_cons_succ, List.getElem_cons_zero, Act.put, List.setIfInBounds_toArray, List.set_cons_succ, List.set_cons_zero]
            refine wpAnyH_take (i := 15) (v := .int .i64 kk) rfl (by kernel_rfl) (by kernel_rfl) (by kernel_rfl) (fun _ _ _ h => no_panic h.1) (yields_of rfl (fun w' hw' => by clear hw'; go_simp)) hS_w0 ?_
            try simp only [List.getElem_toArray, List.getElem_cons_succ, List.getElem_cons_zero, Act.put, List.setIfInBounds_toArray, List.set_cons_succ, List.set_cons_zero]
            refine wpAnyH_take (i := 16) (v := .int .i64 ((kk : Int) + 1)) rfl (by kernel_rfl) (by kernel_rfl) (by kernel_rfl) (fun _ _ _ h => no_panic h.1) (yields_of rfl (fun w' hw' => by clear hw'; go_simp)) hS_w0 ?_
            try simp only [List.getElem_toArray, List.getElem_cons_succ, List.getElem_cons_zero, Act.put, List.setIfInBounds_toArray, List.set_cons_succ, List.set_cons_zero]
            refine wpAnyH_take (i := 17) (v := .string p2) rfl (by kernel_rfl) (by kernel_rfl) (by kernel_rfl) (fun _ _ _ h => no_panic h.1) (yields_of rfl (fun w' hw' => by clear hw'; go_simp)) hS_w0 ?_
            try simp only [List.getElem_toArray, List.getElem_cons_succ, List.getElem_cons_zero, Act.put, List.setIfInBounds_toArray, List.set_cons_succ, List.set_cons_zero]
            refine wpAnyH_ready (rs := [7]) (by kernel_rfl) (by simp) (AllReadyH.cons (i := 7) rfl (fun K hK => ?_) AllReadyH.nil)
            refine step_of rfl ?_
            try simp only [List.getElem_toArray, List.getElem_cons_succ, List.getElem_cons_zero, Act.put, List.setIfInBounds_toArray, List.set_cons_succ, List.set_cons_zero]
            refine wp_callC 20 #[.int .i64 bq0, .int .i64 255] (by go_simp) ?_
            refine (hpickB.out w0).mono ?_
            rintro _ w9 ⟨rfl, e9⟩
            rw [e9]
            clear e9 w9
            refine ⟨_, rfl, hK.out _ _ hS_w0 (fun _ => ?_)⟩
            clear hK K
            try simp only [List.getElem_toArray, List.getElem_cons_succ, List.getElem_cons_zero, Act.put, List.setIfInBounds_toArray, List.set_cons_succ, List.set_cons_zero]
            refine wpAnyH_take (i := 8) (v := .int .i64 (1 + (bn : Int))) rfl (by kernel_rfl) (by kernel_rfl) (by kernel_rfl) (fun _ _ _ h => no_panic h.1) (yields_of rfl (fun w' hw' => by clear hw'; go_simp)) hS_w0 ?_
            try simp only [List.getElem_toArray, List.getElem_cons_succ, List.getElem_cons_zero, Act.put, List.setIfInBounds_toArray, List.set_cons_succ, List.set_cons_zero]
            refine wpAnyH_take (i := 9) (v := .int .u8 (1 + (bn : Int))) rfl (by kernel_rfl) (by kernel_rfl) (by kernel_rfl) (fun _ _ _ h => no_panic h.1) (yields_of rfl (fun w' hw' => by clear hw'; go_simp)) hS_w0 ?_
            try simp only [List.getElem_toArray, List.getElem_cons_succ, List.getElem_cons_zero, Act.put, List.setIfInBounds_toArray, List.set_cons_succ, List.set_cons_zero]
            refine wpAnyH_take (i := 10) (v := .int .u8 xo) rfl (by kernel_rfl) (by kernel_rfl) (by kernel_rfl) (fun _ _ _ h => no_panic h.1) (yields_of rfl (fun w' hw' => by clear hw'; go_simp)) hS_w0 ?_
            try simp only [List.getElem_toArray, List.getElem_cons_succ, List.getElem_cons_zero, Act.put, List.setIfInBounds_toArray, List.set_cons_succ, List.set_cons_zero]
            refine wpAnyH_ready (rs := [11]) (by kernel_rfl) (by simp) (AllReadyH.cons (i := 11) rfl (fun K hK => ?_) AllReadyH.nil)
            have hS_x1 := hkS _ _ hS_w0 (below_built w0 (.cells #[.int .u8 xo] 5))
            have r11_x1 := row_built w0 xo
            refine step_of rfl (wp_val (v := .slice (some ⟨w0.heap.size, 0, none⟩) 1 1) (w' := w0.alloc (.cells #[.int .u8 xo] 5)) (by go_simp) (hK.out _ _ hS_x1 (fun _ => ?_)))
            clear hK K
            try simp only [List.getElem_toArray, List.getElem_cons_succ, List.getElem_cons_zero, Act.put, List.setIfInBounds_toArray, List.set_cons_succ, List.set_cons_zero]
            generalize w0.alloc (.cells #[.int .u8 xo] 5) = x1 at *
            refine wpAnyH_ready (rs := [12]) (by kernel_rfl) (by simp) (AllReadyH.cons (i := 12) rfl (fun K hK => ?_) AllReadyH.nil)
            have hcv := run_convR x1 (w0.heap.size) [xo] 1 1 rfl r11_x1.range
            refine step_of rfl (wp_val (v := .string (strOfNums [xo])) (w' := x1) (by go_simp) (hK.out _ _ hS_x1 (fun _ => ?_)))
            clear hK K hcv
            try simp only [List.getElem_toArray, List.getElem_cons_succ, List.getElem_cons_zero, Act.put, List.setIfInBounds_toArray, List.set_cons_succ, List.set_cons_zero]
            refine wpAnyH_take (i := 13) (v := .string (p1 ++ strOfNums [xo])) rfl (by kernel_rfl) (by kernel_rfl) (by kernel_rfl) (fun _ _ _ h => no_panic h.1) (yields_of rfl (fun w' hw' => by clear hw'; go_simp)) hS_x1 ?_
            try simp only [List.getElem_toArray, List.getElem_cons_succ, List.getElem_cons_zero, Act.put, List.setIfInBounds_toArray, List.set_cons_succ, List.set_cons_zero]
            refine wpAnyH_take (i := 18) (v := .string (p1 ++ strOfNums [xo] ++ p2)) rfl (by kernel_rfl) (by kernel_rfl) (by kernel_rfl) (fun _ _ _ h => no_panic h.1) (yields_of rfl (fun w' hw' => by clear hw'; go_simp)) hS_x1 ?_
            try simp only [List.getElem_toArray, List.getElem_cons_succ, List.getElem_cons_zero, Act.put, List.setIfInBounds_toArray, List.set_cons_succ, List.set_cons_zero]
            refine wpAnyH_take (i := 19) (v := .string (p1 ++ strOfNums [xo] ++ p2)) rfl (by kernel_rfl) (by kernel_rfl) (by kernel_rfl) (fun _ _ _ h => no_panic h.1) (yields_of rfl (fun w' hw' => by clear hw'; go_simp)) hS_x1 ?_
            try simp only [List.getElem_toArray, List.getElem_cons_succ, List.getElem_cons_zero, Act.put, List.setIfInBounds_toArray, List.set_cons_succ, List.set_cons_zero]
            refine wpAnyH_done (by kernel_rfl) ⟨rfl, ?_⟩ _
            rw [← HSP.out]
            have B4 : Below w.heap.size w x1 := hS_x1
            clear hkS hS0 hxo hyb hb8 hp1 hp2 hp2' zq1 zq2 k7 k8 k9
            have HFL : Hid (fb.data.toList.length = 200) := by show _ = _; rw [Array.length_toList]; exact hfz
            have HSL : Hid (sp = str (fb.data.toList.set kk (UInt8.ofNat xo.toNat))) := by
              show _ = _
              rw [HSP.out, HP1.out, HP2.out, ← list_str fb, str_take, str_drop, strOfNums_str, str_append, str_append, str_list]
              exact congrArg str (set_parts _ _ _ (by rw [HFL.out]; exact hkk2))
            have hsz : sp.size = 200 := by rw [HSL.out, str_size, List.length_set, HFL.out]
            have hkh : 100 ≤ kk := by rw [HKK.out]; omega
            obtain ⟨kj, HKJ⟩ : ∃ kj, Hid (kj = kk - 100) := ⟨_, rfl⟩
            have hkj : kj < 100 := by rw [HKJ.out]; omega
            have hkj2 : kk = 100 + kj := by rw [HKJ.out]; omega
            have HNW : Hid (¬ readOk (Bs (str (nb.data.toList.set kj (UInt8.ofNat xo.toNat))))) := by
              have e : Bs (str (nb.data.toList.set kj (UInt8.ofNat xo.toNat))) = (Bs nb).set kj (UInt8.ofNat xo.toNat) := str_list _
              have hl : (Bs nb).length = 100 := by rw [Bs_len]; exact hnz
              rw [e]
              refine turned_wrong hl HRN.out.1 kj hkj _ ((Bs nb)[kj]'(by omega)) (List.getElem?_eq_getElem _) ?_
              intro hh
              apply xa2
              have h1 : y = (((Bs nb)[kj]'(by omega)).toNat : Int) := by
                rw [HY.out, HFB.out, ByteArray.data_append, Array.toList_append]
                have : (bytesI (ob.data.toList ++ nb.data.toList)).getD kk 0 = (bytesI nb.data.toList).getD kj 0 := by
                  have lo : (bytesI ob.data.toList).length = 100 := by rw [bytesI_length, Array.length_toList]; exact hoz
                  rw [bytesI_append, List.getD_eq_getElem?_getD, List.getElem?_append_right (by omega), lo, List.getD_eq_getElem?_getD, show kk - 100 = kj by omega]
                rw [this]
                exact bAt_get (Bs nb) kj (by omega)
              rw [h1, ← hh, UInt8.toNat_ofNat']
              omega
            obtain ⟨nw, HNW2⟩ : ∃ nw, Hid (nw = str (nb.data.toList.set kj (UInt8.ofNat xo.toNat))) := ⟨_, rfl⟩
            rw [← HNW2.out] at HNW
            have hwz : nw.size = 100 := by rw [HNW2.out, str_size, List.length_set, Array.length_toList]; exact hnz
            have HSA : Hid (sp = ob ++ nw) := by
              show _ = _
              have lo : ob.data.toList.length = 100 := by rw [Array.length_toList]; exact hoz
              rw [HSL.out, HNW2.out, HFB.out, ByteArray.data_append, Array.toList_append, List.set_append_right _ _ (by omega), lo, show kk - 100 = kj by omega, ← str_append, list_str]
            have HE3 : Hid ((Dv.of 0 ob nw).bootC = ({ (Dv.of 0 ob nw).base with off := false, k := Ko, wh := 0 }, 0)) := open_first HRO.out.1 HRO.out.2 (.inl HNW.out)
            obtain ⟨E3, HE3E⟩ : ∃ E3, Hid (E3 = ({ (Dv.of 0 ob nw).base with off := false, k := Ko, wh := 0 } : Dv)) := ⟨_, rfl⟩
            have U3 : Up E3 := by rw [HE3E.out]; exact ⟨rfl, rfl, by show (-1 : Int) < 0; omega⟩
            have hk3 : E3.k = Ko := by rw [HE3E.out]
            have hopen3 : Hid (∀ W, Below w.heap.size w W → Calls Tryd.prog 28 #[.string sp] W fun r w' => ∃ g, r = .returned (.tuple #[.pointer (some ⟨g, 0, none⟩), .int .i64 0]) ∧ W.heap.size ≤ g ∧ KdAt w w' g E3 ∧ Below W.heap.size W w') := fun W hb => by rw [HE3E.out]; exact keep_Open w W sp ob nw HSA.out hoz hwz _ HE3.out hb
            obtain ⟨e3, hfd3, -, -, -⟩ := fed_right U3 [111, 108, 100] (by rw [hk3, HKO.out]; rfl) (by decide) (by decide) (by rw [hk3, HKO.out]; show ¬ (5 : Int) = 0; omega) (by rw [hk3, HKO.out]; show (1 + (nn : Int)) + 2 < _; omega)
            obtain ⟨f3, HF3⟩ : ∃ f3, Hid (f3 = str (told 1 [111, 108, 100])) := ⟨_, rfl⟩
            have hfr3 : Hid (∀ W, Calls Tryd.prog 16 #[.int .i64 1, .string ⟨#[111, 108, 100]⟩] W fun r w' => r = .returned (.string f3) ∧ Below W.heap.size W w') := fun W => frame_is 1 _ [111, 108, 100] rfl W (by omega) (by omega) (by decide) f3 HF3.out
            have hfeed3 : Hid (∀ W g, KdAt w W g E3 → Calls Tryd.prog 19 #[.pointer (some ⟨g, 0, none⟩), .string f3] W fun r w' => r = .returned (.string a0) ∧ KdAt w w' g e3 ∧ W.grownBy w' (some g)) := fun W g K => by rw [HA0.out]; exact keep_fed G K hfd3 (by rw [told_len]; decide) _ HF3.out
            obtain ⟨f9, HF9⟩ : ∃ f9, Hid (f9 = fb.extract 0 199) := ⟨_, rfl⟩
            have hf9 : fb.extract 0 199 = f9 := HF9.out.symm
            have hopen9 : Hid (∀ W, Calls Tryd.prog 28 #[.string f9] W fun r w' => r = .returned (.tuple #[.pointer none, .int .i64 2]) ∧ w' = W) := fun W => prog_Open_size f9 W (by rw [HF9.out, ByteArray.size_extract]; omega)
            have hZ0 : (⟨#[0]⟩ : ByteArray).size = 1 := rfl
            obtain ⟨q1, HQ1⟩ : ∃ q1, Hid (q1 = sp.extract 0 kk) := ⟨_, rfl⟩
            obtain ⟨q2, HQ2⟩ : ∃ q2, Hid (q2 = sp.extract (kk + 1) sp.size) := ⟨_, rfl⟩
            obtain ⟨sz, HSZ⟩ : ∃ sz, Hid (sz = q1 ++ ⟨#[0]⟩ ++ q2) := ⟨_, rfl⟩
            have HSZL : Hid (sz = str (sp.data.toList.set kk 0)) := by
              show _ = _
              rw [HSZ.out, HQ1.out, HQ2.out, ← list_str sp, str_take, str_drop, str_zero, str_append, str_append, str_list]
              exact congrArg str (set_parts _ _ _ (by rw [Array.length_toList]; show kk < sp.size; omega))
            have HSZA : Hid (∃ nv, sz = ob ++ nv ∧ nv.size = 100) := by
              have lo : ob.data.toList.length = 100 := by rw [Array.length_toList]; exact hoz
              exact ⟨str (nw.data.toList.set kj 0), by rw [HSZL.out, HSA.out, ByteArray.data_append, Array.toList_append, List.set_append_right _ _ (by omega), lo, show kk - 100 = kj by omega, ← str_append, list_str], by rw [str_size, List.length_set, Array.length_toList]; exact hwz⟩
            obtain ⟨nv, hnv, hvz⟩ := HSZA.out
            obtain ⟨E4, hE4⟩ := open_any (h0 := ob) (h1 := nv) (.inl HRO.out.1)
            have hopen4 : Hid (∀ W, Below w.heap.size w W → Calls Tryd.prog 28 #[.string sz] W fun r w' => ∃ g, r = .returned (.tuple #[.pointer (some ⟨g, 0, none⟩), .int .i64 0]) ∧ W.heap.size ≤ g ∧ KdAt w w' g E4 ∧ Below W.heap.size W w') := fun W hb => keep_Open w W sz ob nv hnv hoz hvz _ hE4 hb
            clear hnv hvz hE4 U3 hk3 hfd3 xa0 xa1 xa2 y0 y1 hss hkh hkj hkj2
            have t5 : Hid True := trivial
            have hfi : (199 : Int) ≤ fb.size := by omega
            go_wp2_with (first | (go_at_call 28; first | (have tk := t5; clear tk t5; refine (hopen3.out _ B4).mono ?_; rintro _ w10 ⟨g3, rfl, hg3, K4, hb10⟩; clear hg3 hb10 B4) | (refine (hopen9.out _).mono ?_; rintro _ wk ⟨rfl, ek⟩; rw [ek]; clear ek wk)) | (go_at_call 16; refine (hfr3.out _).mono ?_; rintro _ w11 ⟨rfl, hb11⟩; replace K4 := K4.next hb11; clear hb11) | (go_at_call 19; refine (hfeed3.out _ _ K4).mono ?_; rintro _ w12 ⟨rfl, K5, hg5⟩; clear K4 hg5))
            clear hopen3 hopen9 hfr3 hfeed3 hf9 hfi
            have hqa : sp.extract 0 kk = q1 := HQ1.out.symm
            have hqb : sp.extract (kk + 1) sp.size = q2 := HQ2.out.symm
            have hqb' : sp.extract (kk + 1) 200 = q2 := by rw [HQ2.out, hsz]
            have zqa : q1.size = kk := by rw [HQ1.out, ByteArray.size_extract]; omega
            have zqb : q2.size = 199 - kk := by rw [HQ2.out, ByteArray.size_extract]; omega
            have zqc : q1.size + 1 ≤ 9223372036854775807 := by omega
            have zqd : q1.size + 1 + q2.size ≤ 9223372036854775807 := by omega
            have k8 : (kk : Int) ≤ sp.size := by omega
            have k9 : (kk : Int) + 1 ≤ sp.size := by omega
            clear zqa zqb
            have hkS : ∀ X X' : World, Below w.heap.size w X → Below X.heap.size X X' → Below w.heap.size w X' := fun X X' h hb => h.trans (hb.mono h.size)
            have hS0 : Below w.heap.size w w12.drew := K5.base.drew
            have hopen5 : Hid (∀ W, Below w.heap.size w W → Calls Tryd.prog 28 #[.string (q1 ++ ⟨#[0]⟩ ++ q2)] W fun r w' => ∃ g, r = .returned (.tuple #[.pointer (some ⟨g, 0, none⟩), .int .i64 0]) ∧ W.heap.size ≤ g ∧ KdAt w w' g E4 ∧ Below W.heap.size W w') := fun W hb => by rw [← HSZ.out]; exact hopen4.out W hb
            refine wp_normalK ?_
            refine wp_region_letter (S := fun X => Below w.heap.size w X) (by kernel_rfl) hS0 ?_
            intro v0 hS_v0
            refine wpAnyH_take (i := 0) (v := .string sp) rfl (by kernel_rfl) (by kernel_rfl) (by kernel_rfl) (fun _ _ _ h => no_panic h.1) (yields_of rfl (fun w' hw' => by clear hw'; go_simp)) hS_v0 ?_
            try simp only [List.getElem_toArray, List.getElem_cons_succ, List.getElem_cons_zero, Act.put, List.setIfInBounds_toArray, List.set_cons_succ, List.set_cons_zero]
            refine wpAnyH_take (i := 1) (v := .int .i64 kk) rfl (by kernel_rfl) (by kernel_rfl) (by kernel_rfl) (fun _ _ _ h => no_panic h.1) (yields_of rfl (fun w' hw' => by clear hw'; go_simp)) hS_v0 ?_
            try simp only [List.getElem_toArray, List.getElem_cons_succ, List.getElem_cons_zero, Act.put, List.setIfInBounds_toArray, List.set_cons_succ, List.set_cons_zero]
            refine wpAnyH_take (i := 2) (v := .string q1) rfl (by kernel_rfl) (by kernel_rfl) (by kernel_rfl) (fun _ _ _ h => no_panic h.1) (yields_of rfl (fun w' hw' => by clear hw'; go_simp)) hS_v0 ?_
            try simp only [List.getElem_toArray, List.getElem_cons_succ, List.getElem_cons_zero, Act.put, List.setIfInBounds_toArray, List.set_cons_succ, List.set_cons_zero]
            refine wpAnyH_take (i := 3) (v := .string (q1 ++ ⟨#[0]⟩)) rfl (by kernel_rfl) (by kernel_rfl) (by kernel_rfl) (fun _ _ _ h => no_panic h.1) (yields_of rfl (fun w' hw' => by clear hw'; go_simp)) hS_v0 ?_
            try simp only [List.getElem_toArray, List.getElem_cons_succ, List.getElem_cons_zero, Act.put, List.setIfInBounds_toArray, List.set_cons_succ, List.set_cons_zero]
            refine wpAnyH_take (i := 4) (v := .string sp) rfl (by kernel_rfl) (by kernel_rfl) (by kernel_rfl) (fun _ _ _ h => no_panic h.1) (yields_of rfl (fun w' hw' => by clear hw'; go_simp)) hS_v0 ?_
            try simp only [List.getElem_toArray, List.getElem_cons_succ, List.getElem_cons_zero, Act.put, List.setIfInBounds_toArray, List.set_cons_succ, List.set_cons_zero]
            refine wpAnyH_take (i := 5) (v := .int .i64 kk) rfl (by kernel_rfl) (by kernel_rfl) (by kernel_rfl) (fun _ _ _ h => no_panic h.1) (yields_of rfl (fun w' hw' => by clear hw'; go_simp)) hS_v0 ?_
            try simp only [List.getElem_toArray, List.getElem_cons_succ, List.getElem_cons_zero, Act.put, List.setIfInBounds_toArray, List.set_cons_succ, List.set_cons_zero]
            refine wpAnyH_take (i := 6) (v := .int .i64 ((kk : Int) + 1)) rfl (by kernel_rfl) (by kernel_rfl) (by kernel_rfl) (fun _ _ _ h => no_panic h.1) (yields_of rfl (fun w' hw' => by clear hw'; go_simp)) hS_v0 ?_
            try simp only [List.getElem_toArray, List.getElem_cons_succ, List.getElem_cons_zero, Act.put, List.setIfInBounds_toArray, List.set_cons_succ, List.set_cons_zero]
            refine wpAnyH_take (i := 7) (v := .string q2) rfl (by kernel_rfl) (by kernel_rfl) (by kernel_rfl) (fun _ _ _ h => no_panic h.1) (yields_of rfl (fun w' hw' => by clear hw'; go_simp)) hS_v0 ?_
            try simp only [List.getElem_toArray, List.getElem_cons_succ, List.getElem_cons_zero, Act.put, List.setIfInBounds_toArray, List.set_cons_succ, List.set_cons_zero]
            refine wpAnyH_take (i := 8) (v := .string (q1 ++ ⟨#[0]⟩ ++ q2)) rfl (by kernel_rfl) (by kernel_rfl) (by kernel_rfl) (fun _ _ _ h => no_panic h.1) (yields_of rfl (fun w' hw' => by clear hw'; go_simp)) hS_v0 ?_
            try simp only [List.getElem_toArray, List.getElem_cons_succ, List.getElem_cons_zero, Act.put, List.setIfInBounds_toArray, List.set_cons_succ, List.set_cons_zero]
            refine wpAnyH_ready (rs := [9]) (by kernel_rfl) (by simp) (AllReadyH.cons (i := 9) rfl (fun K hK => ?_) AllReadyH.nil)
            refine step_of rfl ?_
            try simp only [List.getElem_toArray, List.getElem_cons_succ, List.getElem_cons_zero, Act.put, List.setIfInBounds_toArray, List.set_cons_succ, List.set_cons_zero]
            refine wp_callC 28 #[.string (q1 ++ ⟨#[0]⟩ ++ q2)] (by go_simp) ?_
            refine ((hopen5.out v0 hS_v0)).mono ?_
            rintro _ x1 ⟨g4, rfl, hg4, K6, hb_x1⟩
            have hS_x1 := hkS _ _ hS_v0 hb_x1
            refine ⟨_, rfl, hK.out _ _ hS_x1 (fun _ => ?_)⟩
            clear hK K
            try simp only [List.getElem_toArray, List.getElem_cons_succ, List.getElem_cons_zero, Act.put, List.setIfInBounds_toArray, List.set_cons_succ, List.set_cons_zero]
            refine wpAnyH_take (i := 10) (v := .tuple #[.pointer (some ⟨g4, 0, none⟩), .int .i64 0]) rfl (by kernel_rfl) (by kernel_rfl) (by kernel_rfl) (fun _ _ _ h => no_panic h.1) (yields_of rfl (fun w' hw' => by clear hw'; go_simp)) hS_x1 ?_
            try simp only [List.getElem_toArray, List.getElem_cons_succ, List.getElem_cons_zero, Act.put, List.setIfInBounds_toArray, List.set_cons_succ, List.set_cons_zero]
            refine wpAnyH_take (i := 11) (v := .pointer (some ⟨g4, 0, none⟩)) rfl (by kernel_rfl) (by kernel_rfl) (by kernel_rfl) (fun _ _ _ h => no_panic h.1) (yields_of rfl (fun w' hw' => by clear hw'; go_simp)) hS_x1 ?_
            try simp only [List.getElem_toArray, List.getElem_cons_succ, List.getElem_cons_zero, Act.put, List.setIfInBounds_toArray, List.set_cons_succ, List.set_cons_zero]
            refine wpAnyH_take (i := 12) (v := .int .i64 0) rfl (by kernel_rfl) (by kernel_rfl) (by kernel_rfl) (fun _ _ _ h => no_panic h.1) (yields_of rfl (fun w' hw' => by clear hw'; go_simp)) hS_x1 ?_
            try simp only [List.getElem_toArray, List.getElem_cons_succ, List.getElem_cons_zero, Act.put, List.setIfInBounds_toArray, List.set_cons_succ, List.set_cons_zero]
            refine wpAnyH_take (i := 13) (v := .pointer (some ⟨g4, 0, none⟩)) rfl (by kernel_rfl) (by kernel_rfl) (by kernel_rfl) (fun _ _ _ h => no_panic h.1) (yields_of rfl (fun w' hw' => by clear hw'; go_simp)) hS_x1 ?_
            try simp only [List.getElem_toArray, List.getElem_cons_succ, List.getElem_cons_zero, Act.put, List.setIfInBounds_toArray, List.set_cons_succ, List.set_cons_zero]
            refine wpAnyH_take (i := 14) (v := .int .i64 0) rfl (by kernel_rfl) (by kernel_rfl) (by kernel_rfl) (fun _ _ _ h => no_panic h.1) (yields_of rfl (fun w' hw' => by clear hw'; go_simp)) hS_x1 ?_
            try simp only [List.getElem_toArray, List.getElem_cons_succ, List.getElem_cons_zero, Act.put, List.setIfInBounds_toArray, List.set_cons_succ, List.set_cons_zero]
            refine wpAnyH_done (by kernel_rfl) ⟨rfl, ?_⟩ _
            clear hkS hS0 hopen5 hopen4
            have K7 := K6
            clear K6
            go_wp2_with (go_at_call 16; refine (hfr0.out _).mono ?_; rintro _ w13 ⟨rfl, hb13⟩; replace K7 := K7.next hb13; clear hb13)
            go_ret
            exact ⟨rfl, K7.base⟩
          · obtain ⟨j, rfl⟩ : ∃ j, m = j + 1 := ⟨m - 1, by omega⟩
            rw [show ((j + 1 : Nat) : Int) - 1 = (j : Int) by omega]
            have q0 : (0 : Int) ≤ j := by omega
            have q1 : (j : Int) < 4 := by omega
            have hjn : (j : Int).toNat = j := by omega
            obtain ⟨sj, HSJ⟩ : ∃ sj, Hid (sj = [s0, s1, s2, s3].getD j ⟨#[]⟩) := ⟨_, rfl⟩
            have c4 := HH.cell j (by simp; omega)
            rw [← HSJ.out] at c4
            have HBT : Hid (bitsHi ([s0, s1, s2, s3].drop j) = (if sj.size = 0 then 0 else 1) + 2 * bitsHi ([s0, s1, s2, s3].drop (j + 1))) := by
              show _ = _
              rw [HSJ.out]
              rcases (by omega : j = 0 ∨ j = 1 ∨ j = 2 ∨ j = 3) with rfl | rfl | rfl | rfl <;> rfl
            have hbd := bitsHi_bd ([s0, s1, s2, s3].drop (j + 1))
            have hbd2 : (2 : Int) ^ ([s0, s1, s2, s3].drop (j + 1)).length ≤ 8 := by rcases (by omega : j = 0 ∨ j = 1 ∨ j = 2 ∨ j = 3) with rfl | rfl | rfl | rfl <;> simp
            generalize (2 : Int) ^ ([s0, s1, s2, s3].drop (j + 1)).length = pw at hbd hbd2
            generalize bitsHi ([s0, s1, s2, s3].drop (j + 1)) = bq at *
            obtain ⟨bd0, bd1⟩ := hbd
            have bd3 : bq < 8 := by omega
            clear bd1 hbd2
            by_cases hz : sj.size = 0
            · have hze := empty_ba hz
              rw [if_pos hz] at HBT
              clear hz HSJ
              subst hze
              go_wp2
              exact ⟨⟨j, by omega, rfl, by rw [HBT.out]; congr 1; omega, HH⟩, by simp only [intOf]; omega⟩
            · have hze : sj.toList.isEmpty = false := toList_ne_nil (by omega)
              rw [if_neg hz] at HBT
              clear hz
              go_wp2
              exact ⟨⟨j, by omega, rfl, by rw [HBT.out]; congr 1; omega, HH⟩, by simp only [intOf]; omega⟩

end Go.Proofs.YtaokemapkgggoaaDoor
