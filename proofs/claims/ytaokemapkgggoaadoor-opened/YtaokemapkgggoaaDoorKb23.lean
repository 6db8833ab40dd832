import Derived.Test.YtaokemapkgggoaaDoorKb22
namespace Go.Proofs.YtaokemapkgggoaaDoor
open Go.RowKit

theorem good_put {k : Kep} {i : Nat} {q : ByteArray} (h : k.good) (hq : q.size ≤ 20) : (k.put i q).good := by
  unfold Kep.put
  repeat' split
  · exact ⟨h.n0, h.n1, h.t0, h.t1, h.pin, hq, h.k1, h.k2, h.k3⟩
  · exact ⟨h.n0, h.n1, h.t0, h.t1, h.pin, h.k0, hq, h.k2, h.k3⟩
  · exact ⟨h.n0, h.n1, h.t0, h.t1, h.pin, h.k0, h.k1, hq, h.k3⟩
  · exact ⟨h.n0, h.n1, h.t0, h.t1, h.pin, h.k0, h.k1, h.k2, hq⟩
theorem put_num (k : Kep) (i : Nat) (q : ByteArray) : (k.put i q).num = k.num := by
  unfold Kep.put
  repeat' split
  all_goals rfl
theorem put_pin (k : Kep) (i : Nat) (q : ByteArray) : (k.put i q).pin = k.pin := by
  unfold Kep.put
  repeat' split
  all_goals rfl

set_option maxRecDepth 100000 in
set_option maxHeartbeats 1000000 in
theorem prog_set_locked (w : World) (g j : Nat) (d : Dv) (p : ByteArray) (h : PdAt w g d) (f : d.fit) (hu : d.unl = false) :
    Calls Tryd.prog 81 #[.pointer (some ⟨g, 0, none⟩), .pointer (some ⟨j, 0, none⟩), .string p] w fun r w' => r = .returned (.int .u8 2) ∧ Below w.heap.size w w' := by
  go_enter Tryd.func81, Tryd.ntmps81
  go_wp2_with (first | (go_at_call 89; refine (prog_slotOf_any p w).mono ?_; rintro _ w1 ⟨n1, q1, b1, rfl, hb1⟩) | (go_at_call 31; refine (prog_keyOf_any q1 w1).mono ?_; rintro _ w2 ⟨l2, b2, hl2, rfl, hb2⟩; have hl2' : Hid ((bcells l2).length = 21) := (by show _ = _; rw [bcells_length, hl2]); have hw2 := hb1.trans (hb2.mono hb1.size); clear hl2) | (refine wpList_allocR rfl 63 rfl 21 (.int .u8 0) arr21b ?_; go_simp) | (refine wpList_storeMA rfl 63 _ _ rfl _ rfl rfl (bcells l2) rfl 63 _ 21 (.int .u8 0) arr21b hl2'.out (zrow_length _ _) (bcells_one _) ?_; intro w3 hr3 hb3; have hw3 := hw2.trans (hb3.mono hw2.size); have cu := (h.below hw3 h.lt).cu f; rw [hu] at cu; go_simp))
  go_ret
  exact ⟨rfl, hw3⟩

set_option maxRecDepth 100000 in
set_option maxHeartbeats 1000000 in
theorem prog_set_wrongA (w : World) (g j : Nat) (d : Dv) (p : ByteArray) (h : PdAt w g d) (f : d.fit) (hu : d.unl = true) (hp : p.size = 0 ∨ 4 ≤ hd0 p) :
    Calls Tryd.prog 81 #[.pointer (some ⟨g, 0, none⟩), .pointer (some ⟨j, 0, none⟩), .string p] w fun r w' => r = .returned (.int .u8 4) ∧ Below w.heap.size w w' := by
  have hky := fun wx => prog_keyOf_yes ⟨#[]⟩ wx (Nat.zero_le _)
  rw [field_cellsB 21 _ (by decide) (by omega)] at hky
  have HL : Hid ((bcells (fieldB 21 (⟨#[]⟩ : ByteArray).data.toList)).length = 21) := by show _ = _; rw [bcells_length]; rfl
  generalize fieldB 21 (⟨#[]⟩ : ByteArray).data.toList = kf at *
  go_enter Tryd.func81, Tryd.ntmps81
  go_wp2_with (first | (go_at_call 89; refine (prog_slotOf_no p w hp).mono ?_; rintro _ w9 ⟨rfl, e9⟩; rw [e9]; clear e9 w9) | (go_at_call 31; refine (hky w).mono ?_; rintro _ w2 ⟨rfl, hw2⟩) | (refine wpList_allocR rfl 63 rfl 21 (.int .u8 0) arr21b ?_; go_simp) | (refine wpList_storeMA rfl 63 _ _ rfl _ rfl rfl (bcells kf) rfl 63 _ 21 (.int .u8 0) arr21b HL.out (zrow_length _ _) (bcells_one _) ?_; intro w3 hr3 hb3; have hw3 := hw2.trans (hb3.mono hw2.size); have cu := (h.below hw3 h.lt).cu f; rw [hu] at cu; go_simp))
  go_ret
  exact ⟨rfl, hw3⟩

set_option maxRecDepth 100000 in
set_option maxHeartbeats 1000000 in
theorem prog_set_wrongB (w : World) (g j : Nat) (d : Dv) (p : ByteArray) (h : PdAt w g d) (f : d.fit) (hu : d.unl = true) (hp : ¬ (p.size = 0 ∨ 4 ≤ hd0 p)) (hk : 20 < (rest1 p).size) :
    Calls Tryd.prog 81 #[.pointer (some ⟨g, 0, none⟩), .pointer (some ⟨j, 0, none⟩), .string p] w fun r w' => r = .returned (.int .u8 4) ∧ Below w.heap.size w w' := by
  have hcs := prog_slotOf_yes p w hp
  have hky := fun wx => prog_keyOf_no (rest1 p) wx hk
  rw [zrow_bcells] at hky
  have HL : Hid ((bcells (List.replicate 21 (0 : UInt8))).length = 21) := by show _ = _; rw [bcells_length]; rfl
  clear hp
  generalize List.replicate 21 (0 : UInt8) = kf at *
  generalize hd0 p = n at *
  generalize rest1 p = q at *
  go_enter Tryd.func81, Tryd.ntmps81
  go_wp2_with (first | (go_at_call 89; refine hcs.mono ?_; rintro _ w1 ⟨rfl, hb1⟩) | (go_at_call 31; refine (hky w1).mono ?_; rintro _ w2 ⟨rfl, hb2⟩; have hw2 := hb1.trans (hb2.mono hb1.size); clear hb2) | (refine wpList_allocR rfl 63 rfl 21 (.int .u8 0) arr21b ?_; go_simp) | (refine wpList_storeMA rfl 63 _ _ rfl _ rfl rfl (bcells kf) rfl 63 _ 21 (.int .u8 0) arr21b HL.out (zrow_length _ _) (bcells_one _) ?_; intro w3 hr3 hb3; have hw3 := hw2.trans (hb3.mono hw2.size); have cu := (h.below hw3 h.lt).cu f; rw [hu] at cu; go_simp))
  go_ret
  exact ⟨rfl, hw3⟩

set_option maxRecDepth 100000 in
set_option maxHeartbeats 1000000 in
theorem prog_set_worn (w : World) (g j : Nat) (d : Dv) (x : UInt8) (p : ByteArray) (h : PdAt w g d) (f : d.fit) (ok : d.sound) (hu : d.unl = true) (hp : ¬ (p.size = 0 ∨ 4 ≤ hd0 p)) (hk : (rest1 p).size ≤ 20) (hW : Row w j (bcells (d.k.raw x)) 75) (hw : 4294967295 ≤ d.k.num) :
    Calls Tryd.prog 81 #[.pointer (some ⟨g, 0, none⟩), .pointer (some ⟨j, 0, none⟩), .string p] w fun r w' => r = .returned (.int .u8 7) ∧ Below w.heap.size w w' := by
  have hcs := prog_slotOf_yes p w hp
  have hky := fun wx => prog_keyOf_yes (rest1 p) wx hk
  have hn : hd0 p < 4 := by omega
  have hsl : (Bs (rest1 p)).length < 21 := by rw [Bs_len]; omega
  rw [field_cellsB 21 _ hsl (by omega)] at hky
  have HL : Hid ((bcells (fieldB 21 (Bs (rest1 p)))).length = 21) := by show _ = _; rw [bcells_length, fieldB_length 21 _ hsl]
  clear hp hsl
  generalize fieldB 21 (Bs (rest1 p)) = kf at *
  generalize hd0 p = n at *
  generalize rest1 p = q at *
  have hnn : d.k.num = 4294967295 := by have := ok.n1; omega
  have HN : Hid (decide (numOf (d.k.raw x) = 4294967295) = true) := by show _ = _; rw [Kep.raw_num ok.good, hnn]; rfl
  go_enter Tryd.func81, Tryd.ntmps81
  go_wp2_with (first | (go_at_call 89; refine hcs.mono ?_; rintro _ w1 ⟨rfl, hb1⟩) | (go_at_call 31; refine (hky w1).mono ?_; rintro _ w2 ⟨rfl, hb2⟩; have hw2 := hb1.trans (hb2.mono hb1.size); clear hb2) | (refine wpList_allocR rfl 63 rfl 21 (.int .u8 0) arr21b ?_; go_simp) | (refine wpList_storeMA rfl 63 _ _ rfl _ rfl rfl (bcells kf) rfl 63 _ 21 (.int .u8 0) arr21b HL.out (zrow_length _ _) (bcells_one _) ?_; intro w3 hr3 hb3; have hw3 := hw2.trans (hb3.mono hw2.size); have cu := (h.below hw3 h.lt).cu f; rw [hu] at cu; go_simp) | (go_at_call 86; refine (prog_worn w3 j 0 _ (ImgAt.of_row (hW.below hw3 hW.lt) (Kep.raw_length ok.good))).mono ?_; rintro _ w4 ⟨rfl, n4, e4⟩; rw [HN.out]; have hw4 : Below w.heap.size w w4 := (by rw [e4]; exact below_drewN hw3 _); have hr4 : Row w4 w2.heap.size (bcells kf) 63 := (by rw [e4]; exact hr3); have hW4 := hW.below hw4 hW.lt; clear e4))
  go_ret
  exact ⟨rfl, hw4⟩

set_option maxRecDepth 100000 in
set_option maxHeartbeats 1000000 in
theorem prog_set_yes (w : World) (g j : Nat) (d : Dv) (x : UInt8) (p : ByteArray) (h : PdAt w g d) (f : d.fit) (ok : d.sound) (hu : d.unl = true) (hp : ¬ (p.size = 0 ∨ 4 ≤ hd0 p)) (hk : (rest1 p).size ≤ 20) (hW : Row w j (bcells (d.k.raw x)) 75) (hw : ¬ 4294967295 ≤ d.k.num) (hc : whole d.cut) (w0 : World) (hgj : ¬ g = j) (hgr : Two g j w0 w) :
    Calls Tryd.prog 81 #[.pointer (some ⟨g, 0, none⟩), .pointer (some ⟨j, 0, none⟩), .string p] w fun r w' => r = .returned (.int .u8 0) ∧ PLeft w0 g j (d.wrote (d.k.put (hd0 p) (rest1 p))) w' := by
  have hcs := prog_slotOf_yes p w hp
  have hky := fun wx => prog_keyOf_yes (rest1 p) wx hk
  have hn : hd0 p < 4 := by omega
  have hsl : (Bs (rest1 p)).length < 21 := by rw [Bs_len]; omega
  rw [field_cellsB 21 _ hsl (by omega)] at hky
  have HL : Hid ((bcells (fieldB 21 (Bs (rest1 p)))).length = 21) := by show _ = _; rw [bcells_length, fieldB_length 21 _ hsl]
  have HX : Hid (splice (bcells (d.k.raw x)) (15 + 21 * hd0 p) (bcells (fieldB 21 (Bs (rest1 p)))) = bcells ((d.k.put (hd0 p) (rest1 p)).raw x)) := by show _ = _; rw [splice_u8, fieldB_length 21 _ hsl, Kep.raw_put ok.good _ _ hn]
  have hgd : (d.k.put (hd0 p) (rest1 p)).good := good_put ok.good hk
  have hpn : Hid ((d.k.put (hd0 p) (rest1 p)).num = d.k.num) := put_num _ _ _
  obtain ⟨kp, HKP⟩ : ∃ kp, Hid (kp = d.k.put (hd0 p) (rest1 p)) := ⟨_, rfl⟩
  rw [← HKP.out] at HX hgd hpn
  rw [← HKP.out]
  have HN : Hid (decide (numOf (d.k.raw x) = 4294967295) = false) := by show _ = _; rw [Kep.raw_num ok.good]; exact decide_eq_false (by omega)
  clear hp hsl HKP
  generalize fieldB 21 (Bs (rest1 p)) = kf at *
  generalize hd0 p = n at *
  generalize rest1 p = q at *
  go_enter Tryd.func81, Tryd.ntmps81
  go_wp2_with (first | (go_at_call 89; refine hcs.mono ?_; rintro _ w1 ⟨rfl, hb1⟩) | (go_at_call 31; refine (hky w1).mono ?_; rintro _ w2 ⟨rfl, hb2⟩; have hw2 := hb1.trans (hb2.mono hb1.size); clear hb2) | (refine wpList_allocR rfl 63 rfl 21 (.int .u8 0) arr21b ?_; go_simp) | (refine wpList_storeMA rfl 63 _ _ rfl _ rfl rfl (bcells kf) rfl 63 _ 21 (.int .u8 0) arr21b HL.out (zrow_length _ _) (bcells_one _) ?_; intro w3 hr3 hb3; have hw3 := hw2.trans (hb3.mono hw2.size); have cu := (h.below hw3 h.lt).cu f; rw [hu] at cu; go_simp) | (go_at_call 86; refine (prog_worn w3 j 0 _ (ImgAt.of_row (hW.below hw3 hW.lt) (Kep.raw_length ok.good))).mono ?_; rintro _ w4 ⟨rfl, n4, e4⟩; rw [HN.out]; have hw4 : Below w.heap.size w w4 := (by rw [e4]; exact below_drewN hw3 _); have hr4 : Row w4 w2.heap.size (bcells kf) 63 := (by rw [e4]; exact hr3); have hW4 := hW.below hw4 hW.lt; clear e4))
  have hu21 := under21b
  have hi21 : (Tryd.prog.info? 63).map (·.size) = some (bcells kf).length := by rw [HL.out]; exact arr21b.size
  have hlk : (bcells kf).length = 21 := HL.out
  have hok := bcells_one kf
  have hjl : ¬ j = w2.heap.size := by have := hw2.size; have := hW.lt; omega
  have hS0 : w4.drew.rangeAt w2.heap.size 0 (bcells kf) ∧ w4.drew.there j (15 + 21 * n) 21 := ⟨hr4.range, hW4.thereFrom (15 + 21 * n) 21 (by rw [bcells_length, Kep.raw_length ok.good]; omega)⟩
  go_region_held3 (fun w' => w'.rangeAt w2.heap.size 0 (bcells kf) ∧ w'.there j (15 + 21 * n) 21) (first | exact hS0 | exact ⟨World.rangeAt_setCells_apart hS0.1 _ _ _ (.inl (Ne.symm hjl)), World.there_setCells hS0.2 _ _ _⟩) (first | (go_at_call 77; refine (prog_key _ j 0 n hn).mono ?_; rintro _ w9 ⟨rfl, e9⟩; rw [e9, Nat.zero_add]; clear e9 w9))
  have hW5 : Row (w4.drew.setCells j (15 + 21 * n) (bcells kf)) j (bcells (kp.raw x)) 75 := by
    have := Row.setCells (bcells kf) (15 + 21 * n) hW4.drew (by rw [HL.out, bcells_length, Kep.raw_length ok.good]; omega)
    rwa [HX.out] at this
  have hg5 : Two g j w0 (w4.drew.setCells j (15 + 21 * n) (bcells kf)) := Two.cells2 (Two.drewT (hgr.trans (.ofB hw4))) _ _
  have hd5 : PdAt (w4.drew.setCells j (15 + 21 * n) (bcells kf)) g d := by
    unfold PdAt
    exact Row.setCells_other ((h.below hw4 h.lt : Row w4 g _ _).drew) hgj _ _
  clear hS0 hW4 hr4 hw4
  generalize w4.drew.setCells j (15 + 21 * n) (bcells kf) = w5 at *
  go_wp2_with (go_at_call 87; refine (prog_writeD w0 w5 g j d kp x hd5 f ok hgd hpn.out (by omega) hW5 hc hgj hg5).mono ?_; rintro _ w6 ⟨rfl, hd6, ⟨y, hW6⟩, hg6⟩)
  go_ret
  exact ⟨rfl, hd6, ⟨_, Kep.raw_length (by exact ⟨by have := ok.n0; simp only [Kep.next]; omega, by have := ok.n1; simp only [Kep.next]; omega, hgd.t0, hgd.t1, hgd.pin, hgd.k0, hgd.k1, hgd.k2, hgd.k3⟩), hW6⟩, hg6⟩


set_option maxRecDepth 100000 in
set_option maxHeartbeats 1000000 in
theorem prog_set_torn (w : World) (g j : Nat) (d : Dv) (x : UInt8) (p : ByteArray) (h : PdAt w g d) (f : d.fit) (ok : d.sound) (hu : d.unl = true) (hp : ¬ (p.size = 0 ∨ 4 ≤ hd0 p)) (hk : (rest1 p).size ≤ 20) (hW : Row w j (bcells (d.k.raw x)) 75) (hw : ¬ 4294967295 ≤ d.k.num) (hc : 0 ≤ d.cut ∧ d.cut < 101) (w0 : World) (hgj : ¬ g = j) (hgr : Two g j w0 w) :
    Calls Tryd.prog 81 #[.pointer (some ⟨g, 0, none⟩), .pointer (some ⟨j, 0, none⟩), .string p] w fun r w' => r = lost ∧ PLost w0 g j (d.torn (d.k.put (hd0 p) (rest1 p))) w' := by
  have hcs := prog_slotOf_yes p w hp
  have hky := fun wx => prog_keyOf_yes (rest1 p) wx hk
  have hn : hd0 p < 4 := by omega
  have hsl : (Bs (rest1 p)).length < 21 := by rw [Bs_len]; omega
  rw [field_cellsB 21 _ hsl (by omega)] at hky
  have HL : Hid ((bcells (fieldB 21 (Bs (rest1 p)))).length = 21) := by show _ = _; rw [bcells_length, fieldB_length 21 _ hsl]
  have HX : Hid (splice (bcells (d.k.raw x)) (15 + 21 * hd0 p) (bcells (fieldB 21 (Bs (rest1 p)))) = bcells ((d.k.put (hd0 p) (rest1 p)).raw x)) := by show _ = _; rw [splice_u8, fieldB_length 21 _ hsl, Kep.raw_put ok.good _ _ hn]
  have hgd : (d.k.put (hd0 p) (rest1 p)).good := good_put ok.good hk
  have hpn : Hid ((d.k.put (hd0 p) (rest1 p)).num = d.k.num) := put_num _ _ _
  obtain ⟨kp, HKP⟩ : ∃ kp, Hid (kp = d.k.put (hd0 p) (rest1 p)) := ⟨_, rfl⟩
  rw [← HKP.out] at HX hgd hpn
  rw [← HKP.out]
  have HN : Hid (decide (numOf (d.k.raw x) = 4294967295) = false) := by show _ = _; rw [Kep.raw_num ok.good]; exact decide_eq_false (by omega)
  clear hp hsl HKP
  generalize fieldB 21 (Bs (rest1 p)) = kf at *
  generalize hd0 p = n at *
  generalize rest1 p = q at *
  go_enter Tryd.func81, Tryd.ntmps81
  go_wp2_with (first | (go_at_call 89; refine hcs.mono ?_; rintro _ w1 ⟨rfl, hb1⟩) | (go_at_call 31; refine (hky w1).mono ?_; rintro _ w2 ⟨rfl, hb2⟩; have hw2 := hb1.trans (hb2.mono hb1.size); clear hb2) | (refine wpList_allocR rfl 63 rfl 21 (.int .u8 0) arr21b ?_; go_simp) | (refine wpList_storeMA rfl 63 _ _ rfl _ rfl rfl (bcells kf) rfl 63 _ 21 (.int .u8 0) arr21b HL.out (zrow_length _ _) (bcells_one _) ?_; intro w3 hr3 hb3; have hw3 := hw2.trans (hb3.mono hw2.size); have cu := (h.below hw3 h.lt).cu f; rw [hu] at cu; go_simp) | (go_at_call 86; refine (prog_worn w3 j 0 _ (ImgAt.of_row (hW.below hw3 hW.lt) (Kep.raw_length ok.good))).mono ?_; rintro _ w4 ⟨rfl, n4, e4⟩; rw [HN.out]; have hw4 : Below w.heap.size w w4 := (by rw [e4]; exact below_drewN hw3 _); have hr4 : Row w4 w2.heap.size (bcells kf) 63 := (by rw [e4]; exact hr3); have hW4 := hW.below hw4 hW.lt; clear e4))
  have hu21 := under21b
  have hi21 : (Tryd.prog.info? 63).map (·.size) = some (bcells kf).length := by rw [HL.out]; exact arr21b.size
  have hlk : (bcells kf).length = 21 := HL.out
  have hok := bcells_one kf
  have hjl : ¬ j = w2.heap.size := by have := hw2.size; have := hW.lt; omega
  have hS0 : w4.drew.rangeAt w2.heap.size 0 (bcells kf) ∧ w4.drew.there j (15 + 21 * n) 21 := ⟨hr4.range, hW4.thereFrom (15 + 21 * n) 21 (by rw [bcells_length, Kep.raw_length ok.good]; omega)⟩
  go_region_held3 (fun w' => w'.rangeAt w2.heap.size 0 (bcells kf) ∧ w'.there j (15 + 21 * n) 21) (first | exact hS0 | exact ⟨World.rangeAt_setCells_apart hS0.1 _ _ _ (.inl (Ne.symm hjl)), World.there_setCells hS0.2 _ _ _⟩) (first | (go_at_call 77; refine (prog_key _ j 0 n hn).mono ?_; rintro _ w9 ⟨rfl, e9⟩; rw [e9, Nat.zero_add]; clear e9 w9))
  have hW5 : Row (w4.drew.setCells j (15 + 21 * n) (bcells kf)) j (bcells (kp.raw x)) 75 := by
    have := Row.setCells (bcells kf) (15 + 21 * n) hW4.drew (by rw [HL.out, bcells_length, Kep.raw_length ok.good]; omega)
    rwa [HX.out] at this
  have hg5 : Two g j w0 (w4.drew.setCells j (15 + 21 * n) (bcells kf)) := Two.cells2 (Two.drewT (hgr.trans (.ofB hw4))) _ _
  have hd5 : PdAt (w4.drew.setCells j (15 + 21 * n) (bcells kf)) g d := by
    unfold PdAt
    exact Row.setCells_other ((h.below hw4 h.lt : Row w4 g _ _).drew) hgj _ _
  clear hS0 hW4 hr4 hw4
  generalize w4.drew.setCells j (15 + 21 * n) (bcells kf) = w5 at *
  go_wp2_with (go_at_call 87; refine (prog_writeT w0 w5 g j d kp x hd5 f ok hgd hpn.out (by omega) hW5 hc hgj hg5).mono ?_; rintro _ w6 ⟨hr6, hl6⟩; rw [lost_is] at hr6; subst hr6)
  exact ⟨rfl, rfl, hl6⟩

/-- a key, by the document's device -/
theorem prog_setC (w0 w : World) (g j : Nat) (d : Dv) (x : UInt8) (p : ByteArray) (E : Dv × Int × List UInt8) (HE : Hid (E = d.commandC 3 p)) (h : PdAt w g d) (f : d.fit) (ok : d.sound) (ho : d.off = false) (hW : Row w j (bcells (d.k.raw x)) 75) (hgj : ¬ g = j) (hgr : Two g j w0 w) :
    Calls Tryd.prog 81 #[.pointer (some ⟨g, 0, none⟩), .pointer (some ⟨j, 0, none⟩), .string p] w fun r w' => E.2.2 = [] ∧ EndsBy w0 g j E (.int .u8 E.2.1) r w' := by
  have e := HE.out
  have e' : d.commandC 3 p = d.slotC 3 p := by unfold Dv.commandC; rw [if_neg (by omega), if_pos (by omega)]
  have hq : ∀ w', Below w.heap.size w w' → PLeft w0 g j d w' := fun w' hb => ⟨h.below hb h.lt, ⟨_, Kep.raw_length ok.good, hW.below hb hW.lt⟩, hgr.trans (.ofB hb)⟩
  rw [e'] at e
  unfold Dv.slotC Dv.slot at e
  by_cases hu : d.unl = false
  · rw [if_neg (fun k => by rw [hu] at k; exact absurd k.2.1 (by decide)), if_pos hu] at e
    subst e
    refine (prog_set_locked w g j d p h f hu).mono ?_
    rintro r w' ⟨rfl, hb⟩
    exact ⟨rfl, .inl ⟨ho, rfl, hq w' hb⟩⟩
  · have hu' : d.unl = true := by simpa using hu
    by_cases hp : p.size = 0 ∨ 4 ≤ hd0 p
    · rw [if_neg (fun k => k.2.2.1 hp), if_neg hu, if_pos hp] at e
      subst e
      refine (prog_set_wrongA w g j d p h f hu' hp).mono ?_
      rintro r w' ⟨rfl, hb⟩
      exact ⟨rfl, .inl ⟨ho, rfl, hq w' hb⟩⟩
    · by_cases hk : 20 < (rest1 p).size
      · rw [if_neg (fun k => k.2.2.2.1 hk), if_neg hu, if_neg hp, if_pos ⟨rfl, hk⟩] at e
        subst e
        refine (prog_set_wrongB w g j d p h f hu' hp hk).mono ?_
        rintro r w' ⟨rfl, hb⟩
        exact ⟨rfl, .inl ⟨ho, rfl, hq w' hb⟩⟩
      · by_cases hw : 4294967295 ≤ d.k.num
        · rw [if_neg (fun k => k.2.2.2.2 hw), if_neg hu, if_neg hp, if_neg (by omega), if_pos ⟨rfl, hw⟩] at e
          subst e
          refine (prog_set_worn w g j d x p h f ok hu' hp (by omega) hW hw).mono ?_
          rintro r w' ⟨rfl, hb⟩
          exact ⟨rfl, .inl ⟨ho, rfl, hq w' hb⟩⟩
        · rw [if_pos ⟨rfl, hu', hp, hk, hw⟩] at e
          unfold Dv.put at e
          by_cases hc : 0 ≤ d.cut ∧ d.cut < 101
          · rw [if_pos hc] at e
            subst e
            refine (prog_set_torn w g j d x p h f ok hu' hp (by omega) hW hw hc w0 hgj hgr).mono ?_
            rintro r w' ⟨rfl, hl⟩
            exact ⟨rfl, .inr ⟨rfl, rfl, hl⟩⟩
          · rw [if_neg hc] at e
            subst e
            refine (prog_set_yes w g j d x p h f ok hu' hp (by omega) hW hw (whole_of hc ok.c1) w0 hgj hgr).mono ?_
            rintro r w' ⟨rfl, hl⟩
            exact ⟨rfl, .inl ⟨ho, rfl, hl⟩⟩
end Go.Proofs.YtaokemapkgggoaaDoor

namespace Go.Proofs.YtaokemapkgggoaaDoor
open Go.RowKit

theorem str1 {a : Int} (a0 : 0 ≤ a) (a1 : a < 256) : strOfNums [a] = str [b8 a] := by
  rw [strOfNums_str]
  simp only [toBytes, List.map_cons, List.map_nil]
  rw [toBytes_b8 a0 a1]
theorem PdAt.drew {w : World} {g : Nat} {d : Dv} (h : PdAt w g d) : PdAt w.drew g d := Row.drew h
theorem PdAt.alloc {w : World} {g : Nat} {d : Dv} (h : PdAt w g d) (o : Obj) : PdAt (w.alloc o) g d := Row.alloc h o

set_option maxRecDepth 100000 in
set_option maxHeartbeats 1000000 in
theorem prog_refuse_A (w0 w : World) (g j : Nat) (d : Dv) (x : UInt8) (h : PdAt w g d) (ok : d.sound) (hW : Row w j (bcells (d.k.raw x)) 75) (hgr : Two g j w0 w) (ht : ¬ d.k.tries = 0) :
    Calls Tryd.prog 88 #[.pointer (some ⟨g, 0, none⟩), .pointer (some ⟨j, 0, none⟩)] w fun r w' => r = .returned (.tuple #[.int .u8 3, .string (str [b8 d.k.tries])]) ∧ PLeft w0 g j d w' := by
  have c5 := cell_of_bcells hW 5 (by rw [Kep.raw_length ok.good]; omega)
  rw [Kep.raw_tries ok.good] at c5
  have ht0 := ok.t0
  have ht1 := ok.t1
  have HE : Hid (strOfNums [d.k.tries] = str [b8 d.k.tries]) := str1 ht0 (by omega)
  have HL : Hid ((d.k.raw x).length = 100) := Kep.raw_length ok.good
  rw [← HE.out]
  have hcv := fun (W : World) a => conv1d W a W.heap.size rfl
  go_enter Tryd.func88, Tryd.ntmps88
  go_wp2
  go_region
  go_wp2
  go_ret2
  exact ⟨rfl, (h.alloc _).drew, ⟨_, HL.out, (hW.alloc _).drew⟩, Two.drewT (Two.allocT hgr _)⟩

set_option maxRecDepth 100000 in
set_option maxHeartbeats 1000000 in
theorem prog_refuse_B (w0 w : World) (g j : Nat) (d : Dv) (x : UInt8) (h : PdAt w g d) (ok : d.sound) (hW : Row w j (bcells (d.k.raw x)) 75) (hgr : Two g j w0 w) (ht : d.k.tries = 0) (hw : 4294967295 ≤ d.k.num) :
    Calls Tryd.prog 88 #[.pointer (some ⟨g, 0, none⟩), .pointer (some ⟨j, 0, none⟩)] w fun r w' => r = .returned (.tuple #[.int .u8 3, .string (str [b8 0])]) ∧ PLeft w0 g j d w' := by
  have HL : Hid ((d.k.raw x).length = 100) := Kep.raw_length ok.good
  have hnn : d.k.num = 4294967295 := by have := ok.n1; omega
  have HN : Hid (decide (numOf (d.k.raw x) = 4294967295) = true) := by show _ = _; rw [Kep.raw_num ok.good, hnn]; rfl
  have hcv := fun (W : World) a => conv1d W a W.heap.size rfl
  have HT : Hid (bAt (d.k.raw x) 5 = 0) := by show _ = _; rw [Kep.raw_tries ok.good, ht]
  have c5 := cell_of_bcells hW 5 (by rw [HL.out]; omega)
  rw [HT.out] at c5
  go_enter Tryd.func88, Tryd.ntmps88
  go_wp2_with (first | (go_at_call 86; refine (prog_worn w j 0 _ (ImgAt.of_row hW HL.out)).mono ?_; rintro _ w4 ⟨rfl, n4, e4⟩; rw [HN.out]; have hd4 : PdAt w4 g d := (by rw [e4]; exact h); have hW4 : Row w4 j (bcells (d.k.raw x)) 75 := (by rw [e4]; exact hW); have hg4 : Two g j w0 w4 := (by rw [e4]; exact hgr.trans (.ofB (below_drewN (Below.refl _ _) _))); clear e4 c5; have c5 := cell_of_bcells hW4 5 (by rw [HL.out]; omega); rw [HT.out] at c5))
  go_region
  go_wp2
  go_ret2
  exact ⟨rfl, (hd4.alloc _).drew, ⟨_, HL.out, (hW4.alloc _).drew⟩, Two.drewT (Two.allocT hg4 _)⟩

set_option maxRecDepth 100000 in
set_option maxHeartbeats 1000000 in
theorem prog_refuse_C (w0 w : World) (g j : Nat) (d : Dv) (x : UInt8) (h : PdAt w g d) (f : d.fit) (ok : d.sound) (hW : Row w j (bcells (d.k.raw x)) 75) (hgj : ¬ g = j) (hgr : Two g j w0 w) (ht : d.k.tries = 0) (hw : ¬ 4294967295 ≤ d.k.num) (hc : whole d.cut) :
    Calls Tryd.prog 88 #[.pointer (some ⟨g, 0, none⟩), .pointer (some ⟨j, 0, none⟩)] w fun r w' => r = .returned (.tuple #[.int .u8 3, .string (str [b8 0])]) ∧ PLeft w0 g j (d.wrote d.k.bare) w' := by
  have HL : Hid ((d.k.raw x).length = 100) := Kep.raw_length ok.good
  have HN : Hid (decide (numOf (d.k.raw x) = 4294967295) = false) := by show _ = _; rw [Kep.raw_num ok.good]; exact decide_eq_false (by omega)
  have hcv := fun (W : World) a => conv1d W a W.heap.size rfl
  have HT : Hid (bAt (d.k.raw x) 5 = 0) := by show _ = _; rw [Kep.raw_tries ok.good, ht]
  have c5 := cell_of_bcells hW 5 (by rw [HL.out]; omega)
  rw [HT.out] at c5
  have hgd : d.k.bare.good := ⟨ok.good.n0, ok.good.n1, ok.good.t0, ok.good.t1, ok.good.pin, Nat.zero_le _, Nat.zero_le _, Nat.zero_le _, Nat.zero_le _⟩
  have hgd2 : (d.k.bare.next (d.k.num + 1)).good := ⟨by have := ok.n0; simp only [Kep.next]; omega, by have := ok.n1; simp only [Kep.next]; omega, hgd.t0, hgd.t1, hgd.pin, hgd.k0, hgd.k1, hgd.k2, hgd.k3⟩
  have HX : Hid ((d.k.raw x).take 15 ++ List.replicate 84 0 ++ (d.k.raw x).drop 99 = d.k.bare.raw x) := Kep.raw_bare ok.good
  have HT2 : Hid (∀ y, bAt ((d.k.bare.next (d.k.num + 1)).raw y) 5 = 0) := fun y => by rw [Kep.raw_tries hgd2]; exact ht
  go_enter Tryd.func88, Tryd.ntmps88
  go_wp2_with (first | (go_at_call 86; refine (prog_worn w j 0 _ (ImgAt.of_row hW HL.out)).mono ?_; rintro _ w4 ⟨rfl, n4, e4⟩; rw [HN.out]; have hd4 : PdAt w4 g d := (by rw [e4]; exact h); have hW4 : Row w4 j (bcells (d.k.raw x)) 75 := (by rw [e4]; exact hW); have hg4 : Two g j w0 w4 := (by rw [e4]; exact hgr.trans (.ofB (below_drewN (Below.refl _ _) _))); clear e4 c5) | (go_at_call 92; refine (prog_dropKeys w4 j _ hW4 HL.out).mono ?_; rintro _ w5 ⟨rfl, hW5, hg5⟩; rw [HX.out] at hW5; have hd5 : PdAt w5 g d := Row.grown hd4 hg5 hgj; have hgr5 : Two g j w0 w5 := hg4.trans (.of2 hg5); clear hg5 hW4) | (go_at_call 87; refine (prog_writeD w0 w5 g j d d.k.bare x hd5 f ok hgd rfl (by omega) hW5 hc hgj hgr5).mono ?_; rintro _ w6 ⟨rfl, hd6, ⟨y, hW6⟩, hg6⟩; have c5 := cell_of_bcells hW6 5 (by rw [Kep.raw_length hgd2]; omega); rw [HT2.out] at c5))
  go_region
  go_wp2
  go_ret2
  exact ⟨rfl, (hd6.alloc _).drew, ⟨_, Kep.raw_length hgd2, (hW6.alloc _).drew⟩, Two.drewT (Two.allocT hg6 _)⟩
set_option maxRecDepth 100000 in
set_option maxHeartbeats 1000000 in
theorem prog_refuse_T (w0 w : World) (g j : Nat) (d : Dv) (x : UInt8) (h : PdAt w g d) (f : d.fit) (ok : d.sound) (hW : Row w j (bcells (d.k.raw x)) 75) (hgj : ¬ g = j) (hgr : Two g j w0 w) (ht : d.k.tries = 0) (hw : ¬ 4294967295 ≤ d.k.num) (hc : 0 ≤ d.cut ∧ d.cut < 101) :
    Calls Tryd.prog 88 #[.pointer (some ⟨g, 0, none⟩), .pointer (some ⟨j, 0, none⟩)] w fun r w' => r = lost ∧ PLost w0 g j (d.torn d.k.bare) w' := by
  have HL : Hid ((d.k.raw x).length = 100) := Kep.raw_length ok.good
  have HN : Hid (decide (numOf (d.k.raw x) = 4294967295) = false) := by show _ = _; rw [Kep.raw_num ok.good]; exact decide_eq_false (by omega)
  have HT : Hid (bAt (d.k.raw x) 5 = 0) := by show _ = _; rw [Kep.raw_tries ok.good, ht]
  have c5 := cell_of_bcells hW 5 (by rw [HL.out]; omega)
  rw [HT.out] at c5
  have hgd : d.k.bare.good := ⟨ok.good.n0, ok.good.n1, ok.good.t0, ok.good.t1, ok.good.pin, Nat.zero_le _, Nat.zero_le _, Nat.zero_le _, Nat.zero_le _⟩
  have HX : Hid ((d.k.raw x).take 15 ++ List.replicate 84 0 ++ (d.k.raw x).drop 99 = d.k.bare.raw x) := Kep.raw_bare ok.good
  go_enter Tryd.func88, Tryd.ntmps88
  go_wp2_with (first | (go_at_call 86; refine (prog_worn w j 0 _ (ImgAt.of_row hW HL.out)).mono ?_; rintro _ w4 ⟨rfl, n4, e4⟩; rw [HN.out]; have hd4 : PdAt w4 g d := (by rw [e4]; exact h); have hW4 : Row w4 j (bcells (d.k.raw x)) 75 := (by rw [e4]; exact hW); have hg4 : Two g j w0 w4 := (by rw [e4]; exact hgr.trans (.ofB (below_drewN (Below.refl _ _) _))); clear e4 c5) | (go_at_call 92; refine (prog_dropKeys w4 j _ hW4 HL.out).mono ?_; rintro _ w5 ⟨rfl, hW5, hg5⟩; rw [HX.out] at hW5; have hd5 : PdAt w5 g d := Row.grown hd4 hg5 hgj; have hgr5 : Two g j w0 w5 := hg4.trans (.of2 hg5); clear hg5 hW4) | (go_at_call 87; refine (prog_writeT w0 w5 g j d d.k.bare x hd5 f ok hgd rfl (by omega) hW5 hc hgj hgr5).mono ?_; rintro _ w6 ⟨hr6, hl6⟩; rw [lost_is] at hr6; subst hr6))
  exact ⟨rfl, rfl, hl6⟩
end Go.Proofs.YtaokemapkgggoaaDoor
