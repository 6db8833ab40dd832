import Derived.Test.YtaokemapkgggoaaDoorKb23
import Derived.Stop.BytesEq
namespace Go.Proofs.YtaokemapkgggoaaDoor
open Go.RowKit

set_option maxRecDepth 100000 in
set_option maxHeartbeats 1000000 in
theorem prog_unlock_wrong (w : World) (g j : Nat) (p : ByteArray) (hp : p.size < 1 ∨ 8 < p.size) :
    Calls Tryd.prog 79 #[.pointer (some ⟨g, 0, none⟩), .pointer (some ⟨j, 0, none⟩), .string p] w fun r w' => r = .returned (.tuple #[.int .u8 4, .string ⟨#[]⟩]) ∧ Below w.heap.size w w' := by
  go_enter Tryd.func79, Tryd.ntmps79
  go_wp2_with (first | (go_at_call 42; refine (prog_pinOf_no p w hp).mono ?_; rintro _ w1 ⟨rfl, hb1⟩) | (refine wpList_allocR rfl 87 rfl 9 (.int .u8 0) arr9b ?_; go_simp) | (refine wpList_storeMA rfl 87 _ _ rfl _ rfl rfl (zrow 9 (.int .u8 0)) rfl 87 _ 9 (.int .u8 0) arr9b (zrow_length _ _) (zrow_length _ _) (by rw [zrow_u8]; exact u8s_one _) ?_; intro w2 hr2 hb2; have hw2 := hb1.trans (hb2.mono hb1.size); clear hb1 hb2; go_simp))
  go_ret2
  exact ⟨rfl, hw2⟩

set_option maxRecDepth 100000 in
set_option maxHeartbeats 1000000 in
theorem prog_unlock_left (w : World) (g j : Nat) (d : Dv) (x : UInt8) (p : ByteArray) (ok : d.sound) (hp1 : 1 ≤ p.size) (hp2 : p.size ≤ 8) (hW : Row w j (bcells (d.k.raw x)) 75) (ht : d.k.tries = 0) :
    Calls Tryd.prog 79 #[.pointer (some ⟨g, 0, none⟩), .pointer (some ⟨j, 0, none⟩), .string p] w fun r w' => r = .returned (.tuple #[.int .u8 5, .string ⟨#[]⟩]) ∧ Below w.heap.size w w' := by
  have hcp := prog_pinOf_yes p w hp1 hp2
  have hsl : p.data.toList.length < 9 := by rw [Array.length_toList]; show p.size < 9; omega
  rw [field_cellsB 9 _ hsl (by omega)] at hcp
  have HL : Hid ((bcells (fieldB 9 p.data.toList)).length = 9) := by show _ = _; rw [bcells_length, fieldB_length 9 _ hsl]
  generalize fieldB 9 p.data.toList = pf at *
  have HT : Hid (bAt (d.k.raw x) 5 = 0) := by show _ = _; rw [Kep.raw_tries ok.good, ht]
  have HR : Hid ((d.k.raw x).length = 100) := Kep.raw_length ok.good
  go_enter Tryd.func79, Tryd.ntmps79
  go_wp2_with (first | (go_at_call 42; refine hcp.mono ?_; rintro _ w1 ⟨rfl, hb1⟩) | (refine wpList_allocR rfl 87 rfl 9 (.int .u8 0) arr9b ?_; go_simp) | (refine wpList_storeMA rfl 87 _ _ rfl _ rfl rfl (bcells pf) rfl 87 _ 9 (.int .u8 0) arr9b HL.out (zrow_length _ _) (bcells_one _) ?_; intro w2 hr2 hb2; have hw2 := hb1.trans (hb2.mono hb1.size); have c5 := cell_of_bcells (hW.below hw2 hW.lt) 5 (by rw [HR.out]; omega); rw [HT.out] at c5; clear hb1 hb2; go_simp))
  go_ret2
  exact ⟨rfl, hw2⟩

set_option maxRecDepth 100000 in
set_option maxHeartbeats 1000000 in
theorem prog_unlock_worn (w : World) (g j : Nat) (d : Dv) (x : UInt8) (p : ByteArray) (ok : d.sound) (hp1 : 1 ≤ p.size) (hp2 : p.size ≤ 8) (hW : Row w j (bcells (d.k.raw x)) 75) (ht : ¬ d.k.tries = 0) (hw : 4294967295 ≤ d.k.num) :
    Calls Tryd.prog 79 #[.pointer (some ⟨g, 0, none⟩), .pointer (some ⟨j, 0, none⟩), .string p] w fun r w' => r = .returned (.tuple #[.int .u8 7, .string ⟨#[]⟩]) ∧ Below w.heap.size w w' := by
  have hcp := prog_pinOf_yes p w hp1 hp2
  have hsl : p.data.toList.length < 9 := by rw [Array.length_toList]; show p.size < 9; omega
  rw [field_cellsB 9 _ hsl (by omega)] at hcp
  have HL : Hid ((bcells (fieldB 9 p.data.toList)).length = 9) := by show _ = _; rw [bcells_length, fieldB_length 9 _ hsl]
  generalize fieldB 9 p.data.toList = pf at *
  have HT : Hid (bAt (d.k.raw x) 5 = d.k.tries) := Kep.raw_tries ok.good
  have HR : Hid ((d.k.raw x).length = 100) := Kep.raw_length ok.good
  have hnn : d.k.num = 4294967295 := by have := ok.n1; omega
  have HN : Hid (decide (numOf (d.k.raw x) = 4294967295) = true) := by show _ = _; rw [Kep.raw_num ok.good, hnn]; rfl
  go_enter Tryd.func79, Tryd.ntmps79
  go_wp2_with (first | (go_at_call 42; refine hcp.mono ?_; rintro _ w1 ⟨rfl, hb1⟩) | (refine wpList_allocR rfl 87 rfl 9 (.int .u8 0) arr9b ?_; go_simp) | (refine wpList_storeMA rfl 87 _ _ rfl _ rfl rfl (bcells pf) rfl 87 _ 9 (.int .u8 0) arr9b HL.out (zrow_length _ _) (bcells_one _) ?_; intro w2 hr2 hb2; have hw2 := hb1.trans (hb2.mono hb1.size); have c5 := cell_of_bcells (hW.below hw2 hW.lt) 5 (by rw [HR.out]; omega); rw [HT.out] at c5; clear hb1 hb2; go_simp) | (go_at_call 86; refine (prog_worn w2 j 0 _ (ImgAt.of_row (hW.below hw2 hW.lt) HR.out)).mono ?_; rintro _ w4 ⟨rfl, n4, e4⟩; rw [HN.out]; have hw4 : Below w.heap.size w w4 := (by rw [e4]; exact below_drewN hw2 _); clear e4))
  go_ret2
  exact ⟨rfl, hw4⟩

theorem ends_pair {w0 : World} {g j : Nat} {E : Dv × Int × List UInt8} {D : Dv} {st : Int} {l : List UInt8} {r : Ending} {w' : World} (hE : E = (D, st, l)) (ho : D.off = false) (hr : r = .returned (.tuple #[.int .u8 st, .string (str l)])) (hl : PLeft w0 g j D w') : EndsBy w0 g j E (.tuple #[.int .u8 E.2.1, .string (str E.2.2)]) r w' := by
  subst hE
  exact .inl ⟨ho, hr, hl⟩
theorem ends_lost {w0 : World} {g j : Nat} {E : Dv × Int × List UInt8} {D : Dv} {st : Int} {l : List UInt8} {v : Value} {w' : World} (hE : E = (D, st, l)) (ho : D.off = true) (hl : PLost w0 g j D w') : EndsBy w0 g j E v lost w' := by
  subst hE
  exact .inr ⟨ho, rfl, hl⟩
theorem whole_not {c : Int} (h : whole c) : ¬ (0 ≤ c ∧ c < 101) := by unfold whole at h; omega

theorem lock_fit {d : Dv} (h : d.fit) : d.lock.fit := ⟨h.l0, h.l1, h.keeps, h.img⟩
theorem open_fit {d : Dv} (h : d.fit) : d.open.fit := ⟨h.l0, h.l1, h.keeps, h.img⟩

theorem fieldB_inj {n : Nat} {a b : List UInt8} (ha : a.length < n) (hb : b.length < n) (hn : n ≤ 256) (h : fieldB n a = fieldB n b) : a = b := by
  unfold fieldB at h
  obtain ⟨h1, h2⟩ := List.cons.inj h
  have e1 := congrArg (fun u : UInt8 => (u.toNat : Int)) h1
  simp only [b8_toNat] at e1
  have hl : a.length = b.length := by omega
  unfold padTo at h2
  exact (List.append_inj h2 hl).1
theorem pin_field_eq (p q : ByteArray) (hp : p.size ≤ 8) (hq : q.size ≤ 8) : (fieldB 9 (Bs q) == fieldB 9 (Bs p)) = decide (p = q) := by
  by_cases h : p = q
  · rw [h]; simp
  · rw [decide_eq_false h, beq_eq_false_iff_ne]
    intro e
    have := fieldB_inj (by rw [Bs_len]; omega) (by rw [Bs_len]; omega) (by omega) e
    exact h (ByteArray.ext (Array.toList_inj.1 this.symm))
theorem equal_pin (w : World) (a b : List UInt8) (ha : a.length = 9) (hb : b.length = 9) : (Op.equalIn 10000 87 (.agg (bcells a).toArray) (.agg (bcells b).toArray)).run Tryd.prog w = .ok (a == b) w :=
  run_equalIn_bytes w 9998 87 5 9 under_pin under_u8 (by intro w; kernel_rfl) a b ha hb

set_option maxRecDepth 100000 in
set_option maxHeartbeats 1000000 in
theorem prog_unlock_try (w0 w : World) (g j : Nat) (d : Dv) (x : UInt8) (p : ByteArray) (E : Dv × Int × List UInt8) (HE : Hid (E = d.unlockC p)) (h : PdAt w g d) (f : d.fit) (ok : d.sound) (hp1 : 1 ≤ p.size) (hp2 : p.size ≤ 8) (hW : Row w j (bcells (d.k.raw x)) 75) (hgj : ¬ g = j) (hgr : Two g j w0 w) (ht : ¬ d.k.tries = 0) (hw : ¬ 4294967295 ≤ d.k.num) (ho : d.off = false) (hc : whole d.cut) :
    Calls Tryd.prog 79 #[.pointer (some ⟨g, 0, none⟩), .pointer (some ⟨j, 0, none⟩), .string p] w fun r w' => EndsBy w0 g j E (.tuple #[.int .u8 E.2.1, .string (str E.2.2)]) r w' := by
  have hcp := prog_pinOf_yes p w hp1 hp2
  have hsl : p.data.toList.length < 9 := by rw [Array.length_toList]; show p.size < 9; omega
  rw [field_cellsB 9 _ hsl (by omega)] at hcp
  have HL : Hid ((bcells (fieldB 9 p.data.toList)).length = 9) := by show _ = _; rw [bcells_length, fieldB_length 9 _ hsl]
  have ht0 := ok.t0
  have ht1 := ok.t1
  have n0 := ok.n0
  have n1 := ok.n1
  have HT : Hid (bAt (d.k.raw x) 5 = d.k.tries) := Kep.raw_tries ok.good
  have HR : Hid ((d.k.raw x).length = 100) := Kep.raw_length ok.good
  have HN : Hid (decide (numOf (d.k.raw x) = 4294967295) = false) := by show _ = _; rw [Kep.raw_num ok.good]; exact decide_eq_false (by omega)
  have hgd : d.k.less.good := ⟨ok.good.n0, ok.good.n1, by simp only [Kep.less]; omega, by simp only [Kep.less]; omega, ok.good.pin, ok.good.k0, ok.good.k1, ok.good.k2, ok.good.k3⟩
  have HX : Hid ((bcells (d.k.raw x)).set 5 (.int .u8 (d.k.tries - 1)) = bcells (d.k.less.raw x)) := by show _ = _; rw [bcells_set _ _ _ (by omega) (by omega), Kep.raw_set5 ok.good]; rfl
  have HPQ : Hid ((fieldB 9 (Bs d.k.pin) == fieldB 9 p.data.toList) = decide (p = d.k.pin)) := pin_field_eq p d.k.pin hp2 ok.good.pin
  generalize fieldB 9 p.data.toList = pf at *
  go_enter Tryd.func79, Tryd.ntmps79
  go_wp2_with (first | (go_at_call 42; refine hcp.mono ?_; rintro _ w1 ⟨rfl, hb1⟩) | (refine wpList_allocR rfl 87 rfl 9 (.int .u8 0) arr9b ?_; go_simp) | (refine wpList_storeMA rfl 87 _ _ rfl _ rfl rfl (bcells pf) rfl 87 _ 9 (.int .u8 0) arr9b HL.out (zrow_length _ _) (bcells_one _) ?_; intro w2 hr2 hb2; have hs1 := hb1.size; have hw2' := hb1.trans (hb2.mono hb1.size); have c5 := cell_of_bcells (hW.below hw2' hW.lt) 5 (by rw [HR.out]; omega); rw [HT.out] at c5; clear hb1 hb2; go_simp) | (go_at_call 86; have tok := HN; clear HN; refine (prog_worn w2 j 0 _ (ImgAt.of_row (hW.below hw2' hW.lt) HR.out)).mono ?_; rintro _ w4 ⟨rfl, n4, e4⟩; rw [tok.out]; have hw4 : Below w.heap.size w w4 := (by rw [e4]; exact below_drewN hw2' _); have hr4 : Row w4 w1.heap.size (bcells pf) 87 := (by rw [e4]; exact hr2); clear e4 c5 hr2; have hd4 := h.below hw4 h.lt; have hW4 := hW.below hw4 hW.lt; have hg4 := hgr.trans (.ofB hw4); have c5 := cell_of_bcells hW4 5 (by rw [HR.out]; omega); rw [HT.out] at c5; have cu := hd4.cu f; have fz := Row.frozen hd4 203; have fj := hW4.frozen 5))
  have hjg : ¬ j = g := fun e => hgj e.symm
  have hjl : ¬ w1.heap.size = j := by have := hW.lt; omega
  have hgl : ¬ w1.heap.size = g := by have := h.lt; omega
  go_region
  have hd5 : PdAt (((w4.setCell ⟨g, 203, none⟩ (.bool false)).setCell ⟨j, 5, none⟩ (.int .u8 (d.k.tries - 1))).drew) g d.lock := Row.drew (Row.setCell_other (hd4.setu f false) _ _ hgj)
  have hW5 : Row (((w4.setCell ⟨g, 203, none⟩ (.bool false)).setCell ⟨j, 5, none⟩ (.int .u8 (d.k.tries - 1))).drew) j (bcells (d.k.less.raw x)) 75 := by
    have := (Row.setCell (Row.setCell_other hW4 ⟨g, 203, none⟩ (.bool false) hjg) 5 (.int .u8 (d.k.tries - 1))).drew
    rwa [HX.out] at this
  have hr5 : Row (((w4.setCell ⟨g, 203, none⟩ (.bool false)).setCell ⟨j, 5, none⟩ (.int .u8 (d.k.tries - 1))).drew) w1.heap.size (bcells pf) 87 := (Row.setCell_other (Row.setCell_other hr4 _ _ hgl) _ _ hjl).drew
  have hg5 : Two g j w0 (((w4.setCell ⟨g, 203, none⟩ (.bool false)).setCell ⟨j, 5, none⟩ (.int .u8 (d.k.tries - 1))).drew) := Two.drewT ((hg4.set1 _ _).set2 _ _)
  clear hd4 hW4 hr4 hg4 c5 cu fz fj
  generalize ((w4.setCell ⟨g, 203, none⟩ (.bool false)).setCell ⟨j, 5, none⟩ (.int .u8 (d.k.tries - 1))).drew = w5 at *
  have hwr := prog_writeF (fun W => Two g j w0 W ∧ Row W w1.heap.size (bcells pf) 87) w5 g j d.lock d.k.less x hd5 (lock_fit f) ok.lock hgd rfl (by show ¬ 4294967295 ≤ d.k.num; omega) hW5 hc hgj ⟨hg5, hr5⟩ (fun _ _ h1 h2 => ⟨h1.1.trans (.of1 h2), Row.grown h1.2 h2 hgl⟩) (fun _ _ h1 h2 => ⟨h1.1.trans (.of2 h2), Row.grown h1.2 h2 hjl⟩)
  clear hd5 hW5 hr5 hg5
  go_wp2_with (go_at_call 87; refine hwr.mono ?_; rintro _ w6 ⟨rfl, hd6, ⟨y, hW6⟩, hg6, hr6⟩; clear hwr)
  obtain ⟨d2, HD2⟩ : ∃ d2, Hid (d2 = d.lock.wrote d.k.less) := ⟨_, rfl⟩
  have f2 : d2.fit := by rw [HD2.out]; exact (lock_fit f).wrote ok.lock hgd ok.p0 (by show ¬ 4294967295 ≤ d.k.num; omega)
  have ok2 : d2.sound := by rw [HD2.out]; exact ok.lock.wrote (by show ¬ 4294967295 ≤ d.k.num; omega) hgd ok.p0
  have e2n : Hid (d2.k.num = d.k.num + 1) := by show _ = _; rw [HD2.out]; rfl
  have e2t : Hid (d2.k.tries = d.k.tries - 1) := by show _ = _; rw [HD2.out]; rfl
  have HP2 : Hid (fieldAt (d2.k.raw y) 6 9 = fieldB 9 (Bs d.k.pin)) := by show _ = _; rw [Kep.raw_pinAt ok2.good, HD2.out]; rfl
  have hW6' : Row w6 j (bcells (d2.k.raw y)) 75 := by rw [HD2.out]; exact hW6
  have hd6' : PdAt w6 g d2 := by rw [HD2.out]; exact hd6
  clear hW6 hd6
  obtain ⟨qf, HQ⟩ : ∃ qf, Hid (qf = fieldB 9 (Bs d.k.pin)) := ⟨_, rfl⟩
  rw [← HQ.out] at HP2 HPQ
  have hql : qf.length = 9 := by rw [HQ.out, fieldB_len 9 _ (by have := ok.p1; omega)]
  have hpl : pf.length = 9 := by rw [← bcells_length]; exact HL.out
  have hrq : w6.rangeAt j 6 (bcells qf) := by
    have := range_sub (ImgAt.of_row hW6' (Kep.raw_length ok2.good)).at_ 6 9
    rw [Nat.zero_add] at this
    rw [← HP2.out]
    exact this
  have heq : ∀ W : World, (Op.equalIn 10000 87 (.agg (bcells qf).toArray) (.agg (bcells pf).toArray)).run Tryd.prog W = .ok (decide (p = d.k.pin)) W := fun W => by rw [equal_pin W qf pf hql hpl, HPQ.out]
  clear HP2 HPQ HQ
  obtain ⟨q0, q1, q2, q3, q4, q5, q6, q7, q8, rfl⟩ := nine_of qf hql
  obtain ⟨p0, p1, p2, p3, p4, p5, p6, p7, p8, rfl⟩ := nine_of pf hpl
  have a0 : w6.cell? ⟨w1.heap.size, 0, none⟩ = some (.int .u8 p0.toNat) := hr6.cell
  have a1 : w6.cell? ⟨w1.heap.size, 1, none⟩ = some (.int .u8 p1.toNat) := hr6.cell
  have a2 : w6.cell? ⟨w1.heap.size, 2, none⟩ = some (.int .u8 p2.toNat) := hr6.cell
  have a3 : w6.cell? ⟨w1.heap.size, 3, none⟩ = some (.int .u8 p3.toNat) := hr6.cell
  have a4 : w6.cell? ⟨w1.heap.size, 4, none⟩ = some (.int .u8 p4.toNat) := hr6.cell
  have a5 : w6.cell? ⟨w1.heap.size, 5, none⟩ = some (.int .u8 p5.toNat) := hr6.cell
  have a6 : w6.cell? ⟨w1.heap.size, 6, none⟩ = some (.int .u8 p6.toNat) := hr6.cell
  have a7 : w6.cell? ⟨w1.heap.size, 7, none⟩ = some (.int .u8 p7.toNat) := hr6.cell
  have a8 : w6.cell? ⟨w1.heap.size, 8, none⟩ = some (.int .u8 p8.toNat) := hr6.cell
  have z0 : w6.cell? ⟨j, 6, none⟩ = some (.int .u8 q0.toNat) := hrq 0 _ rfl
  have z1 : w6.cell? ⟨j, 7, none⟩ = some (.int .u8 q1.toNat) := hrq 1 _ rfl
  have z2 : w6.cell? ⟨j, 8, none⟩ = some (.int .u8 q2.toNat) := hrq 2 _ rfl
  have z3 : w6.cell? ⟨j, 9, none⟩ = some (.int .u8 q3.toNat) := hrq 3 _ rfl
  have z4 : w6.cell? ⟨j, 10, none⟩ = some (.int .u8 q4.toNat) := hrq 4 _ rfl
  have z5 : w6.cell? ⟨j, 11, none⟩ = some (.int .u8 q5.toNat) := hrq 5 _ rfl
  have z6 : w6.cell? ⟨j, 12, none⟩ = some (.int .u8 q6.toNat) := hrq 6 _ rfl
  have z7 : w6.cell? ⟨j, 13, none⟩ = some (.int .u8 q7.toNat) := hrq 7 _ rfl
  have z8 : w6.cell? ⟨j, 14, none⟩ = some (.int .u8 q8.toNat) := hrq 8 _ rfl
  have heq' : ∀ W : World, (Op.equalIn 10000 87 (.agg #[.int .u8 q0.toNat, .int .u8 q1.toNat, .int .u8 q2.toNat, .int .u8 q3.toNat, .int .u8 q4.toNat, .int .u8 q5.toNat, .int .u8 q6.toNat, .int .u8 q7.toNat, .int .u8 q8.toNat]) (.agg #[.int .u8 p0.toNat, .int .u8 p1.toNat, .int .u8 p2.toNat, .int .u8 p3.toNat, .int .u8 p4.toNat, .int .u8 p5.toNat, .int .u8 p6.toNat, .int .u8 p7.toNat, .int .u8 p8.toNat])).run Tryd.prog W = .ok (decide (p = d.k.pin)) W := heq
  clear heq hrq hr6 hcp hql hpl hsl HL
  by_cases hq : p = d.k.pin
  · rw [decide_eq_true hq] at heq'
    have HQE : Hid (p = d.k.pin) := hq
    clear hq
    go_quiet ((go_at_call 59; exact Calls.quiet_of_same (prog_pin _ j 0)))
    have hd7 : PdAt (w6.drewN nq) g d2 := hd6'
    have hW7 : Row (w6.drewN nq) j (bcells (d2.k.raw y)) 75 := hW6'
    have hg7 : Two g j w0 (w6.drewN nq) := hg6.trans (.ofB (below_drewN (Below.refl _ _) _))
    clear hd6' hW6' hg6 a0 a1 a2 a3 a4 a5 a6 a7 a8 z0 z1 z2 z3 z4 z5 z6 z7 z8 heq'
    generalize w6.drewN nq = w7 at *
    have HU : Hid (E = if 4294967295 ≤ d.k.num + 1 then ((d.wrote d.k.less).lock, 7, []) else if 0 ≤ (d.wrote d.k.less).cut ∧ (d.wrote d.k.less).cut < 101 then ((d.wrote d.k.less).torn d.k.less.full, 0, []) else (((d.wrote d.k.less).wrote d.k.less.full).open, 0, [])) := by
      show _ = _
      rw [HE.out]
      unfold Dv.unlockC
      rw [if_neg (by omega), if_neg (by omega), if_neg (by omega), if_neg (whole_not hc), if_neg (fun e => e HQE.out)]
    have I7 : Hid (ImgAt w7 j 0 (d2.k.raw y)) := ImgAt.of_row hW7 (Kep.raw_length ok2.good)
    by_cases hw2 : 4294967295 ≤ d.k.num + 1
    · rw [if_pos hw2] at HU
      have HN2 : Hid (decide (numOf (d2.k.raw y) = 4294967295) = true) := by show _ = _; rw [Kep.raw_num ok2.good, e2n.out]; exact decide_eq_true (by omega)
      go_wp2_with (first | (go_at_call 86; refine (prog_worn w7 j 0 _ I7.out).mono ?_; rintro _ w8 ⟨rfl, n8, e8⟩; rw [HN2.out]; have hd8 : PdAt w8 g d2 := (by rw [e8]; exact hd7); have hW8 : Row w8 j (bcells (d2.k.raw y)) 75 := (by rw [e8]; exact hW7); have hg8 : Two g j w0 w8 := (by rw [e8]; exact hg7.trans (.ofB (below_drewN (Below.refl _ _) _))); clear e8))
      go_ret2
      rw [HD2.out] at hd8
      exact ends_pair HU.out ho rfl ⟨hd8, ⟨_, Kep.raw_length ok2.good, hW8⟩, hg8⟩
    · rw [if_neg hw2] at HU
      have HN2 : Hid (decide (numOf (d2.k.raw y) = 4294967295) = false) := by show _ = _; rw [Kep.raw_num ok2.good, e2n.out]; exact decide_eq_false (by omega)
      have hgd3 : d2.k.full.good := ⟨ok2.good.n0, ok2.good.n1, by simp only [Kep.full]; omega, by simp only [Kep.full]; omega, ok2.good.pin, ok2.good.k0, ok2.good.k1, ok2.good.k2, ok2.good.k3⟩
      have HX3 : Hid ((bcells (d2.k.raw y)).set 5 (.int .u8 5) = bcells (d2.k.full.raw y)) := by show _ = _; rw [bcells_set _ _ _ (by omega) (by omega), Kep.raw_set5 ok2.good]; rfl
      have hw3 : ¬ 4294967295 ≤ d2.k.num := by rw [e2n.out]; omega
      by_cases hc2 : 0 ≤ (d.wrote d.k.less).cut ∧ (d.wrote d.k.less).cut < 101
      · rw [if_pos hc2] at HU
        have hc3 : 0 ≤ d2.cut ∧ d2.cut < 101 := by rw [HD2.out]; exact hc2
        go_wp2_with (first | (go_at_call 86; refine (prog_worn w7 j 0 _ I7.out).mono ?_; rintro _ w8 ⟨rfl, n8, e8⟩; rw [HN2.out]; have hd8 : PdAt w8 g d2 := (by rw [e8]; exact hd7); have hW8 : Row w8 j (bcells (d2.k.raw y)) 75 := (by rw [e8]; exact hW7); have hg8 : Two g j w0 w8 := (by rw [e8]; exact hg7.trans (.ofB (below_drewN (Below.refl _ _) _))); clear e8; have c5 := cell_of_bcells hW8 5 (by rw [Kep.raw_length ok2.good]; omega); have fj := hW8.frozen 5) | (go_at_call 87; refine (prog_writeT w0 (w8.setCell ⟨j, 5, none⟩ (.int .u8 5)) g j d2 d2.k.full y (Row.setCell_other hd8 _ _ hgj) f2 ok2 hgd3 rfl (by omega) (by have := hW8.setCell 5 (.int .u8 5); rwa [HX3.out] at this) (by omega) hgj (hg8.set2 _ _)).mono ?_; rintro _ w9 ⟨hr9, hl9⟩; rw [lost_is] at hr9; subst hr9))
        rw [HD2.out] at hl9
        exact ⟨rfl, ends_lost HU.out rfl hl9⟩
      · rw [if_neg hc2] at HU
        have hc3 : whole d2.cut := by rw [HD2.out]; exact whole_of hc2 (ok.wrote (by omega) hgd ok.p0).c1
        have f3 : (d2.wrote d2.k.full).fit := f2.wrote ok2 hgd3 ok2.p0 hw3
        have hgd4 : (d2.k.full.next (d2.k.num + 1)).good := ⟨by have := ok2.n0; simp only [Kep.next]; omega, by have := ok2.n1; simp only [Kep.next]; omega, hgd3.t0, hgd3.t1, hgd3.pin, hgd3.k0, hgd3.k1, hgd3.k2, hgd3.k3⟩
        go_wp2_with (first | (go_at_call 86; refine (prog_worn w7 j 0 _ I7.out).mono ?_; rintro _ w8 ⟨rfl, n8, e8⟩; rw [HN2.out]; have hd8 : PdAt w8 g d2 := (by rw [e8]; exact hd7); have hW8 : Row w8 j (bcells (d2.k.raw y)) 75 := (by rw [e8]; exact hW7); have hg8 : Two g j w0 w8 := (by rw [e8]; exact hg7.trans (.ofB (below_drewN (Below.refl _ _) _))); clear e8; have c5 := cell_of_bcells hW8 5 (by rw [Kep.raw_length ok2.good]; omega); have fj := hW8.frozen 5) | (go_at_call 87; refine (prog_writeD w0 (w8.setCell ⟨j, 5, none⟩ (.int .u8 5)) g j d2 d2.k.full y (Row.setCell_other hd8 _ _ hgj) f2 ok2 hgd3 rfl (by omega) (by have := hW8.setCell 5 (.int .u8 5); rwa [HX3.out] at this) hc3 hgj (hg8.set2 _ _)).mono ?_; rintro _ w9 ⟨rfl, hd9, ⟨v, hW9⟩, hg9⟩; have cu := PdAt.cu hd9 f3; have fz := Row.frozen hd9 203))
        go_ret2
        have hfin := PdAt.setu hd9 f3 true
        rw [HD2.out] at hfin
        exact ends_pair HU.out ho rfl ⟨hfin, ⟨_, Kep.raw_length hgd4, Row.setCell_other hW9 _ _ hjg⟩, hg9.set1 _ _⟩
  · rw [decide_eq_false hq] at heq'
    have HQE : Hid (¬ p = d.k.pin) := hq
    clear hq
    go_quiet ((go_at_call 59; exact Calls.quiet_of_same (prog_pin _ j 0)))
    have hd7 : PdAt (w6.drewN nq) g d2 := hd6'
    have hW7 : Row (w6.drewN nq) j (bcells (d2.k.raw y)) 75 := hW6'
    have hg7 : Two g j w0 (w6.drewN nq) := hg6.trans (.ofB (below_drewN (Below.refl _ _) _))
    clear hd6' hW6' hg6 a0 a1 a2 a3 a4 a5 a6 a7 a8 z0 z1 z2 z3 z4 z5 z6 z7 z8 heq'
    generalize w6.drewN nq = w7 at *
    have HU : Hid (E = (if d.k.tries - 1 = 0 ∧ ¬ 4294967295 ≤ d.k.num + 1 then (d.wrote d.k.less).lock.put d.k.less.bare else (d.wrote d.k.less).lock, 3, [b8 (d.k.tries - 1)])) := by
      show _ = _
      rw [HE.out]
      unfold Dv.unlockC
      rw [if_neg (by omega), if_neg (by omega), if_neg (by omega), if_neg (whole_not hc), if_pos HQE.out]
    by_cases hz : d.k.tries - 1 = 0
    · by_cases hw2 : 4294967295 ≤ d.k.num + 1
      · rw [if_neg (fun e => e.2 hw2), hz] at HU
        go_wp2_with (go_at_call 88; refine (prog_refuse_B w0 w7 g j d2 y hd7 ok2 hW7 hg7 (by rw [e2t.out]; omega) (by rw [e2n.out]; omega)).mono ?_; rintro _ w8 ⟨rfl, hl8⟩)
        go_ret2
        rw [HD2.out] at hl8
        exact ends_pair HU.out ho rfl hl8
      · rw [if_pos ⟨hz, hw2⟩, hz] at HU
        have hw3 : ¬ 4294967295 ≤ d2.k.num := by rw [e2n.out]; omega
        by_cases hc2 : 0 ≤ (d.wrote d.k.less).lock.cut ∧ (d.wrote d.k.less).lock.cut < 101
        · have hc3 : 0 ≤ d2.cut ∧ d2.cut < 101 := by rw [HD2.out]; exact hc2
          have HU2 : Hid (E = ((d.wrote d.k.less).lock.torn d.k.less.bare, 3, [b8 0])) := by show _ = _; rw [HU.out]; unfold Dv.put; rw [if_pos hc2]
          go_wp2_with (go_at_call 88; refine (prog_refuse_T w0 w7 g j d2 y hd7 f2 ok2 hW7 hgj hg7 (by rw [e2t.out]; omega) hw3 hc3).mono ?_; rintro _ w8 ⟨hr8, hl8⟩; rw [lost_is] at hr8; subst hr8)
          rw [HD2.out] at hl8
          exact ⟨rfl, ends_lost HU2.out rfl hl8⟩
        · have hc3 : whole d2.cut := by rw [HD2.out]; exact whole_of hc2 (ok.wrote (by omega) hgd ok.p0).c1
          have HU2 : Hid (E = ((d.wrote d.k.less).lock.wrote d.k.less.bare, 3, [b8 0])) := by show _ = _; rw [HU.out]; unfold Dv.put; rw [if_neg hc2]
          go_wp2_with (go_at_call 88; refine (prog_refuse_C w0 w7 g j d2 y hd7 f2 ok2 hW7 hgj hg7 (by rw [e2t.out]; omega) hw3 hc3).mono ?_; rintro _ w8 ⟨rfl, hl8⟩)
          go_ret2
          rw [HD2.out] at hl8
          exact ends_pair HU2.out ho rfl hl8
    · rw [if_neg (fun e => hz e.1)] at HU
      go_wp2_with (go_at_call 88; refine (prog_refuse_A w0 w7 g j d2 y hd7 ok2 hW7 hg7 (by rw [e2t.out]; omega)).mono ?_; rintro _ w8 ⟨rfl, hl8⟩)
      go_ret2
      rw [e2t.out]
      rw [HD2.out] at hl8
      exact ends_pair HU.out ho rfl hl8

set_option maxRecDepth 100000 in
set_option maxHeartbeats 1000000 in
theorem prog_unlock_torn (w0 w : World) (g j : Nat) (d : Dv) (x : UInt8) (p : ByteArray) (h : PdAt w g d) (f : d.fit) (ok : d.sound) (hp1 : 1 ≤ p.size) (hp2 : p.size ≤ 8) (hW : Row w j (bcells (d.k.raw x)) 75) (hgj : ¬ g = j) (hgr : Two g j w0 w) (ht : ¬ d.k.tries = 0) (hw : ¬ 4294967295 ≤ d.k.num) (hc : 0 ≤ d.cut ∧ d.cut < 101) :
    Calls Tryd.prog 79 #[.pointer (some ⟨g, 0, none⟩), .pointer (some ⟨j, 0, none⟩), .string p] w fun r w' => r = lost ∧ PLost w0 g j (d.torn d.k.less) w' := by
  have hcp := prog_pinOf_yes p w hp1 hp2
  have hsl : p.data.toList.length < 9 := by rw [Array.length_toList]; show p.size < 9; omega
  rw [field_cellsB 9 _ hsl (by omega)] at hcp
  have HL : Hid ((bcells (fieldB 9 p.data.toList)).length = 9) := by show _ = _; rw [bcells_length, fieldB_length 9 _ hsl]
  have ht0 := ok.t0
  have ht1 := ok.t1
  have n0 := ok.n0
  have n1 := ok.n1
  have HT : Hid (bAt (d.k.raw x) 5 = d.k.tries) := Kep.raw_tries ok.good
  have HR : Hid ((d.k.raw x).length = 100) := Kep.raw_length ok.good
  have HN : Hid (decide (numOf (d.k.raw x) = 4294967295) = false) := by show _ = _; rw [Kep.raw_num ok.good]; exact decide_eq_false (by omega)
  have hgd : d.k.less.good := ⟨ok.good.n0, ok.good.n1, by simp only [Kep.less]; omega, by simp only [Kep.less]; omega, ok.good.pin, ok.good.k0, ok.good.k1, ok.good.k2, ok.good.k3⟩
  have HX : Hid ((bcells (d.k.raw x)).set 5 (.int .u8 (d.k.tries - 1)) = bcells (d.k.less.raw x)) := by show _ = _; rw [bcells_set _ _ _ (by omega) (by omega), Kep.raw_set5 ok.good]; rfl
  generalize fieldB 9 p.data.toList = pf at *
  go_enter Tryd.func79, Tryd.ntmps79
  go_wp2_with (first | (go_at_call 42; refine hcp.mono ?_; rintro _ w1 ⟨rfl, hb1⟩) | (refine wpList_allocR rfl 87 rfl 9 (.int .u8 0) arr9b ?_; go_simp) | (refine wpList_storeMA rfl 87 _ _ rfl _ rfl rfl (bcells pf) rfl 87 _ 9 (.int .u8 0) arr9b HL.out (zrow_length _ _) (bcells_one _) ?_; intro w2 hr2 hb2; have hs1 := hb1.size; have hw2' := hb1.trans (hb2.mono hb1.size); have c5 := cell_of_bcells (hW.below hw2' hW.lt) 5 (by rw [HR.out]; omega); rw [HT.out] at c5; clear hb1 hb2; go_simp) | (go_at_call 86; have tok := HN; clear HN; refine (prog_worn w2 j 0 _ (ImgAt.of_row (hW.below hw2' hW.lt) HR.out)).mono ?_; rintro _ w4 ⟨rfl, n4, e4⟩; rw [tok.out]; have hw4 : Below w.heap.size w w4 := (by rw [e4]; exact below_drewN hw2' _); have hr4 : Row w4 w1.heap.size (bcells pf) 87 := (by rw [e4]; exact hr2); clear e4 c5 hr2; have hd4 := h.below hw4 h.lt; have hW4 := hW.below hw4 hW.lt; have hg4 := hgr.trans (.ofB hw4); have c5 := cell_of_bcells hW4 5 (by rw [HR.out]; omega); rw [HT.out] at c5; have cu := hd4.cu f; have fz := Row.frozen hd4 203; have fj := hW4.frozen 5))
  have hjg : ¬ j = g := fun e => hgj e.symm
  have hjl : ¬ w1.heap.size = j := by have := hW.lt; omega
  have hgl : ¬ w1.heap.size = g := by have := h.lt; omega
  go_region
  have hd5 : PdAt (((w4.setCell ⟨g, 203, none⟩ (.bool false)).setCell ⟨j, 5, none⟩ (.int .u8 (d.k.tries - 1))).drew) g d.lock := Row.drew (Row.setCell_other (hd4.setu f false) _ _ hgj)
  have hW5 : Row (((w4.setCell ⟨g, 203, none⟩ (.bool false)).setCell ⟨j, 5, none⟩ (.int .u8 (d.k.tries - 1))).drew) j (bcells (d.k.less.raw x)) 75 := by
    have := (Row.setCell (Row.setCell_other hW4 ⟨g, 203, none⟩ (.bool false) hjg) 5 (.int .u8 (d.k.tries - 1))).drew
    rwa [HX.out] at this
  have hg5 : Two g j w0 (((w4.setCell ⟨g, 203, none⟩ (.bool false)).setCell ⟨j, 5, none⟩ (.int .u8 (d.k.tries - 1))).drew) := Two.drewT ((hg4.set1 _ _).set2 _ _)
  clear hd4 hW4 hr4 hg4 c5 cu fz fj
  generalize ((w4.setCell ⟨g, 203, none⟩ (.bool false)).setCell ⟨j, 5, none⟩ (.int .u8 (d.k.tries - 1))).drew = w5 at *
  go_wp2_with (go_at_call 87; refine (prog_writeT w0 w5 g j d.lock d.k.less x hd5 (lock_fit f) ok.lock hgd rfl (by show ¬ 4294967295 ≤ d.k.num; omega) hW5 hc hgj hg5).mono ?_; rintro _ w6 ⟨hr6, hl6⟩; rw [lost_is] at hr6; subst hr6)
  exact ⟨rfl, rfl, hl6⟩

/-- a PIN is tried, by the document's device -/
theorem prog_unlockC (w0 w : World) (g j : Nat) (d : Dv) (x : UInt8) (p : ByteArray) (E : Dv × Int × List UInt8) (HE : Hid (E = d.commandC 1 p)) (h : PdAt w g d) (f : d.fit) (ok : d.sound) (ho : d.off = false) (hW : Row w j (bcells (d.k.raw x)) 75) (hgj : ¬ g = j) (hgr : Two g j w0 w) :
    Calls Tryd.prog 79 #[.pointer (some ⟨g, 0, none⟩), .pointer (some ⟨j, 0, none⟩), .string p] w fun r w' => EndsBy w0 g j E (.tuple #[.int .u8 E.2.1, .string (str E.2.2)]) r w' := by
  have e0 : d.commandC 1 p = d.unlockC p := by unfold Dv.commandC; rw [if_pos rfl]
  have e : E = d.unlockC p := HE.out.trans e0
  have hq : ∀ w', Below w.heap.size w w' → PLeft w0 g j d w' := fun w' hb => ⟨h.below hb h.lt, ⟨_, Kep.raw_length ok.good, hW.below hb hW.lt⟩, hgr.trans (.ofB hb)⟩
  by_cases h1 : p.size < 1 ∨ 8 < p.size
  · have e1 : d.unlockC p = (d, 4, []) := by unfold Dv.unlockC; rw [if_pos h1]
    refine (prog_unlock_wrong w g j p h1).mono ?_
    rintro r w' ⟨rfl, hb⟩
    exact ends_pair (e.trans e1) ho rfl (hq w' hb)
  · by_cases ht : d.k.tries = 0
    · have e1 : d.unlockC p = (d, 5, []) := by unfold Dv.unlockC; rw [if_neg h1, if_pos ht]
      refine (prog_unlock_left w g j d x p ok (by omega) (by omega) hW ht).mono ?_
      rintro r w' ⟨rfl, hb⟩
      exact ends_pair (e.trans e1) ho rfl (hq w' hb)
    · by_cases hw : 4294967295 ≤ d.k.num
      · have e1 : d.unlockC p = (d, 7, []) := by unfold Dv.unlockC; rw [if_neg h1, if_neg ht, if_pos hw]
        refine (prog_unlock_worn w g j d x p ok (by omega) (by omega) hW ht hw).mono ?_
        rintro r w' ⟨rfl, hb⟩
        exact ends_pair (e.trans e1) ho rfl (hq w' hb)
      · by_cases hc : 0 ≤ d.cut ∧ d.cut < 101
        · have e1 : d.unlockC p = (d.torn d.k.less, 0, []) := by unfold Dv.unlockC; rw [if_neg h1, if_neg ht, if_neg hw, if_pos hc]
          refine (prog_unlock_torn w0 w g j d x p h f ok (by omega) (by omega) hW hgj hgr ht hw hc).mono ?_
          rintro r w' ⟨rfl, hl⟩
          exact ends_lost (e.trans e1) rfl hl
        · exact prog_unlock_try w0 w g j d x p E e h f ok (by omega) (by omega) hW hgj hgr ht hw ho (whole_of hc ok.c1)
end Go.Proofs.YtaokemapkgggoaaDoor
