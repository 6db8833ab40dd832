import Derived.Test.YtaokemapkgggoaaGreatDoorFd47
import Derived.Test.YtaokemapkgggoaaGreatDoorFd16
import Derived.Deep.RegionWith
namespace Go.Proofs.YtaokemapkgggoaaGreatDoor
open Go.RowKit

/-- a device of a flash, ahead of its boot -/
def Dv.of (sm : Nat) (h0 h1 : ByteArray) : Dv := ⟨sm, h0, h1, zeroK, 0, false, false, 0, ⟨#[]⟩⟩
theorem Dv.bootC_cases (d : Dv) : d.bootC.2 = 0 ∨ d.bootC.2 = 2 := by
  unfold Dv.bootC
  split
  · exact .inr rfl
  split <;> exact .inl rfl

theorem ref_Open_size (sm : Nat) (f : ByteArray) (w : World) (hf : ¬ f.size = 200) :
    Calls Tryz.prog 26 #[.pointer (some ⟨sm, 0, none⟩), .string f] w fun r w' => r = .returned (.tuple #[.pointer none, .int .i64 2]) ∧ w' = w := by
  have hf' : ¬ (f.size : Int) = 200 := by omega
  go_enter Tryz.func26, Tryz.ntmps26
  go_wp2
  go_ret2
  exact ⟨rfl, rfl⟩

set_option maxRecDepth 100000 in
set_option maxHeartbeats 1000000 in
theorem ref_Open (sm : Nat) (f : ByteArray) (w : World) (hf : f.size = 200) (E : Dv × Int) (HE : Hid (E = (Dv.of sm (f.extract 0 100) (f.extract 100 200)).bootC)) :
    Calls Tryz.prog 26 #[.pointer (some ⟨sm, 0, none⟩), .string f] w fun r w' => ((E.2 = 0 ∧ ∃ g, w.heap.size ≤ g ∧ r = .returned (.tuple #[.pointer (some ⟨g, 0, none⟩), .int .i64 0]) ∧ DvAt w' g E.1) ∨ (¬ E.2 = 0 ∧ r = .returned (.tuple #[.pointer none, .int .i64 2]))) ∧ Below w.heap.size w w' := by
  have hf' : (f.size : Int) = 200 := by omega
  have hfn : f.size = 200 := hf
  obtain ⟨h0, H0⟩ : ∃ h, Hid (h = f.extract 0 100) := ⟨_, rfl⟩
  obtain ⟨h1, H1⟩ : ∃ h, Hid (h = f.extract 100 200) := ⟨_, rfl⟩
  have hs0 : h0.size = 100 := by rw [H0.out, ByteArray.size_extract]; omega
  have hs1 : h1.size = 100 := by rw [H1.out, ByteArray.size_extract]; omega
  rw [← H0.out, ← H1.out] at HE
  have e0 : f.extract 0 100 = h0 := H0.out.symm
  have e1 : f.extract 100 200 = h1 := H1.out.symm
  clear H0 H1
  have hE := (Dv.of sm h0 h1).bootC_cases
  rw [← HE.out] at hE
  have hboot := fun (W : World) (g : Nat) (hW : DvAt W g (Dv.of sm h0 h1)) => ref_Boot W g _ hW hs0 hs1
  rw [← HE.out] at hboot
  clear HE
  obtain ⟨E1, E2⟩ := E
  simp only at hE hboot ⊢
  go_enter Tryz.func26, Tryz.ntmps26
  go_wp2
  have hr1 : Row (w.alloc (.cells ([.pointer (some ⟨sm, 0, none⟩), .string ⟨#[]⟩, .string ⟨#[]⟩, .int .i64 0, .int .i64 0, .string ⟨#[]⟩, .string ⟨#[]⟩, .string ⟨#[]⟩, .string ⟨#[]⟩, .string ⟨#[]⟩, .int .i64 0, .bool false, .bool false, .int .i64 0, .string ⟨#[]⟩] : List Value).toArray 103)) w.heap.size [.pointer (some ⟨sm, 0, none⟩), .string ⟨#[]⟩, .string ⟨#[]⟩, .int .i64 0, .int .i64 0, .string ⟨#[]⟩, .string ⟨#[]⟩, .string ⟨#[]⟩, .string ⟨#[]⟩, .string ⟨#[]⟩, .int .i64 0, .bool false, .bool false, .int .i64 0, .string ⟨#[]⟩] 103 := Row.made w _ _
  have hb1 : Below w.heap.size w (w.alloc (.cells ([.pointer (some ⟨sm, 0, none⟩), .string ⟨#[]⟩, .string ⟨#[]⟩, .int .i64 0, .int .i64 0, .string ⟨#[]⟩, .string ⟨#[]⟩, .string ⟨#[]⟩, .string ⟨#[]⟩, .string ⟨#[]⟩, .int .i64 0, .bool false, .bool false, .int .i64 0, .string ⟨#[]⟩] : List Value).toArray 103)) := (Below.refl _ _).alloc (Nat.le_refl _) _
  generalize w.alloc (.cells ([.pointer (some ⟨sm, 0, none⟩), .string ⟨#[]⟩, .string ⟨#[]⟩, .int .i64 0, .int .i64 0, .string ⟨#[]⟩, .string ⟨#[]⟩, .string ⟨#[]⟩, .string ⟨#[]⟩, .string ⟨#[]⟩, .int .i64 0, .bool false, .bool false, .int .i64 0, .string ⟨#[]⟩] : List Value).toArray 103) = wa at *
  have ca1 : wa.cell? ⟨w.heap.size, 1, none⟩ = some (.string ⟨#[]⟩) := hr1.cell.trans rfl
  have fa := hr1.frozen
  go_region
  have hr2 := (hr1.setCell 1 (.string h0)).drew
  have hb2 := (hb1.setCell (p := ⟨w.heap.size, 1, none⟩) (Nat.le_refl _) (.string h0)).drew
  generalize (wa.setCell ⟨w.heap.size, 1, none⟩ (.string h0)).drew = wb at *
  clear ca1 fa hr1 hb1
  have ca2 : wb.cell? ⟨w.heap.size, 2, none⟩ = some (.string ⟨#[]⟩) := hr2.cell.trans rfl
  have fa := hr2.frozen
  go_wp2
  go_region
  have hr3 : DvAt ((wb.setCell ⟨w.heap.size, 2, none⟩ (.string h1)).drew) w.heap.size (Dv.of sm h0 h1) := (hr2.setCell 2 (.string h1)).drew
  have hb3 := (hb2.setCell (p := ⟨w.heap.size, 2, none⟩) (Nat.le_refl _) (.string h1)).drew
  generalize (wb.setCell ⟨w.heap.size, 2, none⟩ (.string h1)).drew = wc at *
  clear ca2 fa hr2 hb2
  rcases hE with rfl | rfl
  · go_wp2_with (go_at_call 36; refine (hboot wc w.heap.size hr3).mono ?_; rintro _ wd ⟨rfl, hd, hg⟩)
    go_ret2
    exact ⟨⟨_, Nat.le_refl _, rfl, hd⟩, below_of_grown hb3 (Nat.le_refl _) hg⟩
  · go_wp2_with (go_at_call 36; refine (hboot wc w.heap.size hr3).mono ?_; rintro _ wd ⟨rfl, hd, hg⟩)
    go_ret2
    exact ⟨.inr ⟨by omega, rfl⟩, below_of_grown hb3 (Nat.le_refl _) hg⟩
end Go.Proofs.YtaokemapkgggoaaGreatDoor

namespace Go.Proofs.YtaokemapkgggoaaGreatDoor
open Go.RowKit

theorem bAt_get (l : List UInt8) (i : Nat) (h : i < l.length) : bAt l i = (l[i].toNat : Int) := by
  unfold bAt bytesI
  rw [List.getD_eq_getElem?_getD, List.getElem?_map, List.getElem?_eq_getElem h]
  rfl
theorem get_b8 (l : List UInt8) (i : Nat) (h : i < l.length) : l[i] = b8 (bAt l i) := by rw [bAt_get l i h, b8_of]

/-- a field, by its first byte and the zeros behind -/
theorem field_is (n : Nat) (f : List UInt8) (m : Nat) (hl : f.length = n) (hm : bAt f 0 = m) (hmn : m < n) (hr : restZero f (1 + m)) : f = fieldB n ((f.drop 1).take m) := by
  match f, hl with
  | [], hl =>
    simp only [List.length_nil] at hl
    omega
  | a :: r, hl =>
    have hrl : r.length = n - 1 := by simp at hl; omega
    have hml : (r.take m).length = m := by rw [List.length_take]; omega
    unfold fieldB
    simp only [List.drop_succ_cons, List.drop_zero]
    rw [hml]
    congr 1
    · have := get_b8 (a :: r) 0 (by simp)
      rw [hm] at this
      exact this
    · unfold padTo
      rw [hml]
      conv => lhs; rw [← List.take_append_drop m r]
      congr 1
      apply List.ext_getElem
      · rw [List.length_drop, List.length_replicate]; omega
      · intro i h1 h2
        rw [List.getElem_replicate, List.getElem_drop]
        have hi : 1 + m + i < (a :: r).length := by rw [List.length_drop] at h1; simp; omega
        have h0 := hr (1 + m + i) (by omega) hi
        have hg := get_b8 (a :: r) (1 + m + i) hi
        rw [h0] at hg
        have e : (a :: r)[1 + m + i] = r[m + i]'(by rw [List.length_drop] at h1; omega) := by
          simp only [show 1 + m + i = (m + i) + 1 by omega, List.getElem_cons_succ]
        rw [← e, hg]
        rfl

theorem split_img (l : List UInt8) (hl : l.length = 100) : l = raw (l[0]) ((l.drop 1).take 4) (l[5]) (fieldAt l 6 9) (fieldAt l 15 21) (fieldAt l 36 21) (fieldAt l 57 21) (fieldAt l 78 21) (l[99]) := by
  have e0 : l = l[0] :: l.drop 1 := by rw [← List.drop_eq_getElem_cons (by omega), List.drop_zero]
  have c : ∀ a n, a + n ≤ 100 → l.drop a = fieldAt l a n ++ l.drop (a + n) := by
    intro a n _
    unfold fieldAt
    rw [show l.drop (a + n) = (l.drop a).drop n by rw [List.drop_drop], List.take_append_drop]
  have e1 := c 1 4 (by omega)
  have e5 : l.drop 5 = l[5] :: l.drop 6 := List.drop_eq_getElem_cons (by omega)
  have e6 := c 6 9 (by omega)
  have e15 := c 15 21 (by omega)
  have e36 := c 36 21 (by omega)
  have e57 := c 57 21 (by omega)
  have e78 := c 78 21 (by omega)
  have e99 : l.drop 99 = [l[99]] := by rw [List.drop_eq_getElem_cons (by omega), List.drop_of_length_le (by omega)]
  unfold raw
  conv => lhs; rw [e0, e1]
  rw [show 1 + 4 = 5 from rfl, e5, e6, show 6 + 9 = 15 from rfl, e15, show 15 + 21 = 36 from rfl, e36, show 36 + 21 = 57 from rfl, e57, show 57 + 21 = 78 from rfl, e78, show 78 + 21 = 99 from rfl, e99]
  rfl

theorem four_bytes (l : List UInt8) (hl : l.length = 100) : (l.drop 1).take 4 = toBytes (four (numOf l)) := by
  have h1 := bAt_B l 1
  have h2 := bAt_B l 2
  have h3 := bAt_B l 3
  have h4 := bAt_B l 4
  have e : (l.drop 1).take 4 = [l[1], l[2], l[3], l[4]] := by
    rw [List.drop_eq_getElem_cons (by omega), List.drop_eq_getElem_cons (by omega), List.drop_eq_getElem_cons (by omega), List.drop_eq_getElem_cons (by omega)]
    rfl
  rw [e, get_b8 l 1 (by omega), get_b8 l 2 (by omega), get_b8 l 3 (by omega), get_b8 l 4 (by omega)]
  unfold four numOf word4 toBytes
  simp only [List.map_cons, List.map_nil]
  rw [toBytes_b8 (by omega) (by omega), toBytes_b8 (by omega) (by omega), toBytes_b8 (by omega) (by omega), toBytes_b8 (by omega) (by omega)]
  congr 1
  · congr 1; omega
  congr 1
  · congr 1; omega
  congr 1
  · congr 1; omega
  congr 1
  congr 1; omega

theorem keyL_bs (l : List UInt8) (o : Nat) : Bs (keyL l o) = (l.drop (o + 1)).take (bAt l o).toNat := str_list _
theorem field_key (l : List UInt8) (o n m : Nat) (hl : o + n ≤ l.length) (hn : 0 < n) (hm : bAt (fieldAt l o n) 0 = m) (hmn : m < n) (hr : restZero (fieldAt l o n) (1 + m)) : bAt l o = m ∧ fieldAt l o n = fieldB n ((l.drop (o + 1)).take m) := by
  have hfl := fieldAt_length l o n hl
  have e0 : bAt (fieldAt l o n) 0 = bAt l o := by
    rw [bAt_get _ 0 (by omega), bAt_get l o (by omega)]
    simp [fieldAt]
  refine ⟨by rw [← e0]; exact hm, ?_⟩
  rw [field_is n _ m hfl hm hmn hr]
  congr 1
  unfold fieldAt
  rw [List.drop_take, List.drop_drop, List.take_take, Nat.min_eq_left (by omega), Nat.add_comm]

/-- what the program calls right, and what the document reads -/
theorem right_read (l : List UInt8) (h : RightL l) : readOk l := by
  have hl := h.len
  obtain ⟨m, hm, hmn, hr⟩ := h.pin
  obtain ⟨hp, hpf⟩ := field_key l 6 9 m (by omega) (by omega) hm hmn hr
  have key : ∀ i, i < 4 → ∃ q : Nat, bAt l (15 + 21 * i) = q ∧ q < 21 ∧ fieldAt l (15 + 21 * i) 21 = fieldB 21 ((l.drop (15 + 21 * i + 1)).take q) := by
    intro i hi
    obtain ⟨q, hq, hqn, hqr⟩ := h.keys i hi
    obtain ⟨e1, e2⟩ := field_key l (15 + 21 * i) 21 q (by omega) (by omega) hq hqn hqr
    exact ⟨q, e1, hqn, e2⟩
  obtain ⟨q0, a0, b0, f0⟩ := key 0 (by omega)
  obtain ⟨q1, a1, b1, f1⟩ := key 1 (by omega)
  obtain ⟨q2, a2, b2, f2⟩ := key 2 (by omega)
  obtain ⟨q3, a3, b3, f3⟩ := key 3 (by omega)
  simp only [Nat.mul_zero, Nat.add_zero, Nat.reduceMul, Nat.reduceAdd] at a0 a1 a2 a3 f0 f1 f2 f3
  have hb6 := h.pin0
  have ht := h.tries
  have hw := numOf_w l
  unfold isW at hw
  have hb5 := bAt_B l 5
  have hpz : (readK l).pin.size = m := by
    show (str ((l.drop 7).take (bAt l 6).toNat)).size = m
    rw [str_size, hp, List.length_take, List.length_drop]
    omega
  have hkz : ∀ o q : Nat, o < 80 → bAt l o = q → q < 21 → (keyL l o).size = q := by
    intro o q ho e hq
    unfold keyL
    rw [str_size, e, List.length_take, List.length_drop]
    omega
  have hg : (readK l).good := ⟨hw.1, hw.2, hb5.1, ht, by rw [hpz]; omega, by show (keyL l 15).size ≤ 20; rw [hkz 15 q0 (by omega) a0 b0]; omega, by show (keyL l 36).size ≤ 20; rw [hkz 36 q1 (by omega) a1 b1]; omega, by show (keyL l 57).size ≤ 20; rw [hkz 57 q2 (by omega) a2 b2]; omega, by show (keyL l 78).size ≤ 20; rw [hkz 78 q3 (by omega) a3 b3]; omega⟩
  refine ⟨⟨h.num, ht, by omega, by omega⟩, ⟨by omega, by omega, by omega, by omega⟩, ?_⟩
  have hraw : ∀ x, l[99] = x → l = (readK l).raw x := by
    intro x hx
    conv => lhs; rw [split_img l hl]
    unfold Kep.raw
    have e0 : l[0] = 167 := by
      have := get_b8 l 0 (by omega)
      rw [h.mark] at this
      exact this
    rw [e0, four_bytes l hl, get_b8 l 5 (by omega), hpf, f0, f1, f2, f3, hx]
    have p1 : Bs (readK l).pin = (l.drop (6 + 1)).take m := by
      show Bs (str ((l.drop 7).take (bAt l 6).toNat)) = _
      rw [hp]
      exact str_list _
    have k0 : Bs (readK l).k0 = (l.drop (15 + 1)).take q0 := by show Bs (keyL l 15) = _; rw [keyL_bs, a0]; rfl
    have k1 : Bs (readK l).k1 = (l.drop (36 + 1)).take q1 := by show Bs (keyL l 36) = _; rw [keyL_bs, a1]; rfl
    have k2 : Bs (readK l).k2 = (l.drop (57 + 1)).take q2 := by show Bs (keyL l 57) = _; rw [keyL_bs, a2]; rfl
    have k3 : Bs (readK l).k3 = (l.drop (78 + 1)).take q3 := by show Bs (keyL l 78) = _; rw [keyL_bs, a3]; rfl
    rw [p1, k0, k1, k2, k3]
    rfl
  have h99 : l[99] = b8 (1 + sumB (readK l).body) := by
    have e := get_b8 l 99 (by omega)
    have hs := h.sum
    have hb : (l.drop 1).take 98 = (readK l).body := by
      conv => lhs; rw [hraw _ rfl]
      rw [Kep.raw, raw_mid (four_len _) hg.lp hg.l0 hg.l1 hg.l2 hg.l3, ← Kep.body_eq hg]
    rw [e, hs, chkOf, hb]
    unfold b8
    rw [Int.emod_emod_of_dvd _ (Int.dvd_refl 256)]
  rw [Kep.img_raw hg]
  exact (hraw _ h99).symm
theorem read_right (l : List UInt8) (hl : l.length = 100) (h : readOk l) : RightL l := by
  obtain ⟨⟨h0, h5, h6, h6'⟩, ⟨k0, k1, k2, k3⟩, hi⟩ := h
  have hw := numOf_w l
  unfold isW at hw
  have hb5 := bAt_B l 5
  have hpz : (readK l).pin.size = (bAt l 6).toNat := by
    show (str ((l.drop 7).take (bAt l 6).toNat)).size = _
    rw [str_size, List.length_take, List.length_drop]
    omega
  have hkz : ∀ o : Nat, o < 80 → bAt l o ≤ 20 → (keyL l o).size ≤ 20 := by
    intro o ho e
    unfold keyL
    rw [str_size, List.length_take, List.length_drop]
    omega
  have hg : (readK l).good := ⟨hw.1, hw.2, hb5.1, h5, by rw [hpz]; omega, hkz 15 (by omega) k0, hkz 36 (by omega) k1, hkz 57 (by omega) k2, hkz 78 (by omega) k3⟩
  have := Kep.img_right hg (by show 1 ≤ numOf l; omega) (by rw [hpz]; omega)
  rw [hi] at this
  exact this
end Go.Proofs.YtaokemapkgggoaaGreatDoor

namespace Go.Proofs.YtaokemapkgggoaaGreatDoor
open Go.RowKit

/-- a new device, by its PIN -/
def Dv.fresh (sm : Nat) (p : ByteArray) : Dv :=
  let k : Kep := ⟨1, 5, p, ⟨#[]⟩, ⟨#[]⟩, ⟨#[]⟩, ⟨#[]⟩⟩
  ⟨sm, str k.img, str (padTo 100 []), k, 0, false, false, -1, ⟨#[]⟩⟩

set_option maxRecDepth 100000 in
set_option maxHeartbeats 1000000 in
theorem ref_New_no (sm : Nat) (p : ByteArray) (w : World) (hp : p.size < 1 ∨ 8 < p.size) (hs : p.size < 10000000) :
    Calls Tryz.prog 22 #[.pointer (some ⟨sm, 0, none⟩), .string p] w fun r w' => r = .returned (.tuple #[.pointer none, .int .i64 1]) ∧ w' = w := by
  by_cases h1a : p.size < 1
  · have h1' : (p.size : Int) < 1 := by omega
    go_enter Tryz.func22, Tryz.ntmps22
    go_wp2
    go_ret2
    exact ⟨rfl, rfl⟩
  · have h1' : ¬ (p.size : Int) < 1 := by omega
    have h1'' : (8 : Int) < p.size := by omega
    go_enter Tryz.func22, Tryz.ntmps22
    go_wp2
    go_ret2
    exact ⟨rfl, rfl⟩

set_option maxRecDepth 100000 in
set_option maxHeartbeats 1000000 in
theorem ref_New_yes (sm : Nat) (p : ByteArray) (w : World) (h1 : 1 ≤ p.size) (h2 : p.size ≤ 8) :
    Calls Tryz.prog 22 #[.pointer (some ⟨sm, 0, none⟩), .string p] w fun r w' => ∃ g, w.heap.size ≤ g ∧ r = .returned (.tuple #[.pointer (some ⟨g, 0, none⟩), .int .i64 0]) ∧ DvAt w' g (Dv.fresh sm p) ∧ Below w.heap.size w w' := by
  have q0 : ¬ (p.size : Int) < 1 := by omega
  have q1 : ¬ (8 : Int) < p.size := by omega
  obtain ⟨im, HIM⟩ : ∃ im, Hid (im = str (Kep.img ⟨1, 5, p, ⟨#[]⟩, ⟨#[]⟩, ⟨#[]⟩, ⟨#[]⟩⟩)) := ⟨_, rfl⟩
  obtain ⟨z, HZ⟩ : ∃ z, Hid (z = str (padTo 100 [])) := ⟨_, rfl⟩
  have hkf : Kep.fair ⟨1, 5, p, ⟨#[]⟩, ⟨#[]⟩, ⟨#[]⟩, ⟨#[]⟩⟩ := ⟨by simp only; omega, by simp only; omega, by simp only; omega, by simp only; omega, by simp only; omega, Nat.succ_pos _, Nat.succ_pos _, Nat.succ_pos _, Nat.succ_pos _⟩
  go_enter Tryz.func22, Tryz.ntmps22
  go_wp2
  go_region_with (first | (go_at_call 24; refine (ref_Image ⟨1, 5, p, ⟨#[]⟩, ⟨#[]⟩, ⟨#[]⟩, ⟨#[]⟩⟩ _ hkf).mono ?_; rintro _ w2 ⟨rfl, hb2⟩; rw [← HIM.out]; have hr2 : Row w2 w.heap.size [.pointer (some ⟨sm, 0, none⟩), .string ⟨#[]⟩, .string ⟨#[]⟩, .int .i64 1, .int .i64 5, .string p, .string ⟨#[]⟩, .string ⟨#[]⟩, .string ⟨#[]⟩, .string ⟨#[]⟩, .int .i64 0, .bool false, .bool false, .int .i64 (-1), .string ⟨#[]⟩] 103 := (Row.made w _ _).drew.below hb2 (Row.made w [.pointer (some ⟨sm, 0, none⟩), .string ⟨#[]⟩, .string ⟨#[]⟩, .int .i64 1, .int .i64 5, .string p, .string ⟨#[]⟩, .string ⟨#[]⟩, .string ⟨#[]⟩, .string ⟨#[]⟩, .int .i64 0, .bool false, .bool false, .int .i64 (-1), .string ⟨#[]⟩] 103).lt; have hw2 : Below w.heap.size w w2 := (((Below.refl _ _).alloc (Nat.le_refl _) _).drew).trans (hb2.mono (Nat.le_of_lt (Row.made w [.pointer (some ⟨sm, 0, none⟩), .string ⟨#[]⟩, .string ⟨#[]⟩, .int .i64 1, .int .i64 5, .string p, .string ⟨#[]⟩, .string ⟨#[]⟩, .string ⟨#[]⟩, .string ⟨#[]⟩, .int .i64 0, .bool false, .bool false, .int .i64 (-1), .string ⟨#[]⟩] 103).lt)); have c1 : w2.cell? ⟨w.heap.size, 1, none⟩ = some (.string ⟨#[]⟩) := hr2.cell; have c2 : w2.cell? ⟨w.heap.size, 2, none⟩ = some (.string ⟨#[]⟩) := hr2.cell; have fz := hr2.frozen; clear hb2))
  go_wp2
  go_region_with (first | (go_at_call 52; refine (ref_filled ⟨#[]⟩ 100 _ (by omega) (Nat.succ_pos _)).mono ?_; rintro _ w9 ⟨rfl, e9⟩; rw [e9]; clear e9 w9; rw [show str (padTo 100 (⟨#[]⟩ : ByteArray).data.toList) = z from HZ.out.symm]))
  go_wp2
  go_ret2
  refine ⟨w.heap.size, Nat.le_refl _, rfl, ?_, ?_⟩
  · have hfin := ((hr2.setCell 1 (.string im)).drew.setCell 2 (.string z))
    rw [HIM.out, HZ.out] at hfin
    rw [HIM.out, HZ.out]
    exact hfin
  · exact ((hw2.setCell (Nat.le_refl _) _).drew).setCell (Nat.le_refl _) _
end Go.Proofs.YtaokemapkgggoaaGreatDoor
