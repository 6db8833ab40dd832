import Derived.Test.YtaokemapkgggoaaGreatDoorFd35
import Derived.Test.YtaokemapkgggoaaGreatDoorFd12
import Derived.Deep.RegionWith
import Derived.Test.YtaokemapkgggoaaGreatDoorFd27
import Derived.Test.YtaokemapkgggoaaGreatDoorFd34
namespace Go.Proofs.YtaokemapkgggoaaGreatDoor
open Go.RowKit

def Dv.base (d : Dv) : Dv := { d with unl := false, inn := ⟨#[]⟩, cut := -1, off := true }
/-- a device is booted -/
def Dv.bootC (d : Dv) : Dv × Int :=
  if ¬ readOk (Bs d.h0) ∧ ¬ readOk (Bs d.h1) then (d.base, 2)
  else if ¬ readOk (Bs d.h0) ∨ (readOk (Bs d.h1) ∧ (readK (Bs d.h0)).num < (readK (Bs d.h1)).num) then ({ d.base with off := false, k := readK (Bs d.h1), wh := 1 }, 0)
  else ({ d.base with off := false, k := readK (Bs d.h0), wh := 0 }, 0)

end Go.Proofs.YtaokemapkgggoaaGreatDoor

namespace Go.Proofs.YtaokemapkgggoaaGreatDoor
open Go.RowKit

/-- a device of a flash, ahead of its boot -/
def Dv.of (sm : Nat) (h0 h1 : ByteArray) : Dv := ⟨sm, h0, h1, zeroK, 0, false, false, 0, ⟨#[]⟩⟩
end Go.Proofs.YtaokemapkgggoaaGreatDoor

namespace Go.Proofs.YtaokemapkgggoaaGreatDoor
open Go.RowKit

theorem bAt_get (l : List UInt8) (i : Nat) (h : i < l.length) : bAt l i = (l[i].toNat : Int) := by
  unfold bAt bytesI
  rw [List.getD_eq_getElem?_getD, List.getElem?_map, List.getElem?_eq_getElem h]
  rfl
theorem get_b8 (l : List UInt8) (i : Nat) (h : i < l.length) : l[i] = b8 (bAt l i) := by rw [bAt_get l i h, b8_of]

/-- a field, by its first byte and the zeros behind -/
theorem field_is (n : Nat) (f : List UInt8) (m : Nat) (hl : f.length = n) (hm : bAt f 0 = m) (hmn : m < n) (hr : restZero f (1 + m)) : f = fieldB n ((f.drop 1).take m) := by
  match f, hl with
  | [], hl =>
    simp only [List.length_nil] at hl
    omega
  | a :: r, hl =>
    have hrl : r.length = n - 1 := by simp at hl; omega
    have hml : (r.take m).length = m := by rw [List.length_take]; omega
    unfold fieldB
    simp only [List.drop_succ_cons, List.drop_zero]
    rw [hml]
    congr 1
    · have := get_b8 (a :: r) 0 (by simp)
      rw [hm] at this
      exact this
    · unfold padTo
      rw [hml]
      conv => lhs; rw [← List.take_append_drop m r]
      congr 1
      apply List.ext_getElem
      · rw [List.length_drop, List.length_replicate]; omega
      · intro i h1 h2
        rw [List.getElem_replicate, List.getElem_drop]
        have hi : 1 + m + i < (a :: r).length := by rw [List.length_drop] at h1; simp; omega
        have h0 := hr (1 + m + i) (by omega) hi
        have hg := get_b8 (a :: r) (1 + m + i) hi
        rw [h0] at hg
        have e : (a :: r)[1 + m + i] = r[m + i]'(by rw [List.length_drop] at h1; omega) := by
          simp only [show 1 + m + i = (m + i) + 1 by omega, List.getElem_cons_succ]
        rw [← e, hg]
        rfl

theorem split_img (l : List UInt8) (hl : l.length = 100) : l = raw (l[0]) ((l.drop 1).take 4) (l[5]) (fieldAt l 6 9) (fieldAt l 15 21) (fieldAt l 36 21) (fieldAt l 57 21) (fieldAt l 78 21) (l[99]) := by
  have e0 : l = l[0] :: l.drop 1 := by rw [← List.drop_eq_getElem_cons (by omega), List.drop_zero]
  have c : ∀ a n, a + n ≤ 100 → l.drop a = fieldAt l a n ++ l.drop (a + n) := by
    intro a n _
    unfold fieldAt
    rw [show l.drop (a + n) = (l.drop a).drop n by rw [List.drop_drop], List.take_append_drop]
  have e1 := c 1 4 (by omega)
  have e5 : l.drop 5 = l[5] :: l.drop 6 := List.drop_eq_getElem_cons (by omega)
  have e6 := c 6 9 (by omega)
  have e15 := c 15 21 (by omega)
  have e36 := c 36 21 (by omega)
  have e57 := c 57 21 (by omega)
  have e78 := c 78 21 (by omega)
  have e99 : l.drop 99 = [l[99]] := by rw [List.drop_eq_getElem_cons (by omega), List.drop_of_length_le (by omega)]
  unfold raw
  conv => lhs; rw [e0, e1]
  rw [show 1 + 4 = 5 from rfl, e5, e6, show 6 + 9 = 15 from rfl, e15, show 15 + 21 = 36 from rfl, e36, show 36 + 21 = 57 from rfl, e57, show 57 + 21 = 78 from rfl, e78, show 78 + 21 = 99 from rfl, e99]
  rfl

theorem four_bytes (l : List UInt8) (hl : l.length = 100) : (l.drop 1).take 4 = toBytes (four (numOf l)) := by
  have h1 := bAt_B l 1
  have h2 := bAt_B l 2
  have h3 := bAt_B l 3
  have h4 := bAt_B l 4
  have e : (l.drop 1).take 4 = [l[1], l[2], l[3], l[4]] := by
    rw [List.drop_eq_getElem_cons (by omega), List.drop_eq_getElem_cons (by omega), List.drop_eq_getElem_cons (by omega), List.drop_eq_getElem_cons (by omega)]
    rfl
  rw [e, get_b8 l 1 (by omega), get_b8 l 2 (by omega), get_b8 l 3 (by omega), get_b8 l 4 (by omega)]
  unfold four numOf word4 toBytes
  simp only [List.map_cons, List.map_nil]
  rw [toBytes_b8 (by omega) (by omega), toBytes_b8 (by omega) (by omega), toBytes_b8 (by omega) (by omega), toBytes_b8 (by omega) (by omega)]
  congr 1
  · congr 1; omega
  congr 1
  · congr 1; omega
  congr 1
  · congr 1; omega
  congr 1
  congr 1; omega

theorem keyL_bs (l : List UInt8) (o : Nat) : Bs (keyL l o) = (l.drop (o + 1)).take (bAt l o).toNat := str_list _
theorem field_key (l : List UInt8) (o n m : Nat) (hl : o + n ≤ l.length) (hn : 0 < n) (hm : bAt (fieldAt l o n) 0 = m) (hmn : m < n) (hr : restZero (fieldAt l o n) (1 + m)) : bAt l o = m ∧ fieldAt l o n = fieldB n ((l.drop (o + 1)).take m) := by
  have hfl := fieldAt_length l o n hl
  have e0 : bAt (fieldAt l o n) 0 = bAt l o := by
    rw [bAt_get _ 0 (by omega), bAt_get l o (by omega)]
    simp [fieldAt]
  refine ⟨by rw [← e0]; exact hm, ?_⟩
  rw [field_is n _ m hfl hm hmn hr]
  congr 1
  unfold fieldAt
  rw [List.drop_take, List.drop_drop, List.take_take, Nat.min_eq_left (by omega), Nat.add_comm]

/-- what the program calls right, and what the document reads -/
theorem right_read (l : List UInt8) (h : RightL l) : readOk l := by
  have hl := h.len
  obtain ⟨m, hm, hmn, hr⟩ := h.pin
  obtain ⟨hp, hpf⟩ := field_key l 6 9 m (by omega) (by omega) hm hmn hr
  have key : ∀ i, i < 4 → ∃ q : Nat, bAt l (15 + 21 * i) = q ∧ q < 21 ∧ fieldAt l (15 + 21 * i) 21 = fieldB 21 ((l.drop (15 + 21 * i + 1)).take q) := by
    intro i hi
    obtain ⟨q, hq, hqn, hqr⟩ := h.keys i hi
    obtain ⟨e1, e2⟩ := field_key l (15 + 21 * i) 21 q (by omega) (by omega) hq hqn hqr
    exact ⟨q, e1, hqn, e2⟩
  obtain ⟨q0, a0, b0, f0⟩ := key 0 (by omega)
  obtain ⟨q1, a1, b1, f1⟩ := key 1 (by omega)
  obtain ⟨q2, a2, b2, f2⟩ := key 2 (by omega)
  obtain ⟨q3, a3, b3, f3⟩ := key 3 (by omega)
  simp only [Nat.mul_zero, Nat.add_zero, Nat.reduceMul, Nat.reduceAdd] at a0 a1 a2 a3 f0 f1 f2 f3
  have hb6 := h.pin0
  have ht := h.tries
  have hw := numOf_w l
  unfold isW at hw
  have hb5 := bAt_B l 5
  have hpz : (readK l).pin.size = m := by
    show (str ((l.drop 7).take (bAt l 6).toNat)).size = m
    rw [str_size, hp, List.length_take, List.length_drop]
    omega
  have hkz : ∀ o q : Nat, o < 80 → bAt l o = q → q < 21 → (keyL l o).size = q := by
    intro o q ho e hq
    unfold keyL
    rw [str_size, e, List.length_take, List.length_drop]
    omega
  have hg : (readK l).good := ⟨hw.1, hw.2, hb5.1, ht, by rw [hpz]; omega, by show (keyL l 15).size ≤ 20; rw [hkz 15 q0 (by omega) a0 b0]; omega, by show (keyL l 36).size ≤ 20; rw [hkz 36 q1 (by omega) a1 b1]; omega, by show (keyL l 57).size ≤ 20; rw [hkz 57 q2 (by omega) a2 b2]; omega, by show (keyL l 78).size ≤ 20; rw [hkz 78 q3 (by omega) a3 b3]; omega⟩
  refine ⟨⟨h.num, ht, by omega, by omega⟩, ⟨by omega, by omega, by omega, by omega⟩, ?_⟩
  have hraw : ∀ x, l[99] = x → l = (readK l).raw x := by
    intro x hx
    conv => lhs; rw [split_img l hl]
    unfold Kep.raw
    have e0 : l[0] = 167 := by
      have := get_b8 l 0 (by omega)
      rw [h.mark] at this
      exact this
    rw [e0, four_bytes l hl, get_b8 l 5 (by omega), hpf, f0, f1, f2, f3, hx]
    have p1 : Bs (readK l).pin = (l.drop (6 + 1)).take m := by
      show Bs (str ((l.drop 7).take (bAt l 6).toNat)) = _
      rw [hp]
      exact str_list _
    have k0 : Bs (readK l).k0 = (l.drop (15 + 1)).take q0 := by show Bs (keyL l 15) = _; rw [keyL_bs, a0]; rfl
    have k1 : Bs (readK l).k1 = (l.drop (36 + 1)).take q1 := by show Bs (keyL l 36) = _; rw [keyL_bs, a1]; rfl
    have k2 : Bs (readK l).k2 = (l.drop (57 + 1)).take q2 := by show Bs (keyL l 57) = _; rw [keyL_bs, a2]; rfl
    have k3 : Bs (readK l).k3 = (l.drop (78 + 1)).take q3 := by show Bs (keyL l 78) = _; rw [keyL_bs, a3]; rfl
    rw [p1, k0, k1, k2, k3]
    rfl
  have h99 : l[99] = b8 (1 + sumB (readK l).body) := by
    have e := get_b8 l 99 (by omega)
    have hs := h.sum
    have hb : (l.drop 1).take 98 = (readK l).body := by
      conv => lhs; rw [hraw _ rfl]
      rw [Kep.raw, raw_mid (four_len _) hg.lp hg.l0 hg.l1 hg.l2 hg.l3, ← Kep.body_eq hg]
    rw [e, hs, chkOf, hb]
    unfold b8
    rw [Int.emod_emod_of_dvd _ (Int.dvd_refl 256)]
  rw [Kep.img_raw hg]
  exact (hraw _ h99).symm
theorem read_right (l : List UInt8) (hl : l.length = 100) (h : readOk l) : RightL l := by
  obtain ⟨⟨h0, h5, h6, h6'⟩, ⟨k0, k1, k2, k3⟩, hi⟩ := h
  have hw := numOf_w l
  unfold isW at hw
  have hb5 := bAt_B l 5
  have hpz : (readK l).pin.size = (bAt l 6).toNat := by
    show (str ((l.drop 7).take (bAt l 6).toNat)).size = _
    rw [str_size, List.length_take, List.length_drop]
    omega
  have hkz : ∀ o : Nat, o < 80 → bAt l o ≤ 20 → (keyL l o).size ≤ 20 := by
    intro o ho e
    unfold keyL
    rw [str_size, List.length_take, List.length_drop]
    omega
  have hg : (readK l).good := ⟨hw.1, hw.2, hb5.1, h5, by rw [hpz]; omega, hkz 15 (by omega) k0, hkz 36 (by omega) k1, hkz 57 (by omega) k2, hkz 78 (by omega) k3⟩
  have := Kep.img_right hg (by show 1 ≤ numOf l; omega) (by rw [hpz]; omega)
  rw [hi] at this
  exact this
end Go.Proofs.YtaokemapkgggoaaGreatDoor

namespace Go.Proofs.YtaokemapkgggoaaGreatDoor
open Go.RowKit

/-- a new device, by its PIN -/
def Dv.fresh (sm : Nat) (p : ByteArray) : Dv :=
  let k : Kep := ⟨1, 5, p, ⟨#[]⟩, ⟨#[]⟩, ⟨#[]⟩, ⟨#[]⟩⟩
  ⟨sm, str k.img, str (padTo 100 []), k, 0, false, false, -1, ⟨#[]⟩⟩

set_option maxRecDepth 100000 in
set_option maxHeartbeats 1000000 in
theorem ref_New_no (sm : Nat) (p : ByteArray) (w : World) (hp : p.size < 1 ∨ 8 < p.size) (hs : p.size < 10000000) :
    Calls Tryz.prog 22 #[.pointer (some ⟨sm, 0, none⟩), .string p] w fun r w' => r = .returned (.tuple #[.pointer none, .int .i64 1]) ∧ w' = w := by
  by_cases h1a : p.size < 1
  · have h1' : (p.size : Int) < 1 := by omega
    go_enter Tryz.func22, Tryz.ntmps22
    go_wp2
    go_ret2
    exact ⟨rfl, rfl⟩
  · have h1' : ¬ (p.size : Int) < 1 := by omega
    have h1'' : (8 : Int) < p.size := by omega
    go_enter Tryz.func22, Tryz.ntmps22
    go_wp2
    go_ret2
    exact ⟨rfl, rfl⟩

set_option maxRecDepth 100000 in
set_option maxHeartbeats 1000000 in
theorem ref_New_yes (sm : Nat) (p : ByteArray) (w : World) (h1 : 1 ≤ p.size) (h2 : p.size ≤ 8) :
    Calls Tryz.prog 22 #[.pointer (some ⟨sm, 0, none⟩), .string p] w fun r w' => ∃ g, w.heap.size ≤ g ∧ r = .returned (.tuple #[.pointer (some ⟨g, 0, none⟩), .int .i64 0]) ∧ DvAt w' g (Dv.fresh sm p) ∧ Below w.heap.size w w' := by
  have q0 : ¬ (p.size : Int) < 1 := by omega
  have q1 : ¬ (8 : Int) < p.size := by omega
  obtain ⟨im, HIM⟩ : ∃ im, Hid (im = str (Kep.img ⟨1, 5, p, ⟨#[]⟩, ⟨#[]⟩, ⟨#[]⟩, ⟨#[]⟩⟩)) := ⟨_, rfl⟩
  obtain ⟨z, HZ⟩ : ∃ z, Hid (z = str (padTo 100 [])) := ⟨_, rfl⟩
  have hkf : Kep.fair ⟨1, 5, p, ⟨#[]⟩, ⟨#[]⟩, ⟨#[]⟩, ⟨#[]⟩⟩ := ⟨by simp only; omega, by simp only; omega, by simp only; omega, by simp only; omega, by simp only; omega, Nat.succ_pos _, Nat.succ_pos _, Nat.succ_pos _, Nat.succ_pos _⟩
  go_enter Tryz.func22, Tryz.ntmps22
  go_wp2
  go_region_with (first | (go_at_call 24; refine (ref_Image ⟨1, 5, p, ⟨#[]⟩, ⟨#[]⟩, ⟨#[]⟩, ⟨#[]⟩⟩ _ hkf).mono ?_; rintro _ w2 ⟨rfl, hb2⟩; rw [← HIM.out]; have hr2 : Row w2 w.heap.size [.pointer (some ⟨sm, 0, none⟩), .string ⟨#[]⟩, .string ⟨#[]⟩, .int .i64 1, .int .i64 5, .string p, .string ⟨#[]⟩, .string ⟨#[]⟩, .string ⟨#[]⟩, .string ⟨#[]⟩, .int .i64 0, .bool false, .bool false, .int .i64 (-1), .string ⟨#[]⟩] 103 := (Row.made w _ _).drew.below hb2 (Row.made w [.pointer (some ⟨sm, 0, none⟩), .string ⟨#[]⟩, .string ⟨#[]⟩, .int .i64 1, .int .i64 5, .string p, .string ⟨#[]⟩, .string ⟨#[]⟩, .string ⟨#[]⟩, .string ⟨#[]⟩, .int .i64 0, .bool false, .bool false, .int .i64 (-1), .string ⟨#[]⟩] 103).lt; have hw2 : Below w.heap.size w w2 := (((Below.refl _ _).alloc (Nat.le_refl _) _).drew).trans (hb2.mono (Nat.le_of_lt (Row.made w [.pointer (some ⟨sm, 0, none⟩), .string ⟨#[]⟩, .string ⟨#[]⟩, .int .i64 1, .int .i64 5, .string p, .string ⟨#[]⟩, .string ⟨#[]⟩, .string ⟨#[]⟩, .string ⟨#[]⟩, .int .i64 0, .bool false, .bool false, .int .i64 (-1), .string ⟨#[]⟩] 103).lt)); have c1 : w2.cell? ⟨w.heap.size, 1, none⟩ = some (.string ⟨#[]⟩) := hr2.cell; have c2 : w2.cell? ⟨w.heap.size, 2, none⟩ = some (.string ⟨#[]⟩) := hr2.cell; have fz := hr2.frozen; clear hb2))
  go_wp2
  go_region_with (first | (go_at_call 52; refine (ref_filled ⟨#[]⟩ 100 _ (by omega) (Nat.succ_pos _)).mono ?_; rintro _ w9 ⟨rfl, e9⟩; rw [e9]; clear e9 w9; rw [show str (padTo 100 (⟨#[]⟩ : ByteArray).data.toList) = z from HZ.out.symm]))
  go_wp2
  go_ret2
  refine ⟨w.heap.size, Nat.le_refl _, rfl, ?_, ?_⟩
  · have hfin := ((hr2.setCell 1 (.string im)).drew.setCell 2 (.string z))
    rw [HIM.out, HZ.out] at hfin
    rw [HIM.out, HZ.out]
    exact hfin
  · exact ((hw2.setCell (Nat.le_refl _) _).drew).setCell (Nat.le_refl _) _
end Go.Proofs.YtaokemapkgggoaaGreatDoor

namespace Go.Proofs.YtaokemapkgggoaaGreatDoor
open Go.RowKit

theorem field_take (n : Nat) (f : List UInt8) (b : List UInt8) (h : f = fieldB n b) (m : Nat) (hm : m = b.length) : (f.drop 1).take m = b := by
  subst hm
  rw [h]
  unfold fieldB padTo
  simp
theorem fieldAt_drop (l : List UInt8) (o n m : Nat) (hm : m < n) : ((fieldAt l o n).drop 1).take m = (l.drop (o + 1)).take m := by
  unfold fieldAt
  rw [List.drop_take, List.drop_drop, List.take_take, Nat.min_eq_left (by omega), Nat.add_comm]
theorem key_field {l : List UInt8} {o : Nat} {b : ByteArray} (h0 : bAt l o = b.size) (hb : b.size ≤ 20) (h : fieldAt l o 21 = fieldB 21 (Bs b)) : keyL l o = b := by
  unfold keyL
  rw [h0, Int.toNat_natCast, ← fieldAt_drop l o 21 _ (by omega), field_take 21 _ (Bs b) h b.size (by rw [Bs_len])]
  exact list_str b
theorem keyAt0 (l : List UInt8) (o n : Nat) (hl : o + n ≤ l.length) (hn : 0 < n) : bAt (fieldAt l o n) 0 = bAt l o := by
  have hfl := fieldAt_length l o n hl
  rw [bAt_get _ 0 (by omega), bAt_get l o (by omega)]
  simp [fieldAt]

/-- an image that is written is read as it was -/
theorem read_raw {k : Kep} (h : k.good) (x : UInt8) : readK (k.raw x) = k := by
  have hl := Kep.raw_length h (x := x)
  have hp : (str (((k.raw x).drop 7).take (bAt (k.raw x) 6).toNat)) = k.pin := by
    have hpf := Kep.raw_pinAt h (x := x)
    have h0 : bAt (k.raw x) 6 = k.pin.size := Kep.raw_pin0 h
    have hps := h.pin
    rw [h0, Int.toNat_natCast, ← fieldAt_drop (k.raw x) 6 9 _ (by omega), field_take 9 _ (Bs k.pin) hpf k.pin.size (by rw [Bs_len])]
    exact list_str _
  have hk : ∀ i, i < 4 → keyL (k.raw x) (15 + 21 * i) = k.key i := by
    intro i hi
    have hf := Kep.raw_keyAt h (x := x) i hi
    have hs : (k.key i).size ≤ 20 := h.key i
    have h0 : bAt (k.raw x) (15 + 21 * i) = (k.key i).size := by
      rw [← keyAt0 (k.raw x) (15 + 21 * i) 21 (by omega) (by omega), hf, field_first 21 _ (by omega)]
    exact key_field h0 hs hf
  have k0 := hk 0 (by omega)
  have k1 := hk 1 (by omega)
  have k2 := hk 2 (by omega)
  have k3 := hk 3 (by omega)
  simp only [Nat.mul_zero, Nat.add_zero, Nat.reduceMul, Nat.reduceAdd] at k0 k1 k2 k3
  unfold readK
  rw [Kep.raw_num h, Kep.raw_tries h, hp, k0, k1, k2, k3]
  rfl
theorem read_img {k : Kep} (h : k.good) : readK k.img = k := by rw [Kep.img_raw h]; exact read_raw h _
theorem readOk_img {k : Kep} (h : k.good) (hn : 1 ≤ k.num) (hp : 1 ≤ k.pin.size) : readOk k.img := right_read _ (Kep.img_right h hn hp)
theorem readOk_head {l : List UInt8} (h : readOk l) : l.head? = some 167 := by
  rw [← h.2.2]
  rfl

/-- the flash holds what the device keeps -/
structure Dv.stands (d : Dv) : Prop where
  wh : d.wh = 0 ∨ d.wh = 1
  right : readOk (Bs (if d.wh = 0 then d.h0 else d.h1))
  same : readK (Bs (if d.wh = 0 then d.h0 else d.h1)) = d.k
  oth : ¬ readOk (Bs (if d.wh = 0 then d.h1 else d.h0)) ∨ (if d.wh = 0 then ¬ d.k.num < (readK (Bs d.h1)).num else (readK (Bs d.h0)).num < d.k.num)

theorem Dv.stands.boot {d : Dv} (h : d.stands) : d.bootC = ({ d.base with off := false }, 0) := by
  obtain ⟨hw, hr, hs, ho⟩ := h
  obtain ⟨sm, h0, h1, k, wh, unl, off, cut, inn⟩ := d
  simp only at hw hr hs ho
  unfold Dv.bootC
  rcases hw with rfl | rfl
  · simp only [if_pos] at hr hs ho
    simp only
    rw [if_neg (fun e => e.1 hr), if_neg, hs]
    · rfl
    · rintro (e | e)
      · exact e hr
      · rcases ho with ho | ho
        · exact ho e.1
        · rw [hs] at e; exact ho e.2
  · rw [if_neg (by omega)] at hr hs ho
    rw [if_neg (by omega)] at ho
    simp only
    rw [if_neg (fun e => e.2 hr), if_pos, hs]
    · rfl
    · rcases ho with ho | ho
      · exact .inl ho
      · exact .inr ⟨hr, by rw [hs]; exact ho⟩
theorem Dv.stands.wrote {d : Dv} {k : Kep} (h : d.stands) (S : d.sound) (hw : ¬ 4294967295 ≤ d.k.num) (hk : k.good) (hp : 1 ≤ k.pin.size) : (d.wrote k).stands := by
  have hg := S.next hw hk
  have n0 := S.n0
  have hr : readOk (k.next (d.k.num + 1)).img := readOk_img hg (by simp only [Kep.next]; omega) hp
  have hi : readK (k.next (d.k.num + 1)).img = k.next (d.k.num + 1) := read_img hg
  obtain ⟨hwh, hr0, hs0, ho⟩ := h
  have eb : Bs (str (k.next (d.k.num + 1)).img) = (k.next (d.k.num + 1)).img := str_list _
  rcases hwh with e | e
  · rw [if_pos e] at hr0 hs0 ho
    have e1 : (d.wrote k).wh = 1 := by simp only [Dv.wrote, e]; rfl
    have e2 : (d.wrote k).h1 = str (k.next (d.k.num + 1)).img := by simp only [Dv.wrote, if_pos e]
    have e3 : (d.wrote k).h0 = d.h0 := by simp only [Dv.wrote, if_pos e]
    have e4 : (d.wrote k).k = k.next (d.k.num + 1) := rfl
    refine ⟨.inr e1, ?_, ?_, .inr ?_⟩
    · rw [if_neg (by omega), e2, eb]; exact hr
    · rw [if_neg (by omega), e2, eb, e4]; exact hi
    · rw [if_neg (by omega), e3, hs0, e4]
      simp only [Kep.next]
      omega
  · rw [if_neg (by omega)] at hr0 hs0 ho
    have e1 : (d.wrote k).wh = 0 := by simp only [Dv.wrote, e]; rfl
    have e2 : (d.wrote k).h0 = str (k.next (d.k.num + 1)).img := by simp only [Dv.wrote]; rw [if_neg (by omega)]
    have e3 : (d.wrote k).h1 = d.h1 := by simp only [Dv.wrote]; rw [if_neg (by omega)]
    have e4 : (d.wrote k).k = k.next (d.k.num + 1) := rfl
    refine ⟨.inl e1, ?_, ?_, .inr ?_⟩
    · rw [if_pos e1, e2, eb]; exact hr
    · rw [if_pos e1, e2, eb, e4]; exact hi
    · rw [if_pos e1, e3, hs0, e4]
      simp only [Kep.next]
      omega
theorem torn_wrong (n : Nat) (hn : ¬ n = 0) (t : List UInt8) (old : ByteArray) : ¬ readOk (Bs (tornB n t old)) := by
  unfold tornB
  rw [if_neg hn]
  intro h
  have := readOk_head h
  rw [show Bs (str (0 :: (t.drop 1).take (n - 1) ++ old.data.toList.drop n)) = 0 :: (t.drop 1).take (n - 1) ++ old.data.toList.drop n from str_list _] at this
  simp at this
theorem Dv.stands.torn {d : Dv} {k : Kep} (h : d.stands) : (d.torn k).stands := by
  obtain ⟨hwh, hr0, hs0, ho⟩ := h
  by_cases hn : d.cut.toNat = 0
  · have e0 : (d.torn k).h0 = d.h0 := by simp only [Dv.torn, tornB, if_pos hn]; split <;> rfl
    have e1 : (d.torn k).h1 = d.h1 := by simp only [Dv.torn, tornB, if_pos hn]; split <;> rfl
    refine ⟨hwh, ?_, ?_, ?_⟩
    · rw [e0, e1]; exact hr0
    · rw [e0, e1]; exact hs0
    · rw [e0, e1]; exact ho
  · rcases hwh with e | e
    · rw [if_pos e] at hr0 hs0
      have e0 : (d.torn k).h0 = d.h0 := by simp only [Dv.torn, if_pos e]
      have e1 : (d.torn k).h1 = tornB d.cut.toNat (k.next (d.k.num + 1)).img d.h1 := by simp only [Dv.torn, if_pos e]
      have ew : (d.torn k).wh = 0 := e
      refine ⟨.inl e, ?_, ?_, .inl ?_⟩
      · rw [if_pos ew, e0]; exact hr0
      · rw [if_pos ew, e0]; exact hs0
      · rw [if_pos ew, e1]; exact torn_wrong _ hn _ _
    · rw [if_neg (by omega)] at hr0 hs0
      have e1 : (d.torn k).h1 = d.h1 := by simp only [Dv.torn]; rw [if_neg (by omega)]
      have e0 : (d.torn k).h0 = tornB d.cut.toNat (k.next (d.k.num + 1)).img d.h0 := by simp only [Dv.torn]; rw [if_neg (by omega)]
      have ew : (d.torn k).wh = 1 := e
      refine ⟨.inr e, ?_, ?_, .inl ?_⟩
      · rw [if_neg (by omega), e1]; exact hr0
      · rw [if_neg (by omega), e1]; exact hs0
      · rw [if_neg (by omega), e0]; exact torn_wrong _ hn _ _
theorem Dv.stands.put {d : Dv} {k : Kep} (h : d.stands) (S : d.sound) (hw : ¬ 4294967295 ≤ d.k.num) (hk : k.good) (hp : 1 ≤ k.pin.size) : (d.put k).stands := by
  unfold Dv.put
  split
  · exact h.torn
  · exact h.wrote S hw hk hp
theorem Dv.stands.lock {d : Dv} (h : d.stands) : d.lock.stands := ⟨h.wh, h.right, h.same, h.oth⟩
theorem Dv.stands.open {d : Dv} (h : d.stands) : d.open.stands := ⟨h.wh, h.right, h.same, h.oth⟩
theorem Dv.stands.withIn {d : Dv} (h : d.stands) (l : List UInt8) : (d.withIn l).stands := ⟨h.wh, h.right, h.same, h.oth⟩
theorem fresh_stands (sm : Nat) (p : ByteArray) (h1 : 1 ≤ p.size) (h2 : p.size ≤ 8) : (Dv.fresh sm p).stands := by
  have hg : (Dv.fresh sm p).k.good := ⟨by simp only [Dv.fresh]; omega, by simp only [Dv.fresh]; omega, by simp only [Dv.fresh]; omega, by simp only [Dv.fresh]; omega, h2, Nat.zero_le _, Nat.zero_le _, Nat.zero_le _, Nat.zero_le _⟩
  have e0 : Bs (Dv.fresh sm p).h0 = (Dv.fresh sm p).k.img := str_list _
  have e1 : Bs (Dv.fresh sm p).h1 = List.replicate 100 0 := (str_list _).trans rfl
  refine ⟨.inl rfl, ?_, ?_, .inl ?_⟩
  · show readOk (Bs (Dv.fresh sm p).h0)
    rw [e0]
    exact readOk_img hg (by simp only [Dv.fresh]; omega) h1
  · show readK (Bs (Dv.fresh sm p).h0) = _
    rw [e0]
    exact read_img hg
  · show ¬ readOk (Bs (Dv.fresh sm p).h1)
    rw [e1]
    intro h
    have := readOk_head h
    simp at this
end Go.Proofs.YtaokemapkgggoaaGreatDoor

namespace Go.Proofs.YtaokemapkgggoaaGreatDoor
open Go.RowKit

theorem Dv.unlockC_stands {d : Dv} (t : d.stands) (h : d.sound) (p : ByteArray) : (d.unlockC p).1.stands := by
  unfold Dv.unlockC
  split
  · exact t
  split
  · exact t
  split
  · exact t
  rename_i ht hw
  have hgl := less_goodS h.good ht
  split
  · exact t.torn
  have SW := h.wrote hw hgl h.p0
  have TW := t.wrote h hw hgl h.p0
  split
  · dsimp only
    split
    · rename_i hc
      exact TW.lock.put SW.lock hc.2 ⟨hgl.n0, hgl.n1, hgl.t0, hgl.t1, hgl.pin, Nat.zero_le _, Nat.zero_le _, Nat.zero_le _, Nat.zero_le _⟩ h.p0
    · exact TW.lock
  split
  · exact TW.lock
  rename_i hw2
  have hgf : d.k.less.full.good := ⟨hgl.n0, hgl.n1, by simp only [Kep.full]; omega, by simp only [Kep.full]; omega, hgl.pin, hgl.k0, hgl.k1, hgl.k2, hgl.k3⟩
  split
  · exact TW.torn
  · exact (TW.wrote SW hw2 hgf h.p0).open
theorem slot_dev {d : Dv} {kind : Int} {p : ByteArray} (hx : ¬ (kind = 3 ∧ d.unl = true ∧ ¬ (p.size = 0 ∨ 4 ≤ hd0 p) ∧ ¬ 20 < (rest1 p).size ∧ ¬ 4294967295 ≤ d.k.num)) : (d.slot kind p).1 = d := by
  unfold Dv.slot
  by_cases hu : d.unl = false
  · rw [if_pos hu]
  rw [if_neg hu]
  have hu' : d.unl = true := by simpa using hu
  by_cases hb : p.size = 0 ∨ 4 ≤ hd0 p
  · rw [if_pos hb]
  rw [if_neg hb]
  by_cases h3 : kind = 3
  · by_cases hl : 20 < (rest1 p).size
    · rw [if_pos ⟨h3, hl⟩]
    · rw [if_neg (fun e => hl e.2)]
      by_cases hw : 4294967295 ≤ d.k.num
      · rw [if_pos ⟨h3, hw⟩]
      · exact absurd ⟨h3, hu', hb, hl, hw⟩ hx
  · rw [if_neg (fun e => h3 e.1), if_neg (fun e => h3 e.1), if_neg h3]
    repeat' split
    all_goals rfl
theorem Dv.slotC_stands {d : Dv} (t : d.stands) (h : d.sound) (kind : Int) (p : ByteArray) : (d.slotC kind p).1.stands := by
  unfold Dv.slotC
  split
  · rename_i hx
    exact t.put h hx.2.2.2.2 (put_goodS h.good (by have := hx.2.2.2.1; omega)) (by rw [put_pinS]; exact h.p0)
  · rename_i hx
    rw [slot_dev hx]
    exact t
theorem Dv.commandC_stands {d : Dv} (t : d.stands) (h : d.sound) (kind : Int) (p : ByteArray) : (d.commandC kind p).1.stands := by
  unfold Dv.commandC
  split
  · exact Dv.unlockC_stands t h p
  rename_i h1
  split
  · exact Dv.slotC_stands t h kind p
  rename_i h3
  split
  · rename_i hx
    exact t.put h hx.2.2.2 ⟨h.good.n0, h.good.n1, h.good.t0, h.good.t1, by show p.size ≤ 8; have := hx.2.2.1; omega, h.k0, h.k1, h.k2, h.k3⟩ (by show 1 ≤ p.size; have := hx.2.2.1; omega)
  rename_i hx
  unfold Dv.command
  rw [if_neg h1]
  split
  · split
    · exact t.lock
    · exact t
  split
  · split <;> exact t
  split
  · rename_i h6
    by_cases hu : d.unl = false
    · rw [if_pos hu]; exact t
    · rw [if_neg hu]
      by_cases hp : p.size < 1 ∨ 8 < p.size
      · rw [if_pos hp]; exact t
      · rw [if_neg hp]
        by_cases hw : 4294967295 ≤ d.k.num
        · rw [if_pos hw]; exact t
        · exact absurd ⟨h6, by simpa using hu, hp, hw⟩ hx
  · exact t

/-- the device behind all frames, wherever the power goes -/
theorem feedC_good : ∀ (n : Nat) (d : Dv) (l : List UInt8), l.length < n → d.sound → d.stands → (feedC n d l).2.sound ∧ (feedC n d l).2.stands ∧ (feedC n d l).2.sm = d.sm ∧ (feedC n d l).2.inn.size < 52
  | 0, d, l, h, _, _ => absurd h (by omega)
  | n + 1, d, l, h, ok, f => by
    have hsl := skip_length l
    by_cases ho : d.off = true
    · rw [feedC_off ho]
      exact ⟨withIn_sound ok _, f.withIn _, rfl, by show (0 : Nat) < 52; omega⟩
    · have ho' : d.off = false := by simpa using ho
      by_cases hw : (skip l).length < 2 ∨ (fLen (skip l) ≤ 48 ∧ (skip l).length < fLen (skip l) + 4)
      · rw [feedC_wait ho' rfl hw]
        refine ⟨withIn_sound ok _, f.withIn _, rfl, ?_⟩
        show (str (skip l)).size < 52
        rw [str_size]
        omega
      · by_cases hb : 48 < fLen (skip l) ∨ ¬ (1 + sumB (((skip l).drop 1).take (fLen (skip l) + 2))) % 256 = (bytesI (skip l)).getD (fLen (skip l) + 3) 0
        · rw [feedC_bad ho' rfl hw hb]
          exact feedC_good n (d.withIn ((skip l).drop 1)) ((skip l).drop 1) (by rw [List.length_drop]; omega) (withIn_sound ok _) (f.withIn _)
        · rw [feedC_cmd ho' rfl hw hb rfl]
          have hk := Dv.commandC_sound (withIn_sound ok ((skip l).drop (fLen (skip l) + 4))) ((bytesI (skip l)).getD 2 0) (str (((skip l).drop 3).take (fLen (skip l))))
          have hf := Dv.commandC_stands (f.withIn ((skip l).drop (fLen (skip l) + 4))) (withIn_sound ok _) ((bytesI (skip l)).getD 2 0) (str (((skip l).drop 3).take (fLen (skip l))))
          have := feedC_good n _ ((skip l).drop (fLen (skip l) + 4)) (by rw [List.length_drop]; omega) hk.1 hf
          exact ⟨this.1, this.2.1, this.2.2.1.trans hk.2.sm, this.2.2.2⟩

end Go.Proofs.YtaokemapkgggoaaGreatDoor

namespace Go.Proofs.YtaokemapkgggoaaGreatDoor
open Go.RowKit

theorem told_yes {l : List UInt8} (hl : l.length = 100) (h : readOk l) : Told l true := ⟨fun _ => read_right l hl h, fun e => by cases e⟩
theorem told_no {l : List UInt8} (h : ¬ readOk l) : Told l false := ⟨fun e => (by cases e), fun _ x => h (right_read l x)⟩
/-- what stands in the flash, for the program's side -/
theorem Dv.stands.fit {d : Dv} (h : d.stands) (S : d.sound) : d.fit := by
  have l0 : (Bs d.h0).length = 100 := by rw [Bs_len]; exact S.s0
  have l1 : (Bs d.h1).length = 100 := by rw [Bs_len]; exact S.s1
  obtain ⟨hw, hr, hs, ho⟩ := h
  rcases hw with e | e
  · rw [if_pos e] at hr hs ho
    rw [if_pos e] at ho
    refine ⟨l0, l1, ?_, ?_⟩
    · rw [e]
      refine .inl ⟨rfl, told_yes l0 hr, ?_⟩
      by_cases h1 : readOk (Bs d.h1)
      · refine .inr ⟨told_yes l1 h1, ?_⟩
        rcases ho with x | x
        · exact absurd h1 x
        · rw [← hs] at x
          exact x
      · exact .inl (told_no h1)
    · rw [if_pos e, ← hs]
      exact hr.2.2.symm
  · rw [if_neg (by omega)] at hr hs ho
    rw [if_neg (by omega)] at ho
    refine ⟨l0, l1, ?_, ?_⟩
    · rw [e]
      refine .inr ⟨rfl, told_yes l1 hr, ?_⟩
      by_cases h0 : readOk (Bs d.h0)
      · refine .inr ⟨told_yes l0 h0, ?_⟩
        rcases ho with x | x
        · exact absurd h0 x
        · rw [← hs] at x
          exact x
      · exact .inl (told_no h0)
    · rw [if_neg (by omega), ← hs]
      exact hr.2.2.symm
end Go.Proofs.YtaokemapkgggoaaGreatDoor

namespace Go.Proofs.YtaokemapkgggoaaGreatDoor
open Go.RowKit

theorem put_withIn (d : Dv) (l : List UInt8) (k : Kep) : (d.withIn l).put k = (d.put k).withIn l := by
  unfold Dv.put
  rw [show (d.withIn l).cut = d.cut from rfl]
  split <;> rfl
theorem Dv.unlockC_withIn (d : Dv) (l : List UInt8) (p : ByteArray) : (d.withIn l).unlockC p = ((d.unlockC p).1.withIn l, (d.unlockC p).2) := by
  unfold Dv.unlockC
  simp only [show (d.withIn l).k = d.k from rfl, show (d.withIn l).cut = d.cut from rfl, show ∀ k, ((d.withIn l).wrote k).cut = (d.wrote k).cut from fun _ => rfl]
  split
  · rfl
  split
  · rfl
  split
  · rfl
  split
  · rfl
  split
  · dsimp only
    split
    · rw [show ((d.withIn l).wrote d.k.less).lock = ((d.wrote d.k.less).lock).withIn l from rfl, put_withIn]
    · rfl
  split
  · rfl
  split <;> rfl
theorem Dv.slot_withIn (d : Dv) (l : List UInt8) (kind : Int) (p : ByteArray) : (d.withIn l).slot kind p = ((d.slot kind p).1.withIn l, (d.slot kind p).2) := by
  unfold Dv.slot
  simp only [show (d.withIn l).k = d.k from rfl, show (d.withIn l).unl = d.unl from rfl]
  repeat' split
  all_goals rfl
theorem Dv.unlock_withIn (d : Dv) (l : List UInt8) (p : ByteArray) : (d.withIn l).unlock p = ((d.unlock p).1.withIn l, (d.unlock p).2) := by
  unfold Dv.unlock
  simp only [show (d.withIn l).k = d.k from rfl]
  split
  · rfl
  split
  · rfl
  split
  · rfl
  split
  · dsimp only
    split <;> rfl
  split <;> rfl
theorem Dv.command_withIn (d : Dv) (l : List UInt8) (kind : Int) (p : ByteArray) : (d.withIn l).command kind p = ((d.command kind p).1.withIn l, (d.command kind p).2) := by
  unfold Dv.command
  rw [Dv.unlock_withIn, Dv.slot_withIn]
  simp only [show (d.withIn l).k = d.k from rfl, show (d.withIn l).unl = d.unl from rfl]
  repeat' split
  all_goals rfl
theorem Dv.commandC_withIn (d : Dv) (l : List UInt8) (kind : Int) (p : ByteArray) : (d.withIn l).commandC kind p = ((d.commandC kind p).1.withIn l, (d.commandC kind p).2) := by
  unfold Dv.commandC Dv.slotC
  rw [Dv.unlockC_withIn, Dv.slot_withIn, Dv.command_withIn]
  simp only [show (d.withIn l).k = d.k from rfl, show (d.withIn l).unl = d.unl from rfl, put_withIn]
  repeat' split
  all_goals rfl
theorem feedC_skip {n : Nat} {d : Dv} {l t : List UInt8} (h : skip l = skip t) : feedC (n + 1) d l = feedC (n + 1) d t := by
  unfold feedC
  rw [h]

end Go.Proofs.YtaokemapkgggoaaGreatDoor

namespace Go.Proofs.YtaokemapkgggoaaGreatDoor
open Go.RowKit

/-- what has come is no part of what a command does -/
def Dv.inB (d : Dv) (c : ByteArray) : Dv := { d with inn := c }
theorem inB_withIn (d : Dv) (c : ByteArray) : d.inB c = d.withIn c.data.toList := by
  unfold Dv.inB Dv.withIn
  rw [list_str]
theorem Dv.commandC_inB (d : Dv) (c : ByteArray) (kind : Int) (p : ByteArray) : (d.inB c).commandC kind p = ((d.commandC kind p).1.inB c, (d.commandC kind p).2) := by
  rw [inB_withIn, inB_withIn, Dv.commandC_withIn]
theorem inB_sound {d : Dv} (h : d.sound) (c : ByteArray) : (d.inB c).sound := by rw [inB_withIn]; exact withIn_sound h _
theorem inB_fit {d : Dv} (h : d.fit) (c : ByteArray) : (d.inB c).fit := ⟨h.l0, h.l1, h.keeps, h.img⟩
theorem feedC_inB (n : Nat) (d : Dv) (c : ByteArray) (l : List UInt8) : feedC n (d.inB c) l = feedC n d l := by
  cases n <;> rfl

theorem fresh_sound (sm : Nat) (p : ByteArray) (h1 : 1 ≤ p.size) (h2 : p.size ≤ 8) : (Dv.fresh sm p).sound := by
  have hg : (Dv.fresh sm p).k.good := ⟨by simp only [Dv.fresh]; omega, by simp only [Dv.fresh]; omega, by simp only [Dv.fresh]; omega, by simp only [Dv.fresh]; omega, h2, Nat.zero_le _, Nat.zero_le _, Nat.zero_le _, Nat.zero_le _⟩
  refine ⟨by simp only [Dv.fresh]; omega, by simp only [Dv.fresh]; omega, hg.t0, hg.t1, h1, h2, Nat.zero_le _, Nat.zero_le _, Nat.zero_le _, Nat.zero_le _, .inl rfl, by simp only [Dv.fresh]; omega, ?_, ?_⟩
  · have e0 : Bs (Dv.fresh sm p).h0 = (Dv.fresh sm p).k.img := str_list _
    rw [← Bs_len, e0]
    exact Kep.img_length hg
  · have e1 : Bs (Dv.fresh sm p).h1 = List.replicate 100 0 := (str_list _).trans rfl
    rw [← Bs_len, e1]
    rfl
end Go.Proofs.YtaokemapkgggoaaGreatDoor
