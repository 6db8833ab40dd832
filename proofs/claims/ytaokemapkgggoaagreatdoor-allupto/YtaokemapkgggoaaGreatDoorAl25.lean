import Derived.Test.YtaokemapkgggoaaGreatDoorAl24
namespace Go.Proofs.YtaokemapkgggoaaGreatDoor
open Go.RowKit

/-- a write that the power bears to its end -/
def whole (c : Int) : Prop := c < 0 ∨ (101 ≤ c ∧ c ≤ 9223372036854775807)
theorem ref_whole (w : World) (g : Nat) (d : Dv) (k : Kep) (h : DvAt w g d) (hk : k.fair) (hn0 : 0 ≤ d.k.num) (hn1 : d.k.num < 4294967296) (hwh : d.wh = 0 ∨ d.wh = 1) (hcut : whole d.cut) :
    Calls Tryz.prog 84 #[.pointer (some ⟨g, 0, none⟩), .agg k.cells.toArray] w fun r w' => r = .returned (.bool true) ∧ DvAt w' g (d.wrote k) ∧ w.grownBy w' (some g) := by
  rcases hcut with hc | ⟨hc, hc1⟩
  · exact ref_write w g d k h hk hn0 hn1 hwh hc
  · rcases hwh with hwh | hwh
    · exact ref_writeB0 w g d k h hk hn0 hn1 hwh hc hc1
    · exact ref_writeB1 w g d k h hk hn0 hn1 hwh hc hc1

/-- what stands in a device whose power may go -/
structure Dv.sound (d : Dv) : Prop where
  n0 : 1 ≤ d.k.num
  n1 : d.k.num ≤ 4294967295
  t0 : 0 ≤ d.k.tries
  t1 : d.k.tries ≤ 5
  p0 : 1 ≤ d.k.pin.size
  p1 : d.k.pin.size ≤ 8
  k0 : d.k.k0.size ≤ 20
  k1 : d.k.k1.size ≤ 20
  k2 : d.k.k2.size ≤ 20
  k3 : d.k.k3.size ≤ 20
  wh : d.wh = 0 ∨ d.wh = 1
  c1 : d.cut ≤ 9223372036854775807
  s0 : d.h0.size = 100
  s1 : d.h1.size = 100
theorem Dv.sound.good {d : Dv} (h : d.sound) : d.k.good := ⟨by have := h.n0; omega, by have := h.n1; omega, h.t0, h.t1, h.p1, h.k0, h.k1, h.k2, h.k3⟩
theorem Dv.sound.next {d : Dv} {k : Kep} (h : d.sound) (hw : ¬ 4294967295 ≤ d.k.num) (hk : k.good) : (k.next (d.k.num + 1)).good :=
  ⟨by have := h.n0; simp only [Kep.next]; omega, by simp only [Kep.next]; omega, hk.t0, hk.t1, hk.pin, hk.k0, hk.k1, hk.k2, hk.k3⟩
theorem Dv.sound.wrote {d : Dv} {k : Kep} (h : d.sound) (hw : ¬ 4294967295 ≤ d.k.num) (hk : k.good) (hp : 1 ≤ k.pin.size) : (d.wrote k).sound := by
  have n0 := h.n0
  have wh := h.wh
  have c1 := h.c1
  have him : (str (k.next (d.k.num + 1)).img).size = 100 := by rw [str_size]; exact Kep.img_length (h.next hw hk)
  refine ⟨?_, ?_, hk.t0, hk.t1, hp, hk.pin, hk.k0, hk.k1, hk.k2, hk.k3, ?_, ?_, ?_, ?_⟩
  · simp only [Dv.wrote, Kep.next]; omega
  · simp only [Dv.wrote, Kep.next]; omega
  · simp only [Dv.wrote]; omega
  · simp only [Dv.wrote]; split <;> omega
  · simp only [Dv.wrote]; split
    · exact h.s0
    · exact him
  · simp only [Dv.wrote]; split
    · exact him
    · exact h.s1
theorem Dv.sound.lock {d : Dv} (h : d.sound) : d.lock.sound := ⟨h.n0, h.n1, h.t0, h.t1, h.p0, h.p1, h.k0, h.k1, h.k2, h.k3, h.wh, h.c1, h.s0, h.s1⟩
theorem Dv.sound.open {d : Dv} (h : d.sound) : d.open.sound := ⟨h.n0, h.n1, h.t0, h.t1, h.p0, h.p1, h.k0, h.k1, h.k2, h.k3, h.wh, h.c1, h.s0, h.s1⟩
theorem Dv.sound.withIn {d : Dv} (h : d.sound) (l : List UInt8) : ({ d with inn := str l } : Dv).sound := ⟨h.n0, h.n1, h.t0, h.t1, h.p0, h.p1, h.k0, h.k1, h.k2, h.k3, h.wh, h.c1, h.s0, h.s1⟩
theorem tornB_size (n : Nat) (t : List UInt8) (old : ByteArray) (hn : n ≤ 100) (ht : t.length = 100) (ho : old.size = 100) : (tornB n t old).size = 100 := by
  unfold tornB
  split
  · exact ho
  · have hl : old.data.toList.length = 100 := by rw [Array.length_toList]; exact ho
    rw [str_size]
    simp only [List.length_append, List.length_cons, List.length_take, List.length_drop, ht, hl]
    omega
theorem Dv.sound.torn {d : Dv} {k : Kep} (h : d.sound) (hw : ¬ 4294967295 ≤ d.k.num) (hk : k.good) (hc : 0 ≤ d.cut ∧ d.cut < 101) : (d.torn k).sound := by
  have hl := Kep.img_length (h.next hw hk)
  refine ⟨h.n0, h.n1, h.t0, h.t1, h.p0, h.p1, h.k0, h.k1, h.k2, h.k3, h.wh, h.c1, ?_, ?_⟩
  · simp only [Dv.torn]; split
    · exact h.s0
    · exact tornB_size _ _ _ (by omega) hl h.s0
  · simp only [Dv.torn]; split
    · exact tornB_size _ _ _ (by omega) hl h.s1
    · exact h.s1
theorem Dv.sound.put {d : Dv} {k : Kep} (h : d.sound) (hw : ¬ 4294967295 ≤ d.k.num) (hk : k.good) (hp : 1 ≤ k.pin.size) : (d.put k).sound := by
  unfold Dv.put
  split
  · exact h.torn hw hk (by assumption)
  · exact h.wrote hw hk hp
theorem ref_gone (w : World) (g : Nat) (d : Dv) (k : Kep) (h : DvAt w g d) (hk : k.fair) (S : d.sound) (hg : k.good) (hw : d.k.num < 4294967295) (hc : 0 ≤ d.cut ∧ d.cut < 101) :
    Calls Tryz.prog 84 #[.pointer (some ⟨g, 0, none⟩), .agg k.cells.toArray] w fun r w' => r = .returned (.bool false) ∧ DvAt w' g (d.torn k) ∧ w.grownBy w' (some g) := by
  have := ref_put w g d k h hk (by have := S.n0; omega) (by have := S.n1; omega) S.wh S.c1 S.s0 S.s1 (S.next (by omega) hg)
  rw [show d.puts = false from decide_eq_false (fun e => e hc), show d.put k = d.torn k from if_pos hc] at this
  exact this
theorem less_goodS {k : Kep} (h : k.good) (ht : ¬ k.tries = 0) : k.less.good := ⟨h.n0, h.n1, by have := h.t0; simp only [Kep.less]; omega, by have := h.t1; simp only [Kep.less]; omega, h.pin, h.k0, h.k1, h.k2, h.k3⟩

/-- a PIN is tried, wherever the power goes -/
def Dv.unlockC (d : Dv) (p : ByteArray) : Dv × Int × List UInt8 :=
  if p.size < 1 ∨ 8 < p.size then (d, 4, [])
  else if d.k.tries = 0 then (d, 5, [])
  else if 4294967295 ≤ d.k.num then (d, 7, [])
  else if 0 ≤ d.cut ∧ d.cut < 101 then (d.torn d.k.less, 0, [])
  else if p ≠ d.k.pin then
    (if d.k.tries - 1 = 0 ∧ ¬ 4294967295 ≤ d.k.num + 1 then (d.wrote d.k.less).lock.put d.k.less.bare else (d.wrote d.k.less).lock, 3, [b8 (d.k.tries - 1)])
  else if 4294967295 ≤ d.k.num + 1 then ((d.wrote d.k.less).lock, 7, [])
  else if 0 ≤ (d.wrote d.k.less).cut ∧ (d.wrote d.k.less).cut < 101 then ((d.wrote d.k.less).torn d.k.less.full, 0, [])
  else (((d.wrote d.k.less).wrote d.k.less.full).open, 0, [])

set_option maxRecDepth 100000 in
set_option maxHeartbeats 1000000 in
theorem ref_unlockW_worn (w : World) (g : Nat) (d : Dv) (p : ByteArray) (h : DvAt w g d) (ok : d.sound) (hcut : whole d.cut) (hs1 : 1 ≤ p.size) (hs2 : p.size ≤ 8) (ht : ¬ d.k.tries = 0) (hw : ¬ 4294967295 ≤ d.k.num) (hq : p = d.k.pin) (hw2 : 4294967295 ≤ d.k.num + 1) :
    Calls Tryz.prog 81 #[.pointer (some ⟨g, 0, none⟩), .string p] w (Left g w (d.unlock p)) := by
  have HE : Hid (d.unlock p = ((d.wrote d.k.less).lock, 7, [])) := by show _ = _; unfold Dv.unlock; rw [if_neg (by omega), if_neg ht, if_neg hw, if_neg (by simp [hq]), if_pos hw2]
  obtain ⟨sm, h0, h1, ⟨dn, dt, dp, d0, d1, d2, d3⟩, wh, unl, off, cut, inn⟩ := d
  obtain ⟨hn0, hn1, ht0, ht1, hp0, hp1, hk0, hk1, hk2, hk3, hwh, -, -, -⟩ := ok
  simp only at hn0 hn1 ht0 ht1 hp0 hp1 hk0 hk1 hk2 hk3 hwh hcut ht hw hq hw2
  have q0 : ¬ (p.size : Int) < 1 := by omega
  have q1 : ¬ (8 : Int) < p.size := by omega
  have q2 : ¬ dt = 0 := by omega
  have q3 : ¬ (4294967295 : Int) ≤ dn := by omega
  have hgl : g < w.heap.size := h.lt
  have hne : ¬ g = w.heap.size := by omega
  have hne' : ¬ w.heap.size = g := by omega
  obtain ⟨c0, c1, c2, c3, c4, c5, c6, c7, c8, c9, -⟩ := h.c
  simp only at c0 c1 c2 c3 c4 c5 c6 c7 c8 c9
  have kf1 : Kep.fair ⟨dn, dt - 1, dp, d0, d1, d2, d3⟩ := ⟨by simp only; omega, by simp only; omega, by simp only; omega, by simp only; omega, by simp only; omega, by simp only; omega, by simp only; omega, by simp only; omega, by simp only; omega⟩
  have kf5 : Kep.fair ⟨dn, 5, dp, d0, d1, d2, d3⟩ := ⟨kf1.n0, kf1.n1, by simp only; omega, by simp only; omega, kf1.pin, kf1.k0, kf1.k1, kf1.k2, kf1.k3⟩
  rw [HE.out]
  go_enter Tryz.func81, Tryz.ntmps81
  go_wp2_with (first | (go_at_call 84; have tok := kf1; clear kf1; refine (ref_whole _ g ⟨sm, h0, h1, ⟨dn, dt, dp, d0, d1, d2, d3⟩, wh, unl, off, cut, inn⟩ ⟨dn, dt - 1, dp, d0, d1, d2, d3⟩ (Row.alloc h _) tok (by simp only; omega) (by simp only; omega) hwh hcut).mono ?_; rintro _ w2 ⟨rfl, hd2, hg2⟩; have hr2 : Row w2 w.heap.size [.int .i64 dn, .int .i64 (dt - 1), .string dp, .string d0, .string d1, .string d2, .string d3] 34 := Row.grown (Row.made w _ _) hg2 hne'; have hgr : w.grownBy w2 (some g) := (World.grownBy_alloc w _ _).trans hg2; clear hg2 c0 c1 c2 c3 c4 c5 c6 c7 c8 c9; obtain ⟨dv, HDV⟩ := (⟨_, rfl⟩ : ∃ dv, Hid (dv = Dv.wrote ⟨sm, h0, h1, ⟨dn, dt, dp, d0, d1, d2, d3⟩, wh, unl, off, cut, inn⟩ ⟨dn, dt - 1, dp, d0, d1, d2, d3⟩)); rw [← HDV.out] at hd2; have hdn : dv.k.num = dn + 1 := (by rw [HDV.out]; rfl); obtain ⟨b0, b1, b2, b3, b4, b5, b6⟩ := row7 hr2; have fz := hd2.frozen; have fb := hr2.frozen; obtain ⟨c0, c1, c2, c3, c4, c5, c6, c7, c8, c9, c10, c11, -⟩ := hd2.c) | (go_at_call 83; refine (ref_worn w g _ h).mono ?_; rintro _ w9 ⟨rfl, e9⟩; rw [e9]; clear e9 w9) | (go_at_call 83; refine (ref_worn w2 g dv hd2).mono ?_; rintro _ w9 ⟨rfl, e9⟩; rw [e9, hdn]; clear e9 w9))
  go_ret2
  refine ⟨rfl, ?_, grown_set hgr 11 _⟩
  have hfin := Row.setCell hd2 11 (.bool false)
  rw [HDV.out] at hfin
  exact hfin

set_option maxRecDepth 100000 in
set_option maxHeartbeats 1000000 in
theorem ref_unlockW_noA (w : World) (g : Nat) (d : Dv) (p : ByteArray) (h : DvAt w g d) (ok : d.sound) (hcut : whole d.cut) (hs1 : 1 ≤ p.size) (hs2 : p.size ≤ 8) (ht : ¬ d.k.tries = 0) (hw : ¬ 4294967295 ≤ d.k.num) (hq : ¬ p = d.k.pin) (hz : ¬ d.k.tries - 1 = 0) :
    Calls Tryz.prog 81 #[.pointer (some ⟨g, 0, none⟩), .string p] w (Left g w (d.unlock p)) := by
  have HE : Hid (d.unlock p = ((d.wrote d.k.less).lock, 3, [b8 (d.k.tries - 1)])) := by show _ = _; unfold Dv.unlock; rw [if_neg (by omega), if_neg ht, if_neg hw, if_pos hq, if_neg (fun h => hz h.1)]
  obtain ⟨sm, h0, h1, ⟨dn, dt, dp, d0, d1, d2, d3⟩, wh, unl, off, cut, inn⟩ := d
  obtain ⟨hn0, hn1, ht0, ht1, hp0, hp1, hk0, hk1, hk2, hk3, hwh, -, -, -⟩ := ok
  simp only at hn0 hn1 ht0 ht1 hp0 hp1 hk0 hk1 hk2 hk3 hwh hcut ht hw hq hz
  have q0 : ¬ (p.size : Int) < 1 := by omega
  have q1 : ¬ (8 : Int) < p.size := by omega
  have q2 : ¬ dt = 0 := by omega
  have q3 : ¬ (4294967295 : Int) ≤ dn := by omega
  have hgl : g < w.heap.size := h.lt
  have hne : ¬ g = w.heap.size := by omega
  have hne' : ¬ w.heap.size = g := by omega
  obtain ⟨c0, c1, c2, c3, c4, c5, c6, c7, c8, c9, -⟩ := h.c
  simp only at c0 c1 c2 c3 c4 c5 c6 c7 c8 c9
  have kf1 : Kep.fair ⟨dn, dt - 1, dp, d0, d1, d2, d3⟩ := ⟨by simp only; omega, by simp only; omega, by simp only; omega, by simp only; omega, by simp only; omega, by simp only; omega, by simp only; omega, by simp only; omega, by simp only; omega⟩
  have hqn := bytes_ne hq
  have hcv := fun (W : World) (A : Addr) (v : Value) a => conv1d (W.setCell A v) a W.heap.size (size_setCell W A v).symm
  have hw8 : ∀ x : Int, IntKind.u8.wrap x = x % 256 := u8_wrap
  rw [HE.out]
  go_enter Tryz.func81, Tryz.ntmps81
  go_wp2_with (first | (go_at_call 84; have tok := kf1; clear kf1; refine (ref_whole _ g ⟨sm, h0, h1, ⟨dn, dt, dp, d0, d1, d2, d3⟩, wh, unl, off, cut, inn⟩ ⟨dn, dt - 1, dp, d0, d1, d2, d3⟩ (Row.alloc h _) tok (by simp only; omega) (by simp only; omega) hwh hcut).mono ?_; rintro _ w2 ⟨rfl, hd2, hg2⟩; have hr2 : Row w2 w.heap.size [.int .i64 dn, .int .i64 (dt - 1), .string dp, .string d0, .string d1, .string d2, .string d3] 34 := Row.grown (Row.made w _ _) hg2 hne'; have hgr : w.grownBy w2 (some g) := (World.grownBy_alloc w _ _).trans hg2; clear hg2 c0 c1 c2 c3 c4 c5 c6 c7 c8 c9; obtain ⟨dv, HDV⟩ := (⟨_, rfl⟩ : ∃ dv, Hid (dv = Dv.wrote ⟨sm, h0, h1, ⟨dn, dt, dp, d0, d1, d2, d3⟩, wh, unl, off, cut, inn⟩ ⟨dn, dt - 1, dp, d0, d1, d2, d3⟩)); rw [← HDV.out] at hd2; have hdn : dv.k.num = dn + 1 := (by rw [HDV.out]; rfl); obtain ⟨b0, b1, b2, b3, b4, b5, b6⟩ := row7 hr2; have fz := hd2.frozen; have fb := hr2.frozen; obtain ⟨c0, c1, c2, c3, c4, c5, c6, c7, c8, c9, c10, c11, -⟩ := hd2.c) | (go_at_call 83; refine (ref_worn w g _ h).mono ?_; rintro _ w9 ⟨rfl, e9⟩; rw [e9]; clear e9 w9) | (go_at_call 83; refine (ref_worn w2 g dv hd2).mono ?_; rintro _ w9 ⟨rfl, e9⟩; rw [e9, hdn]; clear e9 w9))
  go_region
  go_wp2
  go_ret2
  refine ⟨ret_pair (b8_str _), ?_, grown_drew (grown_alloc (grown_set hgr 11 _) _)⟩
  have hfin := ((Row.setCell hd2 11 (.bool false)).alloc (.cells #[.int .u8 ((dt - 1) % 256)] 5)).drew
  rw [HDV.out] at hfin
  exact hfin

set_option maxRecDepth 100000 in
set_option maxHeartbeats 1000000 in
theorem ref_unlockW_noB (w : World) (g : Nat) (d : Dv) (p : ByteArray) (h : DvAt w g d) (ok : d.sound) (hcut : whole d.cut) (hs1 : 1 ≤ p.size) (hs2 : p.size ≤ 8) (ht : ¬ d.k.tries = 0) (hw : ¬ 4294967295 ≤ d.k.num) (hq : ¬ p = d.k.pin) (hz : d.k.tries - 1 = 0) (hw2 : 4294967295 ≤ d.k.num + 1) :
    Calls Tryz.prog 81 #[.pointer (some ⟨g, 0, none⟩), .string p] w (Left g w (d.unlock p)) := by
  have HE : Hid (d.unlock p = ((d.wrote d.k.less).lock, 3, [b8 (d.k.tries - 1)])) := by show _ = _; unfold Dv.unlock; rw [if_neg (by omega), if_neg ht, if_neg hw, if_pos hq, if_neg (fun h => h.2 hw2)]
  obtain ⟨sm, h0, h1, ⟨dn, dt, dp, d0, d1, d2, d3⟩, wh, unl, off, cut, inn⟩ := d
  obtain ⟨hn0, hn1, ht0, ht1, hp0, hp1, hk0, hk1, hk2, hk3, hwh, -, -, -⟩ := ok
  simp only at hn0 hn1 ht0 ht1 hp0 hp1 hk0 hk1 hk2 hk3 hwh hcut ht hw hq hz hw2
  obtain rfl : dt = 1 := by omega
  clear hz
  have q0 : ¬ (p.size : Int) < 1 := by omega
  have q1 : ¬ (8 : Int) < p.size := by omega
  have q2 : ¬ (1 : Int) = 0 := by omega
  have q3 : ¬ (4294967295 : Int) ≤ dn := by omega
  have hgl : g < w.heap.size := h.lt
  have hne : ¬ g = w.heap.size := by omega
  have hne' : ¬ w.heap.size = g := by omega
  obtain ⟨c0, c1, c2, c3, c4, c5, c6, c7, c8, c9, -⟩ := h.c
  simp only at c0 c1 c2 c3 c4 c5 c6 c7 c8 c9
  have kf1 : Kep.fair ⟨dn, 0, dp, d0, d1, d2, d3⟩ := ⟨by simp only; omega, by simp only; omega, by simp only; omega, by simp only; omega, by simp only; omega, by simp only; omega, by simp only; omega, by simp only; omega, by simp only; omega⟩
  have hqn := bytes_ne hq
  have hcv := fun (W : World) (A : Addr) (v : Value) a => conv1d (W.setCell A v) a W.heap.size (size_setCell W A v).symm
  have hw8 : ∀ x : Int, IntKind.u8.wrap x = x % 256 := u8_wrap
  rw [HE.out]
  go_enter Tryz.func81, Tryz.ntmps81
  go_wp2_with (first | (go_at_call 84; have tok := kf1; clear kf1; refine (ref_whole _ g ⟨sm, h0, h1, ⟨dn, 1, dp, d0, d1, d2, d3⟩, wh, unl, off, cut, inn⟩ ⟨dn, 0, dp, d0, d1, d2, d3⟩ (Row.alloc h _) tok (by simp only; omega) (by simp only; omega) hwh hcut).mono ?_; rintro _ w2 ⟨rfl, hd2, hg2⟩; have hr2 : Row w2 w.heap.size [.int .i64 dn, .int .i64 (0), .string dp, .string d0, .string d1, .string d2, .string d3] 34 := Row.grown (Row.made w _ _) hg2 hne'; have hgr : w.grownBy w2 (some g) := (World.grownBy_alloc w _ _).trans hg2; clear hg2 c0 c1 c2 c3 c4 c5 c6 c7 c8 c9; obtain ⟨dv, HDV⟩ := (⟨_, rfl⟩ : ∃ dv, Hid (dv = Dv.wrote ⟨sm, h0, h1, ⟨dn, 1, dp, d0, d1, d2, d3⟩, wh, unl, off, cut, inn⟩ ⟨dn, 0, dp, d0, d1, d2, d3⟩)); rw [← HDV.out] at hd2; have hdn : dv.k.num = dn + 1 := (by rw [HDV.out]; rfl); obtain ⟨b0, b1, b2, b3, b4, b5, b6⟩ := row7 hr2; have fz := hd2.frozen; have fb := hr2.frozen; obtain ⟨c0, c1, c2, c3, c4, c5, c6, c7, c8, c9, c10, c11, -⟩ := hd2.c) | (go_at_call 83; refine (ref_worn w g _ h).mono ?_; rintro _ w9 ⟨rfl, e9⟩; rw [e9]; clear e9 w9) | (go_at_call 83; refine (ref_worn w2 g dv hd2).mono ?_; rintro _ w9 ⟨rfl, e9⟩; rw [e9, hdn]; clear e9 w9))
  go_region
  go_wp2
  go_ret2
  refine ⟨ret_pair (rfl), ?_, grown_drew (grown_alloc (grown_set hgr 11 _) _)⟩
  have hfin := ((Row.setCell hd2 11 (.bool false)).alloc (.cells #[.int .u8 0] 5)).drew
  rw [HDV.out] at hfin
  exact hfin

set_option maxRecDepth 100000 in
set_option maxHeartbeats 1000000 in
theorem ref_unlockW_yes (w : World) (g : Nat) (d : Dv) (p : ByteArray) (h : DvAt w g d) (ok : d.sound) (hcut : whole d.cut) (hcutB : whole (d.wrote d.k.less).cut) (hs1 : 1 ≤ p.size) (hs2 : p.size ≤ 8) (ht : ¬ d.k.tries = 0) (hw : ¬ 4294967295 ≤ d.k.num) (hq : p = d.k.pin) (hw2 : ¬ 4294967295 ≤ d.k.num + 1) :
    Calls Tryz.prog 81 #[.pointer (some ⟨g, 0, none⟩), .string p] w (Left g w (d.unlock p)) := by
  have HE : Hid (d.unlock p = (((d.wrote d.k.less).wrote d.k.less.full).open, 0, [])) := by show _ = _; unfold Dv.unlock; rw [if_neg (by omega), if_neg ht, if_neg hw, if_neg (by simp [hq]), if_neg hw2]
  obtain ⟨sm, h0, h1, ⟨dn, dt, dp, d0, d1, d2, d3⟩, wh, unl, off, cut, inn⟩ := d
  obtain ⟨hn0, hn1, ht0, ht1, hp0, hp1, hk0, hk1, hk2, hk3, hwh, -, -, -⟩ := ok
  simp only at hn0 hn1 ht0 ht1 hp0 hp1 hk0 hk1 hk2 hk3 hwh hcut ht hw hq hw2
  have q0 : ¬ (p.size : Int) < 1 := by omega
  have q1 : ¬ (8 : Int) < p.size := by omega
  have q2 : ¬ dt = 0 := by omega
  have q3 : ¬ (4294967295 : Int) ≤ dn := by omega
  have hgl : g < w.heap.size := h.lt
  have hne : ¬ g = w.heap.size := by omega
  have hne' : ¬ w.heap.size = g := by omega
  obtain ⟨c0, c1, c2, c3, c4, c5, c6, c7, c8, c9, -⟩ := h.c
  simp only at c0 c1 c2 c3 c4 c5 c6 c7 c8 c9
  have kf1 : Kep.fair ⟨dn, dt - 1, dp, d0, d1, d2, d3⟩ := ⟨by simp only; omega, by simp only; omega, by simp only; omega, by simp only; omega, by simp only; omega, by simp only; omega, by simp only; omega, by simp only; omega, by simp only; omega⟩
  have kf5 : Kep.fair ⟨dn, 5, dp, d0, d1, d2, d3⟩ := ⟨kf1.n0, kf1.n1, by simp only; omega, by simp only; omega, kf1.pin, kf1.k0, kf1.k1, kf1.k2, kf1.k3⟩
  rw [HE.out]
  go_enter Tryz.func81, Tryz.ntmps81
  go_wp2_with (first | (go_at_call 84; have tok := kf1; clear kf1; refine (ref_whole _ g ⟨sm, h0, h1, ⟨dn, dt, dp, d0, d1, d2, d3⟩, wh, unl, off, cut, inn⟩ ⟨dn, dt - 1, dp, d0, d1, d2, d3⟩ (Row.alloc h _) tok (by simp only; omega) (by simp only; omega) hwh hcut).mono ?_; rintro _ w2 ⟨rfl, hd2, hg2⟩; have hr2 : Row w2 w.heap.size [.int .i64 dn, .int .i64 (dt - 1), .string dp, .string d0, .string d1, .string d2, .string d3] 34 := Row.grown (Row.made w _ _) hg2 hne'; have hgr : w.grownBy w2 (some g) := (World.grownBy_alloc w _ _).trans hg2; clear hg2 c0 c1 c2 c3 c4 c5 c6 c7 c8 c9; obtain ⟨dv, HDV⟩ := (⟨_, rfl⟩ : ∃ dv, Hid (dv = Dv.wrote ⟨sm, h0, h1, ⟨dn, dt, dp, d0, d1, d2, d3⟩, wh, unl, off, cut, inn⟩ ⟨dn, dt - 1, dp, d0, d1, d2, d3⟩)); rw [← HDV.out] at hd2; have hdn : dv.k.num = dn + 1 := (by rw [HDV.out]; rfl); obtain ⟨b0, b1, b2, b3, b4, b5, b6⟩ := row7 hr2; have fz := hd2.frozen; have fb := hr2.frozen; obtain ⟨c0, c1, c2, c3, c4, c5, c6, c7, c8, c9, c10, c11, -⟩ := hd2.c) | (go_at_call 83; refine (ref_worn w g _ h).mono ?_; rintro _ w9 ⟨rfl, e9⟩; rw [e9]; clear e9 w9) | (go_at_call 83; refine (ref_worn w2 g dv hd2).mono ?_; rintro _ w9 ⟨rfl, e9⟩; rw [e9, hdn]; clear e9 w9) | (go_at_call 84; refine (ref_whole _ g dv ⟨dn, 5, dp, d0, d1, d2, d3⟩ (Row.setCell_other hd2 ⟨w.heap.size, 1, none⟩ _ hne) kf5 (by rw [hdn]; omega) (by rw [hdn]; omega) (by rw [HDV.out]; simp only [Dv.wrote]; omega) (by rw [HDV.out]; exact hcutB)).mono ?_; rintro _ w3 ⟨rfl, hd3, hg3⟩; have hgr3 : w.grownBy w3 (some g) := (grown_new hgr w.heap.size 1 _ (Nat.le_refl _)).trans hg3; clear c0 c1 c2 c3 c4 c5 c6 c7 c8 c9 c10 c11 b0 b1 b2 b3 b4 b5 b6 fz fb hg3; have fz := hd3.frozen; obtain ⟨c0, c1, c2, c3, c4, c5, c6, c7, c8, c9, c10, c11, -⟩ := hd3.c))
  go_ret2
  refine ⟨rfl, ?_, grown_set hgr3 11 _⟩
  have hfin := Row.setCell hd3 11 (.bool true)
  rw [HDV.out] at hfin
  exact hfin

set_option maxRecDepth 100000 in
set_option maxHeartbeats 1000000 in
theorem ref_unlockT_yes (w : World) (g : Nat) (d : Dv) (p : ByteArray) (h : DvAt w g d) (ok : d.sound) (hcut : whole d.cut) (hcutB : 0 ≤ (d.wrote d.k.less).cut ∧ (d.wrote d.k.less).cut < 101) (SW : (d.wrote d.k.less).sound) (hs1 : 1 ≤ p.size) (hs2 : p.size ≤ 8) (ht : ¬ d.k.tries = 0) (hw : ¬ 4294967295 ≤ d.k.num) (hq : p = d.k.pin) (hw2 : ¬ 4294967295 ≤ d.k.num + 1) :
    Calls Tryz.prog 81 #[.pointer (some ⟨g, 0, none⟩), .string p] w (Left g w ((d.wrote d.k.less).torn d.k.less.full, 0, [])) := by
  have hgd : d.k.less.full.good := ⟨ok.good.n0, ok.good.n1, by simp only [Kep.full]; omega, by simp only [Kep.full]; omega, ok.good.pin, ok.good.k0, ok.good.k1, ok.good.k2, ok.good.k3⟩
  have HG : Hid (d.k.less.full.good) := hgd
  have HW2 : Hid ((d.wrote d.k.less).k.num < 4294967295) := by show d.k.num + 1 < _; omega
  have HCB : Hid _ := hcutB
  have HSW : Hid _ := SW
  clear hgd hcutB SW
  obtain ⟨sm, h0, h1, ⟨dn, dt, dp, d0, d1, d2, d3⟩, wh, unl, off, cut, inn⟩ := d
  obtain ⟨hn0, hn1, ht0, ht1, hp0, hp1, hk0, hk1, hk2, hk3, hwh, -, -, -⟩ := ok
  simp only at hn0 hn1 ht0 ht1 hp0 hp1 hk0 hk1 hk2 hk3 hwh hcut ht hw hq hw2
  have q0 : ¬ (p.size : Int) < 1 := by omega
  have q1 : ¬ (8 : Int) < p.size := by omega
  have q2 : ¬ dt = 0 := by omega
  have q3 : ¬ (4294967295 : Int) ≤ dn := by omega
  have hgl : g < w.heap.size := h.lt
  have hne : ¬ g = w.heap.size := by omega
  have hne' : ¬ w.heap.size = g := by omega
  obtain ⟨c0, c1, c2, c3, c4, c5, c6, c7, c8, c9, -⟩ := h.c
  simp only at c0 c1 c2 c3 c4 c5 c6 c7 c8 c9
  have kf1 : Kep.fair ⟨dn, dt - 1, dp, d0, d1, d2, d3⟩ := ⟨by simp only; omega, by simp only; omega, by simp only; omega, by simp only; omega, by simp only; omega, by simp only; omega, by simp only; omega, by simp only; omega, by simp only; omega⟩
  have kf5 : Kep.fair ⟨dn, 5, dp, d0, d1, d2, d3⟩ := ⟨kf1.n0, kf1.n1, by simp only; omega, by simp only; omega, kf1.pin, kf1.k0, kf1.k1, kf1.k2, kf1.k3⟩
  go_enter Tryz.func81, Tryz.ntmps81
  go_wp2_with (first | (go_at_call 84; have tok := kf1; clear kf1; refine (ref_whole _ g ⟨sm, h0, h1, ⟨dn, dt, dp, d0, d1, d2, d3⟩, wh, unl, off, cut, inn⟩ ⟨dn, dt - 1, dp, d0, d1, d2, d3⟩ (Row.alloc h _) tok (by simp only; omega) (by simp only; omega) hwh hcut).mono ?_; rintro _ w2 ⟨rfl, hd2, hg2⟩; have hr2 : Row w2 w.heap.size [.int .i64 dn, .int .i64 (dt - 1), .string dp, .string d0, .string d1, .string d2, .string d3] 34 := Row.grown (Row.made w _ _) hg2 hne'; have hgr : w.grownBy w2 (some g) := (World.grownBy_alloc w _ _).trans hg2; clear hg2 c0 c1 c2 c3 c4 c5 c6 c7 c8 c9; obtain ⟨dv, HDV⟩ := (⟨_, rfl⟩ : ∃ dv, Hid (dv = Dv.wrote ⟨sm, h0, h1, ⟨dn, dt, dp, d0, d1, d2, d3⟩, wh, unl, off, cut, inn⟩ ⟨dn, dt - 1, dp, d0, d1, d2, d3⟩)); rw [← HDV.out] at hd2; have hdn : dv.k.num = dn + 1 := (by rw [HDV.out]; rfl); obtain ⟨b0, b1, b2, b3, b4, b5, b6⟩ := row7 hr2; have fz := hd2.frozen; have fb := hr2.frozen; obtain ⟨c0, c1, c2, c3, c4, c5, c6, c7, c8, c9, c10, c11, -⟩ := hd2.c) | (go_at_call 83; refine (ref_worn w g _ h).mono ?_; rintro _ w9 ⟨rfl, e9⟩; rw [e9]; clear e9 w9) | (go_at_call 83; refine (ref_worn w2 g dv hd2).mono ?_; rintro _ w9 ⟨rfl, e9⟩; rw [e9, hdn]; clear e9 w9) | (go_at_call 84; refine (ref_gone _ g dv ⟨dn, 5, dp, d0, d1, d2, d3⟩ (Row.setCell_other hd2 ⟨w.heap.size, 1, none⟩ _ hne) kf5 (by rw [HDV.out]; exact HSW.out) HG.out (by rw [HDV.out]; exact HW2.out) (by rw [HDV.out]; exact HCB.out)).mono ?_; rintro _ w3 ⟨rfl, hd3, hg3⟩; have hgr3 : w.grownBy w3 (some g) := (grown_new hgr w.heap.size 1 _ (Nat.le_refl _)).trans hg3; clear c0 c1 c2 c3 c4 c5 c6 c7 c8 c9 c10 c11 b0 b1 b2 b3 b4 b5 b6 fz fb hg3; have fz := hd3.frozen; obtain ⟨c0, c1, c2, c3, c4, c5, c6, c7, c8, c9, c10, c11, -⟩ := hd3.c))
  go_ret2
  refine ⟨rfl, ?_, hgr3⟩
  rw [HDV.out] at hd3
  exact hd3

set_option maxRecDepth 100000 in
set_option maxHeartbeats 1000000 in
theorem ref_unlockW_noC (w : World) (g : Nat) (d : Dv) (p : ByteArray) (h : DvAt w g d) (ok : d.sound) (hcut : whole d.cut) (hcutB : whole (d.wrote d.k.less).cut) (hs1 : 1 ≤ p.size) (hs2 : p.size ≤ 8) (ht : ¬ d.k.tries = 0) (hw : ¬ 4294967295 ≤ d.k.num) (hq : ¬ p = d.k.pin) (hz : d.k.tries - 1 = 0) (hw2 : ¬ 4294967295 ≤ d.k.num + 1) :
    Calls Tryz.prog 81 #[.pointer (some ⟨g, 0, none⟩), .string p] w (Left g w (d.unlock p)) := by
  have HE : Hid (d.unlock p = ((d.wrote d.k.less).lock.wrote d.k.less.bare, 3, [b8 (d.k.tries - 1)])) := by show _ = _; unfold Dv.unlock; rw [if_neg (by omega), if_neg ht, if_neg hw, if_pos hq, if_pos ⟨hz, hw2⟩]
  obtain ⟨sm, h0, h1, ⟨dn, dt, dp, d0, d1, d2, d3⟩, wh, unl, off, cut, inn⟩ := d
  obtain ⟨hn0, hn1, ht0, ht1, hp0, hp1, hk0, hk1, hk2, hk3, hwh, -, -, -⟩ := ok
  simp only at hn0 hn1 ht0 ht1 hp0 hp1 hk0 hk1 hk2 hk3 hwh hcut ht hw hq hz hw2
  obtain rfl : dt = 1 := by omega
  clear hz
  have q0 : ¬ (p.size : Int) < 1 := by omega
  have q1 : ¬ (8 : Int) < p.size := by omega
  have q2 : ¬ (1 : Int) = 0 := by omega
  have q3 : ¬ (4294967295 : Int) ≤ dn := by omega
  have hgl : g < w.heap.size := h.lt
  have hne : ¬ g = w.heap.size := by omega
  have hne' : ¬ w.heap.size = g := by omega
  obtain ⟨c0, c1, c2, c3, c4, c5, c6, c7, c8, c9, -⟩ := h.c
  simp only at c0 c1 c2 c3 c4 c5 c6 c7 c8 c9
  have kf1 : Kep.fair ⟨dn, 0, dp, d0, d1, d2, d3⟩ := ⟨by simp only; omega, by simp only; omega, by simp only; omega, by simp only; omega, by simp only; omega, by simp only; omega, by simp only; omega, by simp only; omega, by simp only; omega⟩
  have hqn := bytes_ne hq
  have hcv := fun (W : World) a => conv1d W a W.heap.size rfl
  have hw8 : ∀ x : Int, IntKind.u8.wrap x = x % 256 := u8_wrap
  have hwd : decide ((4294967295 : Int) ≤ dn + 1) = false := decide_eq_false hw2
  have kf6 : Kep.fair ⟨dn, 0, dp, ⟨#[]⟩, ⟨#[]⟩, ⟨#[]⟩, ⟨#[]⟩⟩ := ⟨kf1.n0, kf1.n1, kf1.t0, kf1.t1, kf1.pin, Nat.succ_pos _, Nat.succ_pos _, Nat.succ_pos _, Nat.succ_pos _⟩
  rw [HE.out]
  go_enter Tryz.func81, Tryz.ntmps81
  go_wp2_with (first | (go_at_call 84; have tok := kf1; clear kf1; refine (ref_whole _ g ⟨sm, h0, h1, ⟨dn, 1, dp, d0, d1, d2, d3⟩, wh, unl, off, cut, inn⟩ ⟨dn, 0, dp, d0, d1, d2, d3⟩ (Row.alloc h _) tok (by simp only; omega) (by simp only; omega) hwh hcut).mono ?_; rintro _ w2 ⟨rfl, hd2, hg2⟩; have hr2 : Row w2 w.heap.size [.int .i64 dn, .int .i64 (0), .string dp, .string d0, .string d1, .string d2, .string d3] 34 := Row.grown (Row.made w _ _) hg2 hne'; have hgr : w.grownBy w2 (some g) := (World.grownBy_alloc w _ _).trans hg2; clear hg2 c0 c1 c2 c3 c4 c5 c6 c7 c8 c9; obtain ⟨dv, HDV⟩ := (⟨_, rfl⟩ : ∃ dv, Hid (dv = Dv.wrote ⟨sm, h0, h1, ⟨dn, 1, dp, d0, d1, d2, d3⟩, wh, unl, off, cut, inn⟩ ⟨dn, 0, dp, d0, d1, d2, d3⟩)); rw [← HDV.out] at hd2; have hdn : dv.k.num = dn + 1 := (by rw [HDV.out]; rfl); obtain ⟨b0, b1, b2, b3, b4, b5, b6⟩ := row7 hr2; have fz := hd2.frozen; have fb := hr2.frozen; obtain ⟨c0, c1, c2, c3, c4, c5, c6, c7, c8, c9, c10, c11, -⟩ := hd2.c) | (go_at_call 83; refine (ref_worn w g _ h).mono ?_; rintro _ w9 ⟨rfl, e9⟩; rw [e9]; clear e9 w9) | (go_at_call 83; refine (ref_worn w2 g dv hd2).mono ?_; rintro _ w9 ⟨rfl, e9⟩; rw [e9, hdn]; clear e9 w9) | (go_at_call 84; have tok := kf6; clear kf6; refine (ref_whole _ g dv.lock ⟨dn, 0, dp, ⟨#[]⟩, ⟨#[]⟩, ⟨#[]⟩, ⟨#[]⟩⟩ (Row.setCell_other (Row.setCell_other (Row.setCell_other (Row.setCell_other (Row.setCell hd2 11 (.bool false)) ⟨w.heap.size, 3, none⟩ _ hne) ⟨w.heap.size, 4, none⟩ _ hne) ⟨w.heap.size, 5, none⟩ _ hne) ⟨w.heap.size, 6, none⟩ _ hne) tok (by show 0 ≤ dv.k.num; rw [hdn]; omega) (by show dv.k.num < _; rw [hdn]; omega) (by show dv.wh = 0 ∨ dv.wh = 1; rw [HDV.out]; simp only [Dv.wrote]; omega) (by show whole dv.cut; rw [HDV.out]; exact hcutB)).mono ?_; rintro _ w3 ⟨rfl, hd3, hg3⟩; have hgr3 : w.grownBy w3 (some g) := (grown_new (grown_new (grown_new (grown_new (grown_set hgr 11 _) w.heap.size 3 _ (Nat.le_refl _)) w.heap.size 4 _ (Nat.le_refl _)) w.heap.size 5 _ (Nat.le_refl _)) w.heap.size 6 _ (Nat.le_refl _)).trans hg3; have hr3 := Row.grown ((((Row.setCell_other hr2 ⟨g, 11, none⟩ (.bool false) hne').setCell 3 (.string ⟨#[]⟩)).setCell 4 (.string ⟨#[]⟩)).setCell 5 (.string ⟨#[]⟩) |>.setCell 6 (.string ⟨#[]⟩)) hg3 hne'; clear c0 c1 c2 c3 c4 c5 c6 c7 c8 c9 c10 c11 b0 b1 b2 b3 b4 b5 b6 fz fb hg3; have b1 := hr3.cell (i := 1)))
  have b1' : w3.cell? ⟨w.heap.size, 1, none⟩ = some (.int .i64 0) := b1
  clear b1
  go_region
  go_wp2
  go_ret2
  refine ⟨ret_pair rfl, ?_, grown_drew (grown_alloc hgr3 _)⟩
  have hfin := (Row.alloc hd3 (.cells #[.int .u8 0] 5)).drew
  rw [HDV.out] at hfin
  exact hfin

set_option maxRecDepth 100000 in
set_option maxHeartbeats 1000000 in
theorem ref_unlockT_noC (w : World) (g : Nat) (d : Dv) (p : ByteArray) (h : DvAt w g d) (ok : d.sound) (hcut : whole d.cut) (hcutB : 0 ≤ (d.wrote d.k.less).cut ∧ (d.wrote d.k.less).cut < 101) (SW : (d.wrote d.k.less).sound) (hs1 : 1 ≤ p.size) (hs2 : p.size ≤ 8) (ht : ¬ d.k.tries = 0) (hw : ¬ 4294967295 ≤ d.k.num) (hq : ¬ p = d.k.pin) (hz : d.k.tries - 1 = 0) (hw2 : ¬ 4294967295 ≤ d.k.num + 1) :
    Calls Tryz.prog 81 #[.pointer (some ⟨g, 0, none⟩), .string p] w (Left g w ((d.wrote d.k.less).lock.torn d.k.less.bare, 3, [b8 (d.k.tries - 1)])) := by
  have HG : Hid (d.k.less.bare.good) := ⟨ok.good.n0, ok.good.n1, by have := ok.t0; simp only [Kep.bare, Kep.less]; omega, by have := ok.t1; simp only [Kep.bare, Kep.less]; omega, ok.good.pin, Nat.zero_le _, Nat.zero_le _, Nat.zero_le _, Nat.zero_le _⟩
  have HW2 : Hid ((d.wrote d.k.less).k.num < 4294967295) := by show d.k.num + 1 < _; omega
  have HCB : Hid _ := hcutB
  have HSW : Hid _ := SW.lock
  clear hcutB SW
  obtain ⟨sm, h0, h1, ⟨dn, dt, dp, d0, d1, d2, d3⟩, wh, unl, off, cut, inn⟩ := d
  obtain ⟨hn0, hn1, ht0, ht1, hp0, hp1, hk0, hk1, hk2, hk3, hwh, -, -, -⟩ := ok
  simp only at hn0 hn1 ht0 ht1 hp0 hp1 hk0 hk1 hk2 hk3 hwh hcut ht hw hq hz hw2
  obtain rfl : dt = 1 := by omega
  clear hz
  have q0 : ¬ (p.size : Int) < 1 := by omega
  have q1 : ¬ (8 : Int) < p.size := by omega
  have q2 : ¬ (1 : Int) = 0 := by omega
  have q3 : ¬ (4294967295 : Int) ≤ dn := by omega
  have hgl : g < w.heap.size := h.lt
  have hne : ¬ g = w.heap.size := by omega
  have hne' : ¬ w.heap.size = g := by omega
  obtain ⟨c0, c1, c2, c3, c4, c5, c6, c7, c8, c9, -⟩ := h.c
  simp only at c0 c1 c2 c3 c4 c5 c6 c7 c8 c9
  have kf1 : Kep.fair ⟨dn, 0, dp, d0, d1, d2, d3⟩ := ⟨by simp only; omega, by simp only; omega, by simp only; omega, by simp only; omega, by simp only; omega, by simp only; omega, by simp only; omega, by simp only; omega, by simp only; omega⟩
  have hqn := bytes_ne hq
  have hcv := fun (W : World) a => conv1d W a W.heap.size rfl
  have hw8 : ∀ x : Int, IntKind.u8.wrap x = x % 256 := u8_wrap
  have hwd : decide ((4294967295 : Int) ≤ dn + 1) = false := decide_eq_false hw2
  have kf6 : Kep.fair ⟨dn, 0, dp, ⟨#[]⟩, ⟨#[]⟩, ⟨#[]⟩, ⟨#[]⟩⟩ := ⟨kf1.n0, kf1.n1, kf1.t0, kf1.t1, kf1.pin, Nat.succ_pos _, Nat.succ_pos _, Nat.succ_pos _, Nat.succ_pos _⟩
  go_enter Tryz.func81, Tryz.ntmps81
  go_wp2_with (first | (go_at_call 84; have tok := kf1; clear kf1; refine (ref_whole _ g ⟨sm, h0, h1, ⟨dn, 1, dp, d0, d1, d2, d3⟩, wh, unl, off, cut, inn⟩ ⟨dn, 0, dp, d0, d1, d2, d3⟩ (Row.alloc h _) tok (by simp only; omega) (by simp only; omega) hwh hcut).mono ?_; rintro _ w2 ⟨rfl, hd2, hg2⟩; have hr2 : Row w2 w.heap.size [.int .i64 dn, .int .i64 (0), .string dp, .string d0, .string d1, .string d2, .string d3] 34 := Row.grown (Row.made w _ _) hg2 hne'; have hgr : w.grownBy w2 (some g) := (World.grownBy_alloc w _ _).trans hg2; clear hg2 c0 c1 c2 c3 c4 c5 c6 c7 c8 c9; obtain ⟨dv, HDV⟩ := (⟨_, rfl⟩ : ∃ dv, Hid (dv = Dv.wrote ⟨sm, h0, h1, ⟨dn, 1, dp, d0, d1, d2, d3⟩, wh, unl, off, cut, inn⟩ ⟨dn, 0, dp, d0, d1, d2, d3⟩)); rw [← HDV.out] at hd2; have hdn : dv.k.num = dn + 1 := (by rw [HDV.out]; rfl); obtain ⟨b0, b1, b2, b3, b4, b5, b6⟩ := row7 hr2; have fz := hd2.frozen; have fb := hr2.frozen; obtain ⟨c0, c1, c2, c3, c4, c5, c6, c7, c8, c9, c10, c11, -⟩ := hd2.c) | (go_at_call 83; refine (ref_worn w g _ h).mono ?_; rintro _ w9 ⟨rfl, e9⟩; rw [e9]; clear e9 w9) | (go_at_call 83; refine (ref_worn w2 g dv hd2).mono ?_; rintro _ w9 ⟨rfl, e9⟩; rw [e9, hdn]; clear e9 w9) | (go_at_call 84; have tok := kf6; clear kf6; refine (ref_gone _ g dv.lock ⟨dn, 0, dp, ⟨#[]⟩, ⟨#[]⟩, ⟨#[]⟩, ⟨#[]⟩⟩ (Row.setCell_other (Row.setCell_other (Row.setCell_other (Row.setCell_other (Row.setCell hd2 11 (.bool false)) ⟨w.heap.size, 3, none⟩ _ hne) ⟨w.heap.size, 4, none⟩ _ hne) ⟨w.heap.size, 5, none⟩ _ hne) ⟨w.heap.size, 6, none⟩ _ hne) tok (by rw [HDV.out]; exact HSW.out) HG.out (by rw [HDV.out]; exact HW2.out) (by rw [HDV.out]; exact HCB.out)).mono ?_; rintro _ w3 ⟨rfl, hd3, hg3⟩; have hgr3 : w.grownBy w3 (some g) := (grown_new (grown_new (grown_new (grown_new (grown_set hgr 11 _) w.heap.size 3 _ (Nat.le_refl _)) w.heap.size 4 _ (Nat.le_refl _)) w.heap.size 5 _ (Nat.le_refl _)) w.heap.size 6 _ (Nat.le_refl _)).trans hg3; have hr3 := Row.grown ((((Row.setCell_other hr2 ⟨g, 11, none⟩ (.bool false) hne').setCell 3 (.string ⟨#[]⟩)).setCell 4 (.string ⟨#[]⟩)).setCell 5 (.string ⟨#[]⟩) |>.setCell 6 (.string ⟨#[]⟩)) hg3 hne'; clear c0 c1 c2 c3 c4 c5 c6 c7 c8 c9 c10 c11 b0 b1 b2 b3 b4 b5 b6 fz fb hg3; have b1 := hr3.cell (i := 1)))
  have b1' : w3.cell? ⟨w.heap.size, 1, none⟩ = some (.int .i64 0) := b1
  clear b1
  go_region
  go_wp2
  go_ret2
  refine ⟨ret_pair rfl, ?_, grown_drew (grown_alloc hgr3 _)⟩
  have hfin := (Row.alloc hd3 (.cells #[.int .u8 0] 5)).drew
  rw [HDV.out] at hfin
  exact hfin

set_option maxRecDepth 100000 in
set_option maxHeartbeats 1000000 in
theorem ref_unlockT_first (w : World) (g : Nat) (d : Dv) (p : ByteArray) (h : DvAt w g d) (ok : d.sound) (hcut : 0 ≤ d.cut ∧ d.cut < 101) (hs1 : 1 ≤ p.size) (hs2 : p.size ≤ 8) (ht : ¬ d.k.tries = 0) (hw : ¬ 4294967295 ≤ d.k.num) :
    Calls Tryz.prog 81 #[.pointer (some ⟨g, 0, none⟩), .string p] w (Left g w (d.torn d.k.less, 0, [])) := by
  have HG : Hid (d.k.less.good) := less_goodS ok.good ht
  have HW : Hid (d.k.num < 4294967295) := by show d.k.num < _; omega
  have HCB : Hid _ := hcut
  have HSW : Hid _ := ok
  clear hcut
  obtain ⟨sm, h0, h1, ⟨dn, dt, dp, d0, d1, d2, d3⟩, wh, unl, off, cut, inn⟩ := d
  obtain ⟨hn0, hn1, ht0, ht1, hp0, hp1, hk0, hk1, hk2, hk3, hwh, -, -, -⟩ := ok
  simp only at hn0 hn1 ht0 ht1 hp0 hp1 hk0 hk1 hk2 hk3 hwh ht hw
  have q0 : ¬ (p.size : Int) < 1 := by omega
  have q1 : ¬ (8 : Int) < p.size := by omega
  have q2 : ¬ dt = 0 := by omega
  have q3 : ¬ (4294967295 : Int) ≤ dn := by omega
  have hgl : g < w.heap.size := h.lt
  have hne : ¬ g = w.heap.size := by omega
  have hne' : ¬ w.heap.size = g := by omega
  obtain ⟨c0, c1, c2, c3, c4, c5, c6, c7, c8, c9, -⟩ := h.c
  simp only at c0 c1 c2 c3 c4 c5 c6 c7 c8 c9
  have kf1 : Kep.fair ⟨dn, dt - 1, dp, d0, d1, d2, d3⟩ := ⟨by simp only; omega, by simp only; omega, by simp only; omega, by simp only; omega, by simp only; omega, by simp only; omega, by simp only; omega, by simp only; omega, by simp only; omega⟩
  go_enter Tryz.func81, Tryz.ntmps81
  go_wp2_with (first | (go_at_call 84; have tok := kf1; clear kf1; refine (ref_gone _ g ⟨sm, h0, h1, ⟨dn, dt, dp, d0, d1, d2, d3⟩, wh, unl, off, cut, inn⟩ ⟨dn, dt - 1, dp, d0, d1, d2, d3⟩ (Row.alloc h _) tok HSW.out HG.out HW.out HCB.out).mono ?_; rintro _ w2 ⟨rfl, hd2, hg2⟩) | (go_at_call 83; refine (ref_worn w g _ h).mono ?_; rintro _ w9 ⟨rfl, e9⟩; rw [e9]; clear e9 w9))
  go_ret2
  exact ⟨rfl, hd2, (World.grownBy_alloc w _ _).trans hg2⟩
end Go.Proofs.YtaokemapkgggoaaGreatDoor
