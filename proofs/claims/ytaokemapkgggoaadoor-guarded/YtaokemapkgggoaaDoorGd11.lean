import Derived.Test.YtaokemapkgggoaaDoorGd10
import Derived.Test.YtaokemapkgggoaaDoorGd09
namespace Go.Proofs.YtaokemapkgggoaaDoor
open Go.RowKit

/-- nine cells in the middle of a row -/
theorem row_set9 {w : World} {g : Nat} {cs : List Value} {t : TypeId} (h : Row w g cs t) (o : Nat) (a b c d e f i j k : Value) :
    Row (((((((((w.setCell ⟨g, o, none⟩ a).setCell ⟨g, o + 1, none⟩ b).setCell ⟨g, o + 2, none⟩ c).setCell ⟨g, o + 3, none⟩ d).setCell ⟨g, o + 4, none⟩ e).setCell ⟨g, o + 5, none⟩ f).setCell ⟨g, o + 6, none⟩ i).setCell ⟨g, o + 7, none⟩ j).setCell ⟨g, o + 8, none⟩ k) g
      (((((((((cs.set o a).set (o + 1) b).set (o + 2) c).set (o + 3) d).set (o + 4) e).set (o + 5) f).set (o + 6) i).set (o + 7) j).set (o + 8) k) t :=
  ((((((((h.setCell _ _).setCell _ _).setCell _ _).setCell _ _).setCell _ _).setCell _ _).setCell _ _).setCell _ _).setCell _ _

/-- the first image, ahead of its number: tries, PIN -/
def rawFirst (pf : List UInt8) : List UInt8 := [0, 0, 0, 0, 0, 5] ++ pf ++ List.replicate 85 0
theorem rawFirst_cells (p0 p1 p2 p3 p4 p5 p6 p7 p8 : UInt8) : (((((((((((zrow 100 (.int .u8 0)).set 5 (.int .u8 5)).set 6 (.int .u8 p0.toNat)).set (6 + 1) (.int .u8 p1.toNat)).set (6 + 2) (.int .u8 p2.toNat)).set (6 + 3) (.int .u8 p3.toNat)).set (6 + 4) (.int .u8 p4.toNat)).set (6 + 5) (.int .u8 p5.toNat)).set (6 + 6) (.int .u8 p6.toNat)).set (6 + 7) (.int .u8 p7.toNat)).set (6 + 8) (.int .u8 p8.toNat)) = bcells (rawFirst [p0, p1, p2, p3, p4, p5, p6, p7, p8]) := rfl
theorem below_of_grown {w W W' : World} {g : Nat} (h : Below w.heap.size w W) (hg : w.heap.size ≤ g) (hw : W.grownBy W' (some g)) : Below w.heap.size w W' :=
  h.trans ⟨hw.os, hw.tape, hw.output, hw.size, fun k hk => hw.block k (Nat.lt_of_lt_of_le hk h.size) (by intro e; have := Option.some.inj e; omega)⟩
theorem cell_of_bcells {w : World} {g : Nat} {l : List UInt8} {t : TypeId} (h : Row w g (bcells l) t) (i : Nat) (hi : i < l.length) : w.cell? ⟨g, i, none⟩ = some (.int .u8 (bAt l i)) := by
  rw [h.cell]; exact bcells_get l i hi
theorem rawFirst_length (pf : List UInt8) (h : pf.length = 9) : (rawFirst pf).length = 100 := by simp [rawFirst, h]

set_option maxRecDepth 100000 in
set_option maxHeartbeats 1000000 in
theorem prog_firstImage (w : World) (p0 p1 p2 p3 p4 p5 p6 p7 p8 : UInt8) :
    Calls Tryd.prog 43 #[.agg (bcells [p0, p1, p2, p3, p4, p5, p6, p7, p8]).toArray] w fun r w' => r = .returned (.agg (bcells ((turned (rawFirst [p0, p1, p2, p3, p4, p5, p6, p7, p8])).set 0 167)).toArray) ∧ Below w.heap.size w w' := by
  obtain ⟨tl, HTL⟩ : ∃ tl, Hid (tl = turned (rawFirst [p0, p1, p2, p3, p4, p5, p6, p7, p8])) := ⟨_, rfl⟩
  have HLL : Hid (tl.length = 100) := by show _ = _; rw [HTL.out]; exact turned_length _ (rawFirst_length _ rfl)
  rw [← HTL.out]
  go_enter Tryd.func43, Tryd.ntmps43
  go_wp2_with (first | (refine wpList_boxR rfl 87 _ rfl (bcells [p0, p1, p2, p3, p4, p5, p6, p7, p8]) rfl ?_; go_simp) | (refine wpList_allocR rfl 75 rfl 100 (.int .u8 0) arr100b ?_; go_simp))
  have r1 : Row (((w.alloc (.cells (bcells [p0, p1, p2, p3, p4, p5, p6, p7, p8]).toArray 87)).alloc (.cells (zrow 100 (.int .u8 0)).toArray 75)).alloc (.cells ((zrow 100 (.int .u8 0)).set 5 (.int .u8 5)).toArray 75)) w.heap.size (bcells [p0, p1, p2, p3, p4, p5, p6, p7, p8]) 87 := ((Row.made _ _ _).alloc _).alloc _
  have r2 : Row (((w.alloc (.cells (bcells [p0, p1, p2, p3, p4, p5, p6, p7, p8]).toArray 87)).alloc (.cells (zrow 100 (.int .u8 0)).toArray 75)).alloc (.cells ((zrow 100 (.int .u8 0)).set 5 (.int .u8 5)).toArray 75)) (w.heap.size + 1) (zrow 100 (.int .u8 0)) 75 := (Row.made1 _ _ _ _).alloc _
  have r3 : Row (((w.alloc (.cells (bcells [p0, p1, p2, p3, p4, p5, p6, p7, p8]).toArray 87)).alloc (.cells (zrow 100 (.int .u8 0)).toArray 75)).alloc (.cells ((zrow 100 (.int .u8 0)).set 5 (.int .u8 5)).toArray 75)) (w.heap.size + 1 + 1) ((zrow 100 (.int .u8 0)).set 5 (.int .u8 5)) 75 := by
    have := Row.made1 (w.alloc (.cells (bcells [p0, p1, p2, p3, p4, p5, p6, p7, p8]).toArray 87)) (.cells (zrow 100 (.int .u8 0)).toArray 75) ((zrow 100 (.int .u8 0)).set 5 (.int .u8 5)) 75
    rwa [World.size_alloc] at this
  have hB : Below w.heap.size w (((w.alloc (.cells (bcells [p0, p1, p2, p3, p4, p5, p6, p7, p8]).toArray 87)).alloc (.cells (zrow 100 (.int .u8 0)).toArray 75)).alloc (.cells ((zrow 100 (.int .u8 0)).set 5 (.int .u8 5)).toArray 75)) := (((Below.refl _ _).alloc (Nat.le_refl _) _).alloc (by simp) _).alloc (by simp; omega) _
  generalize ((w.alloc (.cells (bcells [p0, p1, p2, p3, p4, p5, p6, p7, p8]).toArray 87)).alloc (.cells (zrow 100 (.int .u8 0)).toArray 75)).alloc (.cells ((zrow 100 (.int .u8 0)).set 5 (.int .u8 5)).toArray 75) = wz at *
  have a0 : wz.cell? ⟨w.heap.size, 0, none⟩ = some (.int .u8 p0.toNat) := r1.cell
  have a1 : wz.cell? ⟨w.heap.size, 1, none⟩ = some (.int .u8 p1.toNat) := r1.cell
  have a2 : wz.cell? ⟨w.heap.size, 2, none⟩ = some (.int .u8 p2.toNat) := r1.cell
  have a3 : wz.cell? ⟨w.heap.size, 3, none⟩ = some (.int .u8 p3.toNat) := r1.cell
  have a4 : wz.cell? ⟨w.heap.size, 4, none⟩ = some (.int .u8 p4.toNat) := r1.cell
  have a5 : wz.cell? ⟨w.heap.size, 5, none⟩ = some (.int .u8 p5.toNat) := r1.cell
  have a6 : wz.cell? ⟨w.heap.size, 6, none⟩ = some (.int .u8 p6.toNat) := r1.cell
  have a7 : wz.cell? ⟨w.heap.size, 7, none⟩ = some (.int .u8 p7.toNat) := r1.cell
  have a8 : wz.cell? ⟨w.heap.size, 8, none⟩ = some (.int .u8 p8.toNat) := r1.cell
  have z0 : wz.cell? ⟨w.heap.size + 1 + 1, 6, none⟩ = some (.int .u8 0) := r3.cell
  have z1 : wz.cell? ⟨w.heap.size + 1 + 1, 7, none⟩ = some (.int .u8 0) := r3.cell
  have z2 : wz.cell? ⟨w.heap.size + 1 + 1, 8, none⟩ = some (.int .u8 0) := r3.cell
  have z3 : wz.cell? ⟨w.heap.size + 1 + 1, 9, none⟩ = some (.int .u8 0) := r3.cell
  have z4 : wz.cell? ⟨w.heap.size + 1 + 1, 10, none⟩ = some (.int .u8 0) := r3.cell
  have z5 : wz.cell? ⟨w.heap.size + 1 + 1, 11, none⟩ = some (.int .u8 0) := r3.cell
  have z6 : wz.cell? ⟨w.heap.size + 1 + 1, 12, none⟩ = some (.int .u8 0) := r3.cell
  have z7 : wz.cell? ⟨w.heap.size + 1 + 1, 13, none⟩ = some (.int .u8 0) := r3.cell
  have z8 : wz.cell? ⟨w.heap.size + 1 + 1, 14, none⟩ = some (.int .u8 0) := r3.cell
  have fz := r3.frozen
  have hne : ¬ w.heap.size = w.heap.size + 1 + 1 := by omega
  go_region_with (first | (go_at_call 59; refine (prog_pin _ (w.heap.size + 1 + 1) 0).mono ?_; rintro _ w9 ⟨rfl, e9⟩; rw [e9]; clear e9 w9))
  all_goals
    clear a0 a1 a2 a3 a4 a5 a6 a7 a8 z0 z1 z2 z3 z4 z5 z6 z7 z8 fz
    have r4 := (row_set9 r3 6 (.int .u8 p0.toNat) (.int .u8 p1.toNat) (.int .u8 p2.toNat) (.int .u8 p3.toNat) (.int .u8 p4.toNat) (.int .u8 p5.toNat) (.int .u8 p6.toNat) (.int .u8 p7.toNat) (.int .u8 p8.toNat)).drew
    rw [rawFirst_cells] at r4
    have hg4 : wz.grownBy (((((((((wz.setCell ⟨w.heap.size + 1 + 1, 6, none⟩ (.int .u8 p0.toNat)).setCell ⟨w.heap.size + 1 + 1, 7, none⟩ (.int .u8 p1.toNat)).setCell ⟨w.heap.size + 1 + 1, 8, none⟩ (.int .u8 p2.toNat)).setCell ⟨w.heap.size + 1 + 1, 9, none⟩ (.int .u8 p3.toNat)).setCell ⟨w.heap.size + 1 + 1, 10, none⟩ (.int .u8 p4.toNat)).setCell ⟨w.heap.size + 1 + 1, 11, none⟩ (.int .u8 p5.toNat)).setCell ⟨w.heap.size + 1 + 1, 12, none⟩ (.int .u8 p6.toNat)).setCell ⟨w.heap.size + 1 + 1, 13, none⟩ (.int .u8 p7.toNat)).setCell ⟨w.heap.size + 1 + 1, 14, none⟩ (.int .u8 p8.toNat)).drew (some (w.heap.size + 1 + 1)) := grown_drew (grown_set (grown_set (grown_set (grown_set (grown_set (grown_set (grown_set (grown_set (grown_set (World.grownBy.refl _ _) 6 _) 7 _) 8 _) 9 _) 10 _) 11 _) 12 _) 13 _) 14 _)
    generalize (((((((((wz.setCell ⟨w.heap.size + 1 + 1, 6, none⟩ (.int .u8 p0.toNat)).setCell ⟨w.heap.size + 1 + 1, 7, none⟩ (.int .u8 p1.toNat)).setCell ⟨w.heap.size + 1 + 1, 8, none⟩ (.int .u8 p2.toNat)).setCell ⟨w.heap.size + 1 + 1, 9, none⟩ (.int .u8 p3.toNat)).setCell ⟨w.heap.size + 1 + 1, 10, none⟩ (.int .u8 p4.toNat)).setCell ⟨w.heap.size + 1 + 1, 11, none⟩ (.int .u8 p5.toNat)).setCell ⟨w.heap.size + 1 + 1, 12, none⟩ (.int .u8 p6.toNat)).setCell ⟨w.heap.size + 1 + 1, 13, none⟩ (.int .u8 p7.toNat)).setCell ⟨w.heap.size + 1 + 1, 14, none⟩ (.int .u8 p8.toNat)).drew = w4 at *
    have hB4 : Below w.heap.size w w4 := below_of_grown hB (by omega) hg4
    have r2' : Row w4 (w.heap.size + 1) (zrow 100 (.int .u8 0)) 75 := Row.grown r2 hg4 (by omega)
    clear r1 r2 r3 hg4 hB
    have hz1 : w.heap.size ≤ w.heap.size + 1 := by omega
    have hz2 : w.heap.size ≤ w.heap.size + 1 + 1 := by omega
    have hzn : ¬ w.heap.size + 1 = w.heap.size + 1 + 1 := by omega
    go_wp2_with (first | (go_at_call 60; refine (prog_turnNumber _ (w.heap.size + 1 + 1) _ r4 (rawFirst_length _ rfl)).mono ?_; rintro _ w5 ⟨rfl, r5, hg5⟩; rw [← HTL.out] at r5; have r6 : Row w5 (w.heap.size + 1) (zrow 100 (.int .u8 0)) 75 := Row.grown r2' hg5 hzn; have hB5 := below_of_grown hB4 hz2 hg5; clear hg5 r2' r4 hB4; have c0 := cell_of_bcells r5 0 (by rw [HLL.out]; omega); have f0 := r5.frozen 0) | (refine wpList_loadR rfl 75 _ rfl (w.heap.size + 1 + 1) rfl 75 (bcells (tl.set 0 167)) 100 (.int .u8 0) (by have := r5.setCell 0 (.int .u8 167); rwa [bcells_set _ _ _ (by omega) (by omega)] at this) arr100b (by rw [bcells_length, List.length_set, HLL.out]) ?_; go_simp) | (refine wpList_storeR rfl 75 _ _ rfl (w.heap.size + 1) rfl (bcells (tl.set 0 167)) rfl 75 (zrow 100 (.int .u8 0)) 100 (.int .u8 0) (Row.setCell_other r6 _ _ hzn) arr100b (by rw [bcells_length, List.length_set, HLL.out]) (zrow_length _ _) (bcells_one _) ?_; go_simp))
    exact bodyPost_ret (v := .agg (bcells (tl.set 0 167)).toArray) (results_row Tryd.results43 _ (w.heap.size + 1) 75 (bcells (tl.set 0 167)) 100 (.int .u8 0) rfl (Row.setRow (Row.setCell_other r6 _ _ hzn) _) arr100b (by rw [bcells_length, List.length_set, HLL.out])) rfl ⟨rfl, below_setRow (hB5.setCell hz2 _) hz1 _⟩
end Go.Proofs.YtaokemapkgggoaaDoor

namespace Go.Proofs.YtaokemapkgggoaaDoor
open Go.RowKit

/-- is a field right: no longer than it has room, and bytes 0 behind it? -/
def restZero (l : List UInt8) (m : Nat) : Prop := ∀ i, m ≤ i → i < l.length → bAt l i = 0

set_option maxRecDepth 100000 in
set_option maxHeartbeats 1000000 in
/-- a field whose length is m, with bytes 0 behind it -/
theorem prog_rightField_yes (w : World) (g o n m : Nat) (l : List UInt8) (hR : w.rangeAt g o (bcells l)) (hl : l.length = n) (hn : n ≤ 100) (h0 : bAt l 0 = m) (hm : m < n) (hz : restZero l (1 + m)) :
    Calls Tryd.prog 69 #[.slice (some ⟨g, o, none⟩) n n] w fun r w' => r = .returned (.bool true) ∧ w' = w := by
  have c0 := range_byte hR 0 (by omega)
  rw [h0, Nat.add_zero] at c0
  have HL : Hid (l.length = n) := hl
  clear hl h0
  have HZ : Hid (restZero l (1 + m)) := hz
  clear hz
  have e1 : ¬ (n : Int) ≤ m := by omega
  have e2 : IntKind.i64.wrap (1 + (m : Int)) = 1 + (m : Int) := wrap_id _ (by omega) (by omega)
  have e3 : (1 + (m : Int)).toNat = 1 + m := by omega
  have e4 : (1 + (m : Int)) ≤ n := by omega
  have e5 : (0 : Int) ≤ 1 + (m : Int) := by omega
  by_cases hend : 1 + m = n
  · subst hend
    go_enter Tryd.func69, Tryd.ntmps69
    go_wp2
    go_loopw [19] (fun c wr => c = .int .i64 0 ∧ wr = w) (fun _ _ => 0)
    case atStart => exact ⟨rfl, rfl⟩
    case round =>
      obtain ⟨rfl, rfl⟩ := hrel
      go_wp2
      go_ret
      exact ⟨rfl, rfl⟩
  · have hend' : ¬ n = 1 + m := fun e => hend e.symm
    go_enter Tryd.func69, Tryd.ntmps69
    go_wp2
    go_loopw [19] (fun c wr => ∃ i : Nat, i ≤ n - (1 + m) ∧ c = .int .i64 i ∧ wr = w) (fun c _ => n - (1 + m) - (intOf c).toNat)
    case atStart => exact ⟨0, by omega, rfl, rfl⟩
    case round =>
      obtain ⟨i, hi, rfl, rfl⟩ := hrel
      by_cases hlt : i < n - (1 + m)
      · have hc := range_byte hR (1 + m + i) (by rw [HL.out]; omega)
        rw [HZ.out (1 + m + i) (by omega) (by rw [HL.out]; omega), ← Nat.add_assoc] at hc
        have hlt' : (i : Int) < ((n - (1 + m) : Nat) : Int) := by omega
        have hi0 : (0 : Int) ≤ i := by omega
        go_wp2
        exact ⟨⟨i + 1, by omega, by go_num, trivial⟩, by simp [intOf]; omega⟩
      · have hlt' : ¬ (i : Int) < ((n - (1 + m) : Nat) : Int) := by omega
        go_wp2
        go_ret
        exact ⟨rfl, rfl⟩

/-- the field of n cells from place a on -/
def fieldAt (l : List UInt8) (a n : Nat) : List UInt8 := (l.drop a).take n
theorem fieldAt_length (l : List UInt8) (a n : Nat) (h : a + n ≤ l.length) : (fieldAt l a n).length = n := by simp [fieldAt]; omega
/-- a right image -/
structure RightL (l : List UInt8) : Prop where
  len : l.length = 100
  mark : bAt l 0 = 167
  num : ¬ numOf l = 0
  tries : bAt l 5 ≤ 5
  pin0 : ¬ bAt l 6 = 0
  pin : ∃ m : Nat, bAt (fieldAt l 6 9) 0 = m ∧ m < 9 ∧ restZero (fieldAt l 6 9) (1 + m)
  keys : ∀ i, i < 4 → ∃ m : Nat, bAt (fieldAt l (15 + 21 * i) 21) 0 = m ∧ m < 21 ∧ restZero (fieldAt l (15 + 21 * i) 21) (1 + m)
  sum : bAt l 99 = chkOf l

set_option maxRecDepth 100000 in
set_option maxHeartbeats 1000000 in
theorem prog_rightKeys (w : World) (g o : Nat) (l : List UInt8) (h : ImgAt w g o l) (hk : ∀ i, i < 4 → ∃ m : Nat, bAt (fieldAt l (15 + 21 * i) 21) 0 = m ∧ m < 21 ∧ restZero (fieldAt l (15 + 21 * i) 21) (1 + m)) :
    Calls Tryd.prog 70 #[.pointer (some ⟨g, o, none⟩)] w fun r w' => r = .returned (.bool true) ∧ w' = w := by
  have HK : Hid _ := hk
  clear hk
  go_enter Tryd.func70, Tryd.ntmps70
  go_wp2
  go_loopw [4] (fun c wr => ∃ i : Nat, i ≤ 4 ∧ c = .int .i64 i ∧ wr = w) (fun c _ => 4 - (intOf c).toNat)
  case atStart => exact ⟨0, by omega, rfl, rfl⟩
  case round =>
    obtain ⟨i, hi, rfl, hw⟩ := hrel
    rw [hw]
    clear hw
    by_cases hlt : i < 4
    · have hlt' : (i : Int) < 4 := by omega
      obtain ⟨m, hm0, hm1, hm2⟩ := HK.out i hlt
      have hcall := prog_rightField_yes w g (o + (15 + 21 * i)) 21 m _ (range_sub h.at_ (15 + 21 * i) 21) (fieldAt_length l _ 21 (by rw [h.len]; omega)) (by omega) hm0 hm1 hm2
      clear hm0 hm2
      go_wp2_with (first | (go_at_call 77; refine (prog_key w g o i hlt).mono ?_; rintro _ w9 ⟨rfl, e9⟩; rw [e9]; clear e9 w9) | (go_at_call 69; refine hcall.mono ?_; rintro _ w9 ⟨rfl, e9⟩; rw [e9]; clear e9 w9))
      exact ⟨⟨i + 1, by omega, by go_num, trivial⟩, by simp [intOf]; omega⟩
    · have hlt' : ¬ (i : Int) < 4 := by omega
      go_wp2
      go_ret
      exact ⟨rfl, rfl⟩

theorem ImgAt.drewN {w : World} {g o : Nat} {l : List UInt8} (h : ImgAt w g o l) (n : Nat) : ImgAt (w.drewN n) g o l := ⟨h.len, h.at_⟩

set_option maxRecDepth 100000 in
set_option maxHeartbeats 2000000 in
theorem prog_right_yes (w : World) (g o : Nat) (l : List UInt8) (h : ImgAt w g o l) (hr : RightL l) :
    Calls Tryd.prog 57 #[.pointer (some ⟨g, o, none⟩)] w fun r w' => r = .returned (.bool true) ∧ ∃ n, w' = w.drewN n := by
  have c0 := h.b 0 (by omega)
  have c5 := h.b 5 (by omega)
  have c6 := h.b 6 (by omega)
  have c99 := h.b 99 (by omega)
  rw [hr.mark, Nat.add_zero] at c0
  rw [hr.sum] at c99
  have t5 := hr.tries
  have p6 := hr.pin0
  obtain ⟨b50, b51⟩ := bAt_B l 5
  obtain ⟨b60, b61⟩ := bAt_B l 6
  have nz := hr.num
  obtain ⟨m, hm0', hm1, hm2'⟩ := hr.pin
  have hm0 : Hid _ := hm0'
  have hm2 : Hid _ := hm2'
  clear hm0' hm2'
  generalize bAt l 5 = x5 at *
  generalize bAt l 6 = x6 at *
  go_enter Tryd.func57, Tryd.ntmps57
  go_wp2
  go_quiet (first | (go_at_call 58; exact Calls.quiet_of (prog_number _ g o l (h.drewN _))) | (go_at_call 59; exact Calls.quiet_of_same (prog_pin _ g o)) | (go_at_call 69; exact Calls.quiet_of_same (prog_rightField_yes _ g (o + 6) 9 m _ (range_sub (h.drewN _).at_ 6 9) (fieldAt_length l _ 9 (by rw [h.len]; omega)) (by omega) hm0.out hm1 hm2.out)) | (go_at_call 70; exact Calls.quiet_of_same (prog_rightKeys _ g o l (h.drewN _) hr.keys)) | (go_at_call 71; exact Calls.quiet_of_same (prog_check _ g o l (h.drewN _))))
  go_wp2
  go_ret
  exact ⟨ret_bool (by simp [nz, p6]), _, rfl⟩

set_option maxRecDepth 100000 in
set_option maxHeartbeats 2000000 in
theorem prog_right_no (w : World) (g o : Nat) (l : List UInt8) (h : ImgAt w g o l) (hr : ¬ bAt l 0 = 167) :
    Calls Tryd.prog 57 #[.pointer (some ⟨g, o, none⟩)] w fun r w' => r = .returned (.bool false) ∧ ∃ n, w' = w.drewN n := by
  have c0 := h.b 0 (by omega)
  rw [Nat.add_zero] at c0
  generalize bAt l 0 = x0 at *
  go_enter Tryd.func57, Tryd.ntmps57
  go_wp2
  go_quiet (fail)
  go_wp2
  go_ret
  exact ⟨rfl, _, rfl⟩
end Go.Proofs.YtaokemapkgggoaaDoor
