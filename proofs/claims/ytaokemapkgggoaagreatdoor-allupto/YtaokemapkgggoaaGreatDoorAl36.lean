import Derived.Test.YtaokemapkgggoaaGreatDoorAl35
namespace Go.Proofs.YtaokemapkgggoaaGreatDoor
open Go.RowKit

theorem ref_read_yes (w : World) (t : ByteArray) (ht : t.size = 100) (h : readOk t.data.toList) :
    Calls Tryz.prog 60 #[.string t] w fun r w' => r = .returned (.tuple #[.agg (readK t.data.toList).cells.toArray, .bool true]) ∧ Below w.heap.size w w' := by
  refine (ref_read w t ht).mono ?_
  rintro r w' ⟨e | e, hb⟩
  · exact ⟨e.2, hb⟩
  · exact absurd h e.1
theorem ref_read_no (w : World) (t : ByteArray) (ht : t.size = 100) (h : ¬ readOk t.data.toList) :
    Calls Tryz.prog 60 #[.string t] w fun r w' => r = .returned (.tuple #[.agg zeroK.cells.toArray, .bool false]) ∧ Below w.heap.size w w' := by
  refine (ref_read w t ht).mono ?_
  rintro r w' ⟨e | e, hb⟩
  · exact absurd e.1 h
  · exact ⟨e.2, hb⟩

def Dv.base (d : Dv) : Dv := { d with unl := false, inn := ⟨#[]⟩, cut := -1, off := true }
/-- a device is booted -/
def Dv.bootC (d : Dv) : Dv × Int :=
  if ¬ readOk (Bs d.h0) ∧ ¬ readOk (Bs d.h1) then (d.base, 2)
  else if ¬ readOk (Bs d.h0) ∨ (readOk (Bs d.h1) ∧ (readK (Bs d.h0)).num < (readK (Bs d.h1)).num) then ({ d.base with off := false, k := readK (Bs d.h1), wh := 1 }, 0)
  else ({ d.base with off := false, k := readK (Bs d.h0), wh := 0 }, 0)

theorem ref_SetCut (w : World) (g : Nat) (d : Dv) (n : Int) (h : DvAt w g d) :
    Calls Tryz.prog 34 #[.pointer (some ⟨g, 0, none⟩), .int .i64 n] w fun r w' => r = .returned (.int .i64 (if n < 0 then 3 else 0)) ∧ DvAt w' g (if n < 0 then d else { d with cut := n }) ∧ w.grownBy w' (some g) := by
  have c13 := h.c.2.2.2.2.2.2.2.2.2.2.2.2.2.1
  have f13 := h.frozen 13
  by_cases hn : n < 0
  · rw [if_pos hn, if_pos hn]
    go_enter Tryz.func34, Tryz.ntmps34
    go_wp2
    go_ret
    exact ⟨rfl, h, World.grownBy.refl _ _⟩
  · rw [if_neg hn, if_neg hn]
    go_enter Tryz.func34, Tryz.ntmps34
    go_wp2
    go_ret
    exact ⟨rfl, Row.setCell h 13 (.int .i64 n), grown_set (World.grownBy.refl _ _) 13 _⟩

theorem Row.ne' {w : World} {a b : Nat} {cs ds : List Value} {s t : TypeId} (h : Row w a cs s) (k : Row w b ds t) (hst : s ≠ t) : a ≠ b := by
  rintro rfl
  unfold Row at h k
  rw [h] at k
  simp only [Option.some.injEq, Obj.cells.injEq] at k
  exact hst k.2.1

set_option maxRecDepth 100000 in
set_option maxHeartbeats 600000 in
theorem ref_Boot_ff (w : World) (g : Nat) (d : Dv) (K0 K1 : Kep) (h : DvAt w g d) (hr0 : ∀ W : World, Calls Tryz.prog 60 #[.string d.h0] W fun r w' => r = .returned (.tuple #[.agg K0.cells.toArray, .bool false]) ∧ Below W.heap.size W w') (hr1 : ∀ W : World, Calls Tryz.prog 60 #[.string d.h1] W fun r w' => r = .returned (.tuple #[.agg K1.cells.toArray, .bool false]) ∧ Below W.heap.size W w') :
    Calls Tryz.prog 36 #[.pointer (some ⟨g, 0, none⟩)] w fun r w' => r = .returned (.int .i64 2) ∧ DvAt w' g d.base ∧ w.grownBy w' (some g) := by
  obtain ⟨n0, t0, p0, a0, a1, a2, a3⟩ := K0
  obtain ⟨n1, t1, p1, e0, e1, e2, e3⟩ := K1
  simp only [Kep.cells] at hr0 hr1
  obtain ⟨c0, c1, c2, c3, c4, c5, c6, c7, c8, c9, c10, c11, c12, c13, c14⟩ := h.c
  have fz := h.frozen
  have hgl := h.lt
  have hd1 : DvAt ((((w.setCell ⟨g, 11, none⟩ (.bool false)).setCell ⟨g, 14, none⟩ (.string ⟨#[]⟩)).setCell ⟨g, 13, none⟩ (.int .i64 (-1))).setCell ⟨g, 12, none⟩ (.bool true)) g d.base := (((Row.setCell h 11 (.bool false)).setCell 14 (.string ⟨#[]⟩)).setCell 13 (.int .i64 (-1))).setCell 12 (.bool true)
  have hg1 : w.grownBy ((((w.setCell ⟨g, 11, none⟩ (.bool false)).setCell ⟨g, 14, none⟩ (.string ⟨#[]⟩)).setCell ⟨g, 13, none⟩ (.int .i64 (-1))).setCell ⟨g, 12, none⟩ (.bool true)) (some g) := grown_set (grown_set (grown_set (grown_set (World.grownBy.refl _ _) 11 _) 14 _) 13 _) 12 _
  obtain ⟨wa, HWA⟩ : ∃ wa, Hid (wa = (((w.setCell ⟨g, 11, none⟩ (.bool false)).setCell ⟨g, 14, none⟩ (.string ⟨#[]⟩)).setCell ⟨g, 13, none⟩ (.int .i64 (-1))).setCell ⟨g, 12, none⟩ (.bool true)) := ⟨_, rfl⟩
  rw [← HWA.out] at hd1 hg1
  go_enter Tryz.func36, Tryz.ntmps36
  go_wp2_with (first | (go_at_call 60; have tok := hr0; clear hr0; rw [← HWA.out]; refine (tok wa).mono ?_; rintro _ w2 ⟨rfl, hb2⟩; have hd2 : DvAt w2 g d.base := Row.below hd1 hb2 hd1.lt; have hg2 := grown_below hg1 hb2; clear c0 c1 c2 c3 c4 c5 c6 c7 c8 c9 c10 c11 c12 c13 c14 fz; have hd3 : DvAt (w2.alloc (.cells #[.int .i64 n0, .int .i64 t0, .string p0, .string a0, .string a1, .string a2, .string a3] 34)) g d.base := Row.alloc hd2 _; have hr3 : Row (w2.alloc (.cells #[.int .i64 n0, .int .i64 t0, .string p0, .string a0, .string a1, .string a2, .string a3] 34)) w2.heap.size [.int .i64 n0, .int .i64 t0, .string p0, .string a0, .string a1, .string a2, .string a3] 34 := Row.made w2 _ _; have hg3 : w.grownBy (w2.alloc (.cells #[.int .i64 n0, .int .i64 t0, .string p0, .string a0, .string a1, .string a2, .string a3] 34)) (some g) := grown_alloc hg2 _; have c2 : (w2.alloc (.cells #[.int .i64 n0, .int .i64 t0, .string p0, .string a0, .string a1, .string a2, .string a3] 34)).cell? ⟨g, 2, none⟩ = some (.string d.h1) := (DvAt.c hd3).2.2.1) | (go_at_call 60; refine (hr1 _).mono ?_; rintro _ w4 ⟨rfl, hb4⟩; have hd4 : DvAt w4 g d.base := Row.below hd3 hb4 hd3.lt; have hg4 := grown_below hg3 hb4; have hr4 := hr3.below hb4 hr3.lt; clear c2 hr3 hd3 hg3; have hd5 : DvAt (w4.alloc (.cells #[.int .i64 n1, .int .i64 t1, .string p1, .string e0, .string e1, .string e2, .string e3] 34)) g d.base := Row.alloc hd4 _; have hr5 : Row (w4.alloc (.cells #[.int .i64 n1, .int .i64 t1, .string p1, .string e0, .string e1, .string e2, .string e3] 34)) w4.heap.size [.int .i64 n1, .int .i64 t1, .string p1, .string e0, .string e1, .string e2, .string e3] 34 := Row.made w4 _ _; have hg5 : w.grownBy (w4.alloc (.cells #[.int .i64 n1, .int .i64 t1, .string p1, .string e0, .string e1, .string e2, .string e3] 34)) (some g) := grown_alloc hg4 _; have hr6 : Row (w4.alloc (.cells #[.int .i64 n1, .int .i64 t1, .string p1, .string e0, .string e1, .string e2, .string e3] 34)) w2.heap.size [.int .i64 n0, .int .i64 t0, .string p0, .string a0, .string a1, .string a2, .string a3] 34 := Row.alloc hr4 _; obtain ⟨i0, i1, i2, i3, i4, i5, i6⟩ := row7 hr6; obtain ⟨j0, j1, j2, j3, j4, j5, j6⟩ := row7 hr5; obtain ⟨c0, c1, c2, c3, c4, c5, c6, c7, c8, c9, c10, c11, c12, c13, c14⟩ := DvAt.c hd5; have fz := hd5.frozen; have ng1 : ¬ w2.heap.size = g := Row.ne' hr6 hd5 (by decide); have ng2 : ¬ w4.heap.size = g := Row.ne' hr5 hd5 (by decide); have ng3 : ¬ g = w2.heap.size := (fun e => ng1 e.symm); have ng4 : ¬ g = w4.heap.size := (fun e => ng2 e.symm)))
  go_ret
  exact ⟨rfl, hd5, hg5⟩

set_option maxRecDepth 100000 in
set_option maxHeartbeats 600000 in
theorem ref_Boot_ft (w : World) (g : Nat) (d : Dv) (K0 K1 : Kep) (h : DvAt w g d) (hr0 : ∀ W : World, Calls Tryz.prog 60 #[.string d.h0] W fun r w' => r = .returned (.tuple #[.agg K0.cells.toArray, .bool false]) ∧ Below W.heap.size W w') (hr1 : ∀ W : World, Calls Tryz.prog 60 #[.string d.h1] W fun r w' => r = .returned (.tuple #[.agg K1.cells.toArray, .bool true]) ∧ Below W.heap.size W w') :
    Calls Tryz.prog 36 #[.pointer (some ⟨g, 0, none⟩)] w fun r w' => r = .returned (.int .i64 0) ∧ DvAt w' g { d.base with off := false, k := K1, wh := 1 } ∧ w.grownBy w' (some g) := by
  obtain ⟨n0, t0, p0, a0, a1, a2, a3⟩ := K0
  obtain ⟨n1, t1, p1, e0, e1, e2, e3⟩ := K1
  simp only [Kep.cells] at hr0 hr1
  obtain ⟨c0, c1, c2, c3, c4, c5, c6, c7, c8, c9, c10, c11, c12, c13, c14⟩ := h.c
  have fz := h.frozen
  have hgl := h.lt
  have hd1 : DvAt ((((w.setCell ⟨g, 11, none⟩ (.bool false)).setCell ⟨g, 14, none⟩ (.string ⟨#[]⟩)).setCell ⟨g, 13, none⟩ (.int .i64 (-1))).setCell ⟨g, 12, none⟩ (.bool true)) g d.base := (((Row.setCell h 11 (.bool false)).setCell 14 (.string ⟨#[]⟩)).setCell 13 (.int .i64 (-1))).setCell 12 (.bool true)
  have hg1 : w.grownBy ((((w.setCell ⟨g, 11, none⟩ (.bool false)).setCell ⟨g, 14, none⟩ (.string ⟨#[]⟩)).setCell ⟨g, 13, none⟩ (.int .i64 (-1))).setCell ⟨g, 12, none⟩ (.bool true)) (some g) := grown_set (grown_set (grown_set (grown_set (World.grownBy.refl _ _) 11 _) 14 _) 13 _) 12 _
  obtain ⟨wa, HWA⟩ : ∃ wa, Hid (wa = (((w.setCell ⟨g, 11, none⟩ (.bool false)).setCell ⟨g, 14, none⟩ (.string ⟨#[]⟩)).setCell ⟨g, 13, none⟩ (.int .i64 (-1))).setCell ⟨g, 12, none⟩ (.bool true)) := ⟨_, rfl⟩
  rw [← HWA.out] at hd1 hg1
  go_enter Tryz.func36, Tryz.ntmps36
  go_wp2_with (first | (go_at_call 60; have tok := hr0; clear hr0; rw [← HWA.out]; refine (tok wa).mono ?_; rintro _ w2 ⟨rfl, hb2⟩; have hd2 : DvAt w2 g d.base := Row.below hd1 hb2 hd1.lt; have hg2 := grown_below hg1 hb2; clear c0 c1 c2 c3 c4 c5 c6 c7 c8 c9 c10 c11 c12 c13 c14 fz; have hd3 : DvAt (w2.alloc (.cells #[.int .i64 n0, .int .i64 t0, .string p0, .string a0, .string a1, .string a2, .string a3] 34)) g d.base := Row.alloc hd2 _; have hr3 : Row (w2.alloc (.cells #[.int .i64 n0, .int .i64 t0, .string p0, .string a0, .string a1, .string a2, .string a3] 34)) w2.heap.size [.int .i64 n0, .int .i64 t0, .string p0, .string a0, .string a1, .string a2, .string a3] 34 := Row.made w2 _ _; have hg3 : w.grownBy (w2.alloc (.cells #[.int .i64 n0, .int .i64 t0, .string p0, .string a0, .string a1, .string a2, .string a3] 34)) (some g) := grown_alloc hg2 _; have c2 : (w2.alloc (.cells #[.int .i64 n0, .int .i64 t0, .string p0, .string a0, .string a1, .string a2, .string a3] 34)).cell? ⟨g, 2, none⟩ = some (.string d.h1) := (DvAt.c hd3).2.2.1) | (go_at_call 60; refine (hr1 _).mono ?_; rintro _ w4 ⟨rfl, hb4⟩; have hd4 : DvAt w4 g d.base := Row.below hd3 hb4 hd3.lt; have hg4 := grown_below hg3 hb4; have hr4 := hr3.below hb4 hr3.lt; clear c2 hr3 hd3 hg3; have hd5 : DvAt (w4.alloc (.cells #[.int .i64 n1, .int .i64 t1, .string p1, .string e0, .string e1, .string e2, .string e3] 34)) g d.base := Row.alloc hd4 _; have hr5 : Row (w4.alloc (.cells #[.int .i64 n1, .int .i64 t1, .string p1, .string e0, .string e1, .string e2, .string e3] 34)) w4.heap.size [.int .i64 n1, .int .i64 t1, .string p1, .string e0, .string e1, .string e2, .string e3] 34 := Row.made w4 _ _; have hg5 : w.grownBy (w4.alloc (.cells #[.int .i64 n1, .int .i64 t1, .string p1, .string e0, .string e1, .string e2, .string e3] 34)) (some g) := grown_alloc hg4 _; have hr6 : Row (w4.alloc (.cells #[.int .i64 n1, .int .i64 t1, .string p1, .string e0, .string e1, .string e2, .string e3] 34)) w2.heap.size [.int .i64 n0, .int .i64 t0, .string p0, .string a0, .string a1, .string a2, .string a3] 34 := Row.alloc hr4 _; obtain ⟨i0, i1, i2, i3, i4, i5, i6⟩ := row7 hr6; obtain ⟨j0, j1, j2, j3, j4, j5, j6⟩ := row7 hr5; obtain ⟨c0, c1, c2, c3, c4, c5, c6, c7, c8, c9, c10, c11, c12, c13, c14⟩ := DvAt.c hd5; have fz := hd5.frozen; have ng1 : ¬ w2.heap.size = g := Row.ne' hr6 hd5 (by decide); have ng2 : ¬ w4.heap.size = g := Row.ne' hr5 hd5 (by decide); have ng3 : ¬ g = w2.heap.size := (fun e => ng1 e.symm); have ng4 : ¬ g = w4.heap.size := (fun e => ng2 e.symm)))
  go_ret
  exact ⟨rfl, Row.setCell (Row.setCell (Row.setCell (Row.setCell (Row.setCell (Row.setCell (Row.setCell (Row.setCell (Row.setCell hd5 12 (.bool false)) 3 (.int .i64 n1)) 4 (.int .i64 t1)) 5 (.string p1)) 6 (.string e0)) 7 (.string e1)) 8 (.string e2)) 9 (.string e3)) 10 (.int .i64 1), grown_set (grown_set (grown_set (grown_set (grown_set (grown_set (grown_set (grown_set (grown_set (hg5) _ _) _ _) _ _) _ _) _ _) _ _) _ _) _ _) _ _⟩

set_option maxRecDepth 100000 in
set_option maxHeartbeats 600000 in
theorem ref_Boot_tf (w : World) (g : Nat) (d : Dv) (K0 K1 : Kep) (h : DvAt w g d) (hr0 : ∀ W : World, Calls Tryz.prog 60 #[.string d.h0] W fun r w' => r = .returned (.tuple #[.agg K0.cells.toArray, .bool true]) ∧ Below W.heap.size W w') (hr1 : ∀ W : World, Calls Tryz.prog 60 #[.string d.h1] W fun r w' => r = .returned (.tuple #[.agg K1.cells.toArray, .bool false]) ∧ Below W.heap.size W w') :
    Calls Tryz.prog 36 #[.pointer (some ⟨g, 0, none⟩)] w fun r w' => r = .returned (.int .i64 0) ∧ DvAt w' g { d.base with off := false, k := K0, wh := 0 } ∧ w.grownBy w' (some g) := by
  obtain ⟨n0, t0, p0, a0, a1, a2, a3⟩ := K0
  obtain ⟨n1, t1, p1, e0, e1, e2, e3⟩ := K1
  simp only [Kep.cells] at hr0 hr1
  obtain ⟨c0, c1, c2, c3, c4, c5, c6, c7, c8, c9, c10, c11, c12, c13, c14⟩ := h.c
  have fz := h.frozen
  have hgl := h.lt
  have hd1 : DvAt ((((w.setCell ⟨g, 11, none⟩ (.bool false)).setCell ⟨g, 14, none⟩ (.string ⟨#[]⟩)).setCell ⟨g, 13, none⟩ (.int .i64 (-1))).setCell ⟨g, 12, none⟩ (.bool true)) g d.base := (((Row.setCell h 11 (.bool false)).setCell 14 (.string ⟨#[]⟩)).setCell 13 (.int .i64 (-1))).setCell 12 (.bool true)
  have hg1 : w.grownBy ((((w.setCell ⟨g, 11, none⟩ (.bool false)).setCell ⟨g, 14, none⟩ (.string ⟨#[]⟩)).setCell ⟨g, 13, none⟩ (.int .i64 (-1))).setCell ⟨g, 12, none⟩ (.bool true)) (some g) := grown_set (grown_set (grown_set (grown_set (World.grownBy.refl _ _) 11 _) 14 _) 13 _) 12 _
  obtain ⟨wa, HWA⟩ : ∃ wa, Hid (wa = (((w.setCell ⟨g, 11, none⟩ (.bool false)).setCell ⟨g, 14, none⟩ (.string ⟨#[]⟩)).setCell ⟨g, 13, none⟩ (.int .i64 (-1))).setCell ⟨g, 12, none⟩ (.bool true)) := ⟨_, rfl⟩
  rw [← HWA.out] at hd1 hg1
  go_enter Tryz.func36, Tryz.ntmps36
  go_wp2_with (first | (go_at_call 60; have tok := hr0; clear hr0; rw [← HWA.out]; refine (tok wa).mono ?_; rintro _ w2 ⟨rfl, hb2⟩; have hd2 : DvAt w2 g d.base := Row.below hd1 hb2 hd1.lt; have hg2 := grown_below hg1 hb2; clear c0 c1 c2 c3 c4 c5 c6 c7 c8 c9 c10 c11 c12 c13 c14 fz; have hd3 : DvAt (w2.alloc (.cells #[.int .i64 n0, .int .i64 t0, .string p0, .string a0, .string a1, .string a2, .string a3] 34)) g d.base := Row.alloc hd2 _; have hr3 : Row (w2.alloc (.cells #[.int .i64 n0, .int .i64 t0, .string p0, .string a0, .string a1, .string a2, .string a3] 34)) w2.heap.size [.int .i64 n0, .int .i64 t0, .string p0, .string a0, .string a1, .string a2, .string a3] 34 := Row.made w2 _ _; have hg3 : w.grownBy (w2.alloc (.cells #[.int .i64 n0, .int .i64 t0, .string p0, .string a0, .string a1, .string a2, .string a3] 34)) (some g) := grown_alloc hg2 _; have c2 : (w2.alloc (.cells #[.int .i64 n0, .int .i64 t0, .string p0, .string a0, .string a1, .string a2, .string a3] 34)).cell? ⟨g, 2, none⟩ = some (.string d.h1) := (DvAt.c hd3).2.2.1) | (go_at_call 60; refine (hr1 _).mono ?_; rintro _ w4 ⟨rfl, hb4⟩; have hd4 : DvAt w4 g d.base := Row.below hd3 hb4 hd3.lt; have hg4 := grown_below hg3 hb4; have hr4 := hr3.below hb4 hr3.lt; clear c2 hr3 hd3 hg3; have hd5 : DvAt (w4.alloc (.cells #[.int .i64 n1, .int .i64 t1, .string p1, .string e0, .string e1, .string e2, .string e3] 34)) g d.base := Row.alloc hd4 _; have hr5 : Row (w4.alloc (.cells #[.int .i64 n1, .int .i64 t1, .string p1, .string e0, .string e1, .string e2, .string e3] 34)) w4.heap.size [.int .i64 n1, .int .i64 t1, .string p1, .string e0, .string e1, .string e2, .string e3] 34 := Row.made w4 _ _; have hg5 : w.grownBy (w4.alloc (.cells #[.int .i64 n1, .int .i64 t1, .string p1, .string e0, .string e1, .string e2, .string e3] 34)) (some g) := grown_alloc hg4 _; have hr6 : Row (w4.alloc (.cells #[.int .i64 n1, .int .i64 t1, .string p1, .string e0, .string e1, .string e2, .string e3] 34)) w2.heap.size [.int .i64 n0, .int .i64 t0, .string p0, .string a0, .string a1, .string a2, .string a3] 34 := Row.alloc hr4 _; obtain ⟨i0, i1, i2, i3, i4, i5, i6⟩ := row7 hr6; obtain ⟨j0, j1, j2, j3, j4, j5, j6⟩ := row7 hr5; obtain ⟨c0, c1, c2, c3, c4, c5, c6, c7, c8, c9, c10, c11, c12, c13, c14⟩ := DvAt.c hd5; have fz := hd5.frozen; have ng1 : ¬ w2.heap.size = g := Row.ne' hr6 hd5 (by decide); have ng2 : ¬ w4.heap.size = g := Row.ne' hr5 hd5 (by decide); have ng3 : ¬ g = w2.heap.size := (fun e => ng1 e.symm); have ng4 : ¬ g = w4.heap.size := (fun e => ng2 e.symm)))
  go_ret
  exact ⟨rfl, Row.setCell (Row.setCell (Row.setCell (Row.setCell (Row.setCell (Row.setCell (Row.setCell (Row.setCell (Row.setCell hd5 12 (.bool false)) 3 (.int .i64 n0)) 4 (.int .i64 t0)) 5 (.string p0)) 6 (.string a0)) 7 (.string a1)) 8 (.string a2)) 9 (.string a3)) 10 (.int .i64 0), grown_set (grown_set (grown_set (grown_set (grown_set (grown_set (grown_set (grown_set (grown_set (hg5) _ _) _ _) _ _) _ _) _ _) _ _) _ _) _ _) _ _⟩

set_option maxRecDepth 100000 in
set_option maxHeartbeats 600000 in
theorem ref_Boot_lt (w : World) (g : Nat) (d : Dv) (K0 K1 : Kep) (h : DvAt w g d) (hr0 : ∀ W : World, Calls Tryz.prog 60 #[.string d.h0] W fun r w' => r = .returned (.tuple #[.agg K0.cells.toArray, .bool true]) ∧ Below W.heap.size W w') (hr1 : ∀ W : World, Calls Tryz.prog 60 #[.string d.h1] W fun r w' => r = .returned (.tuple #[.agg K1.cells.toArray, .bool true]) ∧ Below W.heap.size W w') (hlt : K0.num < K1.num) :
    Calls Tryz.prog 36 #[.pointer (some ⟨g, 0, none⟩)] w fun r w' => r = .returned (.int .i64 0) ∧ DvAt w' g { d.base with off := false, k := K1, wh := 1 } ∧ w.grownBy w' (some g) := by
  obtain ⟨n0, t0, p0, a0, a1, a2, a3⟩ := K0
  obtain ⟨n1, t1, p1, e0, e1, e2, e3⟩ := K1
  simp only [Kep.cells] at hr0 hr1 hlt
  obtain ⟨c0, c1, c2, c3, c4, c5, c6, c7, c8, c9, c10, c11, c12, c13, c14⟩ := h.c
  have fz := h.frozen
  have hgl := h.lt
  have hd1 : DvAt ((((w.setCell ⟨g, 11, none⟩ (.bool false)).setCell ⟨g, 14, none⟩ (.string ⟨#[]⟩)).setCell ⟨g, 13, none⟩ (.int .i64 (-1))).setCell ⟨g, 12, none⟩ (.bool true)) g d.base := (((Row.setCell h 11 (.bool false)).setCell 14 (.string ⟨#[]⟩)).setCell 13 (.int .i64 (-1))).setCell 12 (.bool true)
  have hg1 : w.grownBy ((((w.setCell ⟨g, 11, none⟩ (.bool false)).setCell ⟨g, 14, none⟩ (.string ⟨#[]⟩)).setCell ⟨g, 13, none⟩ (.int .i64 (-1))).setCell ⟨g, 12, none⟩ (.bool true)) (some g) := grown_set (grown_set (grown_set (grown_set (World.grownBy.refl _ _) 11 _) 14 _) 13 _) 12 _
  obtain ⟨wa, HWA⟩ : ∃ wa, Hid (wa = (((w.setCell ⟨g, 11, none⟩ (.bool false)).setCell ⟨g, 14, none⟩ (.string ⟨#[]⟩)).setCell ⟨g, 13, none⟩ (.int .i64 (-1))).setCell ⟨g, 12, none⟩ (.bool true)) := ⟨_, rfl⟩
  rw [← HWA.out] at hd1 hg1
  go_enter Tryz.func36, Tryz.ntmps36
  go_wp2_with (first | (go_at_call 60; have tok := hr0; clear hr0; rw [← HWA.out]; refine (tok wa).mono ?_; rintro _ w2 ⟨rfl, hb2⟩; have hd2 : DvAt w2 g d.base := Row.below hd1 hb2 hd1.lt; have hg2 := grown_below hg1 hb2; clear c0 c1 c2 c3 c4 c5 c6 c7 c8 c9 c10 c11 c12 c13 c14 fz; have hd3 : DvAt (w2.alloc (.cells #[.int .i64 n0, .int .i64 t0, .string p0, .string a0, .string a1, .string a2, .string a3] 34)) g d.base := Row.alloc hd2 _; have hr3 : Row (w2.alloc (.cells #[.int .i64 n0, .int .i64 t0, .string p0, .string a0, .string a1, .string a2, .string a3] 34)) w2.heap.size [.int .i64 n0, .int .i64 t0, .string p0, .string a0, .string a1, .string a2, .string a3] 34 := Row.made w2 _ _; have hg3 : w.grownBy (w2.alloc (.cells #[.int .i64 n0, .int .i64 t0, .string p0, .string a0, .string a1, .string a2, .string a3] 34)) (some g) := grown_alloc hg2 _; have c2 : (w2.alloc (.cells #[.int .i64 n0, .int .i64 t0, .string p0, .string a0, .string a1, .string a2, .string a3] 34)).cell? ⟨g, 2, none⟩ = some (.string d.h1) := (DvAt.c hd3).2.2.1) | (go_at_call 60; refine (hr1 _).mono ?_; rintro _ w4 ⟨rfl, hb4⟩; have hd4 : DvAt w4 g d.base := Row.below hd3 hb4 hd3.lt; have hg4 := grown_below hg3 hb4; have hr4 := hr3.below hb4 hr3.lt; clear c2 hr3 hd3 hg3; have hd5 : DvAt (w4.alloc (.cells #[.int .i64 n1, .int .i64 t1, .string p1, .string e0, .string e1, .string e2, .string e3] 34)) g d.base := Row.alloc hd4 _; have hr5 : Row (w4.alloc (.cells #[.int .i64 n1, .int .i64 t1, .string p1, .string e0, .string e1, .string e2, .string e3] 34)) w4.heap.size [.int .i64 n1, .int .i64 t1, .string p1, .string e0, .string e1, .string e2, .string e3] 34 := Row.made w4 _ _; have hg5 : w.grownBy (w4.alloc (.cells #[.int .i64 n1, .int .i64 t1, .string p1, .string e0, .string e1, .string e2, .string e3] 34)) (some g) := grown_alloc hg4 _; have hr6 : Row (w4.alloc (.cells #[.int .i64 n1, .int .i64 t1, .string p1, .string e0, .string e1, .string e2, .string e3] 34)) w2.heap.size [.int .i64 n0, .int .i64 t0, .string p0, .string a0, .string a1, .string a2, .string a3] 34 := Row.alloc hr4 _; obtain ⟨i0, i1, i2, i3, i4, i5, i6⟩ := row7 hr6; obtain ⟨j0, j1, j2, j3, j4, j5, j6⟩ := row7 hr5; obtain ⟨c0, c1, c2, c3, c4, c5, c6, c7, c8, c9, c10, c11, c12, c13, c14⟩ := DvAt.c hd5; have fz := hd5.frozen; have ng1 : ¬ w2.heap.size = g := Row.ne' hr6 hd5 (by decide); have ng2 : ¬ w4.heap.size = g := Row.ne' hr5 hd5 (by decide); have ng3 : ¬ g = w2.heap.size := (fun e => ng1 e.symm); have ng4 : ¬ g = w4.heap.size := (fun e => ng2 e.symm)))
  go_ret
  exact ⟨rfl, Row.setCell (Row.setCell (Row.setCell (Row.setCell (Row.setCell (Row.setCell (Row.setCell (Row.setCell (Row.setCell hd5 12 (.bool false)) 3 (.int .i64 n1)) 4 (.int .i64 t1)) 5 (.string p1)) 6 (.string e0)) 7 (.string e1)) 8 (.string e2)) 9 (.string e3)) 10 (.int .i64 1), grown_set (grown_set (grown_set (grown_set (grown_set (grown_set (grown_set (grown_set (grown_set (hg5) _ _) _ _) _ _) _ _) _ _) _ _) _ _) _ _) _ _⟩

set_option maxRecDepth 100000 in
set_option maxHeartbeats 600000 in
theorem ref_Boot_ge (w : World) (g : Nat) (d : Dv) (K0 K1 : Kep) (h : DvAt w g d) (hr0 : ∀ W : World, Calls Tryz.prog 60 #[.string d.h0] W fun r w' => r = .returned (.tuple #[.agg K0.cells.toArray, .bool true]) ∧ Below W.heap.size W w') (hr1 : ∀ W : World, Calls Tryz.prog 60 #[.string d.h1] W fun r w' => r = .returned (.tuple #[.agg K1.cells.toArray, .bool true]) ∧ Below W.heap.size W w') (hlt : ¬ K0.num < K1.num) :
    Calls Tryz.prog 36 #[.pointer (some ⟨g, 0, none⟩)] w fun r w' => r = .returned (.int .i64 0) ∧ DvAt w' g { d.base with off := false, k := K0, wh := 0 } ∧ w.grownBy w' (some g) := by
  obtain ⟨n0, t0, p0, a0, a1, a2, a3⟩ := K0
  obtain ⟨n1, t1, p1, e0, e1, e2, e3⟩ := K1
  simp only [Kep.cells] at hr0 hr1 hlt
  obtain ⟨c0, c1, c2, c3, c4, c5, c6, c7, c8, c9, c10, c11, c12, c13, c14⟩ := h.c
  have fz := h.frozen
  have hgl := h.lt
  have hd1 : DvAt ((((w.setCell ⟨g, 11, none⟩ (.bool false)).setCell ⟨g, 14, none⟩ (.string ⟨#[]⟩)).setCell ⟨g, 13, none⟩ (.int .i64 (-1))).setCell ⟨g, 12, none⟩ (.bool true)) g d.base := (((Row.setCell h 11 (.bool false)).setCell 14 (.string ⟨#[]⟩)).setCell 13 (.int .i64 (-1))).setCell 12 (.bool true)
  have hg1 : w.grownBy ((((w.setCell ⟨g, 11, none⟩ (.bool false)).setCell ⟨g, 14, none⟩ (.string ⟨#[]⟩)).setCell ⟨g, 13, none⟩ (.int .i64 (-1))).setCell ⟨g, 12, none⟩ (.bool true)) (some g) := grown_set (grown_set (grown_set (grown_set (World.grownBy.refl _ _) 11 _) 14 _) 13 _) 12 _
  obtain ⟨wa, HWA⟩ : ∃ wa, Hid (wa = (((w.setCell ⟨g, 11, none⟩ (.bool false)).setCell ⟨g, 14, none⟩ (.string ⟨#[]⟩)).setCell ⟨g, 13, none⟩ (.int .i64 (-1))).setCell ⟨g, 12, none⟩ (.bool true)) := ⟨_, rfl⟩
  rw [← HWA.out] at hd1 hg1
  go_enter Tryz.func36, Tryz.ntmps36
  go_wp2_with (first | (go_at_call 60; have tok := hr0; clear hr0; rw [← HWA.out]; refine (tok wa).mono ?_; rintro _ w2 ⟨rfl, hb2⟩; have hd2 : DvAt w2 g d.base := Row.below hd1 hb2 hd1.lt; have hg2 := grown_below hg1 hb2; clear c0 c1 c2 c3 c4 c5 c6 c7 c8 c9 c10 c11 c12 c13 c14 fz; have hd3 : DvAt (w2.alloc (.cells #[.int .i64 n0, .int .i64 t0, .string p0, .string a0, .string a1, .string a2, .string a3] 34)) g d.base := Row.alloc hd2 _; have hr3 : Row (w2.alloc (.cells #[.int .i64 n0, .int .i64 t0, .string p0, .string a0, .string a1, .string a2, .string a3] 34)) w2.heap.size [.int .i64 n0, .int .i64 t0, .string p0, .string a0, .string a1, .string a2, .string a3] 34 := Row.made w2 _ _; have hg3 : w.grownBy (w2.alloc (.cells #[.int .i64 n0, .int .i64 t0, .string p0, .string a0, .string a1, .string a2, .string a3] 34)) (some g) := grown_alloc hg2 _; have c2 : (w2.alloc (.cells #[.int .i64 n0, .int .i64 t0, .string p0, .string a0, .string a1, .string a2, .string a3] 34)).cell? ⟨g, 2, none⟩ = some (.string d.h1) := (DvAt.c hd3).2.2.1) | (go_at_call 60; refine (hr1 _).mono ?_; rintro _ w4 ⟨rfl, hb4⟩; have hd4 : DvAt w4 g d.base := Row.below hd3 hb4 hd3.lt; have hg4 := grown_below hg3 hb4; have hr4 := hr3.below hb4 hr3.lt; clear c2 hr3 hd3 hg3; have hd5 : DvAt (w4.alloc (.cells #[.int .i64 n1, .int .i64 t1, .string p1, .string e0, .string e1, .string e2, .string e3] 34)) g d.base := Row.alloc hd4 _; have hr5 : Row (w4.alloc (.cells #[.int .i64 n1, .int .i64 t1, .string p1, .string e0, .string e1, .string e2, .string e3] 34)) w4.heap.size [.int .i64 n1, .int .i64 t1, .string p1, .string e0, .string e1, .string e2, .string e3] 34 := Row.made w4 _ _; have hg5 : w.grownBy (w4.alloc (.cells #[.int .i64 n1, .int .i64 t1, .string p1, .string e0, .string e1, .string e2, .string e3] 34)) (some g) := grown_alloc hg4 _; have hr6 : Row (w4.alloc (.cells #[.int .i64 n1, .int .i64 t1, .string p1, .string e0, .string e1, .string e2, .string e3] 34)) w2.heap.size [.int .i64 n0, .int .i64 t0, .string p0, .string a0, .string a1, .string a2, .string a3] 34 := Row.alloc hr4 _; obtain ⟨i0, i1, i2, i3, i4, i5, i6⟩ := row7 hr6; obtain ⟨j0, j1, j2, j3, j4, j5, j6⟩ := row7 hr5; obtain ⟨c0, c1, c2, c3, c4, c5, c6, c7, c8, c9, c10, c11, c12, c13, c14⟩ := DvAt.c hd5; have fz := hd5.frozen; have ng1 : ¬ w2.heap.size = g := Row.ne' hr6 hd5 (by decide); have ng2 : ¬ w4.heap.size = g := Row.ne' hr5 hd5 (by decide); have ng3 : ¬ g = w2.heap.size := (fun e => ng1 e.symm); have ng4 : ¬ g = w4.heap.size := (fun e => ng2 e.symm)))
  go_ret
  exact ⟨rfl, Row.setCell (Row.setCell (Row.setCell (Row.setCell (Row.setCell (Row.setCell (Row.setCell (Row.setCell (Row.setCell hd5 12 (.bool false)) 3 (.int .i64 n0)) 4 (.int .i64 t0)) 5 (.string p0)) 6 (.string a0)) 7 (.string a1)) 8 (.string a2)) 9 (.string a3)) 10 (.int .i64 0), grown_set (grown_set (grown_set (grown_set (grown_set (grown_set (grown_set (grown_set (grown_set (hg5) _ _) _ _) _ _) _ _) _ _) _ _) _ _) _ _) _ _⟩

/-- Boot, by the document's device -/
theorem ref_Boot (w : World) (g : Nat) (d : Dv) (h : DvAt w g d) (hs0 : d.h0.size = 100) (hs1 : d.h1.size = 100) :
    Calls Tryz.prog 36 #[.pointer (some ⟨g, 0, none⟩)] w fun r w' => r = .returned (.int .i64 d.bootC.2) ∧ DvAt w' g d.bootC.1 ∧ w.grownBy w' (some g) := by
  unfold Dv.bootC
  by_cases h0 : readOk (Bs d.h0)
  · have hr0 := fun W => ref_read_yes W d.h0 hs0 h0
    by_cases h1 : readOk (Bs d.h1)
    · have hr1 := fun W => ref_read_yes W d.h1 hs1 h1
      rw [if_neg (fun e => e.1 h0)]
      by_cases hl : (readK (Bs d.h0)).num < (readK (Bs d.h1)).num
      · rw [if_pos (.inr ⟨h1, hl⟩)]
        exact ref_Boot_lt w g d _ _ h hr0 hr1 hl
      · rw [if_neg (fun e => e.elim (fun x => x h0) (fun x => hl x.2))]
        exact ref_Boot_ge w g d _ _ h hr0 hr1 hl
    · have hr1 := fun W => ref_read_no W d.h1 hs1 h1
      rw [if_neg (fun e => e.1 h0), if_neg (fun e => e.elim (fun x => x h0) (fun x => h1 x.1))]
      exact ref_Boot_tf w g d _ _ h hr0 hr1
  · have hr0 := fun W => ref_read_no W d.h0 hs0 h0
    by_cases h1 : readOk (Bs d.h1)
    · have hr1 := fun W => ref_read_yes W d.h1 hs1 h1
      rw [if_neg (fun e => e.2 h1), if_pos (.inl h0)]
      exact ref_Boot_ft w g d _ _ h hr0 hr1
    · have hr1 := fun W => ref_read_no W d.h1 hs1 h1
      rw [if_pos ⟨h0, h1⟩]
      exact ref_Boot_ff w g d _ _ h hr0 hr1
end Go.Proofs.YtaokemapkgggoaaGreatDoor

namespace Go.Proofs.YtaokemapkgggoaaGreatDoor
open Go.RowKit

/-- a device of a flash, ahead of its boot -/
def Dv.of (sm : Nat) (h0 h1 : ByteArray) : Dv := ⟨sm, h0, h1, zeroK, 0, false, false, 0, ⟨#[]⟩⟩
theorem Dv.bootC_cases (d : Dv) : d.bootC.2 = 0 ∨ d.bootC.2 = 2 := by
  unfold Dv.bootC
  split
  · exact .inr rfl
  split <;> exact .inl rfl

theorem ref_Open_size (sm : Nat) (f : ByteArray) (w : World) (hf : ¬ f.size = 200) :
    Calls Tryz.prog 26 #[.pointer (some ⟨sm, 0, none⟩), .string f] w fun r w' => r = .returned (.tuple #[.pointer none, .int .i64 2]) ∧ w' = w := by
  have hf' : ¬ (f.size : Int) = 200 := by omega
  go_enter Tryz.func26, Tryz.ntmps26
  go_wp2
  go_ret2
  exact ⟨rfl, rfl⟩

set_option maxRecDepth 100000 in
set_option maxHeartbeats 1000000 in
theorem ref_Open (sm : Nat) (f : ByteArray) (w : World) (hf : f.size = 200) (E : Dv × Int) (HE : Hid (E = (Dv.of sm (f.extract 0 100) (f.extract 100 200)).bootC)) :
    Calls Tryz.prog 26 #[.pointer (some ⟨sm, 0, none⟩), .string f] w fun r w' => ((E.2 = 0 ∧ ∃ g, w.heap.size ≤ g ∧ r = .returned (.tuple #[.pointer (some ⟨g, 0, none⟩), .int .i64 0]) ∧ DvAt w' g E.1) ∨ (¬ E.2 = 0 ∧ r = .returned (.tuple #[.pointer none, .int .i64 2]))) ∧ Below w.heap.size w w' := by
  have hf' : (f.size : Int) = 200 := by omega
  have hfn : f.size = 200 := hf
  obtain ⟨h0, H0⟩ : ∃ h, Hid (h = f.extract 0 100) := ⟨_, rfl⟩
  obtain ⟨h1, H1⟩ : ∃ h, Hid (h = f.extract 100 200) := ⟨_, rfl⟩
  have hs0 : h0.size = 100 := by rw [H0.out, ByteArray.size_extract]; omega
  have hs1 : h1.size = 100 := by rw [H1.out, ByteArray.size_extract]; omega
  rw [← H0.out, ← H1.out] at HE
  have e0 : f.extract 0 100 = h0 := H0.out.symm
  have e1 : f.extract 100 200 = h1 := H1.out.symm
  clear H0 H1
  have hE := (Dv.of sm h0 h1).bootC_cases
  rw [← HE.out] at hE
  have hboot := fun (W : World) (g : Nat) (hW : DvAt W g (Dv.of sm h0 h1)) => ref_Boot W g _ hW hs0 hs1
  rw [← HE.out] at hboot
  clear HE
  obtain ⟨E1, E2⟩ := E
  simp only at hE hboot ⊢
  go_enter Tryz.func26, Tryz.ntmps26
  go_wp2
  have hr1 : Row (w.alloc (.cells ([.pointer (some ⟨sm, 0, none⟩), .string ⟨#[]⟩, .string ⟨#[]⟩, .int .i64 0, .int .i64 0, .string ⟨#[]⟩, .string ⟨#[]⟩, .string ⟨#[]⟩, .string ⟨#[]⟩, .string ⟨#[]⟩, .int .i64 0, .bool false, .bool false, .int .i64 0, .string ⟨#[]⟩] : List Value).toArray 103)) w.heap.size [.pointer (some ⟨sm, 0, none⟩), .string ⟨#[]⟩, .string ⟨#[]⟩, .int .i64 0, .int .i64 0, .string ⟨#[]⟩, .string ⟨#[]⟩, .string ⟨#[]⟩, .string ⟨#[]⟩, .string ⟨#[]⟩, .int .i64 0, .bool false, .bool false, .int .i64 0, .string ⟨#[]⟩] 103 := Row.made w _ _
  have hb1 : Below w.heap.size w (w.alloc (.cells ([.pointer (some ⟨sm, 0, none⟩), .string ⟨#[]⟩, .string ⟨#[]⟩, .int .i64 0, .int .i64 0, .string ⟨#[]⟩, .string ⟨#[]⟩, .string ⟨#[]⟩, .string ⟨#[]⟩, .string ⟨#[]⟩, .int .i64 0, .bool false, .bool false, .int .i64 0, .string ⟨#[]⟩] : List Value).toArray 103)) := (Below.refl _ _).alloc (Nat.le_refl _) _
  generalize w.alloc (.cells ([.pointer (some ⟨sm, 0, none⟩), .string ⟨#[]⟩, .string ⟨#[]⟩, .int .i64 0, .int .i64 0, .string ⟨#[]⟩, .string ⟨#[]⟩, .string ⟨#[]⟩, .string ⟨#[]⟩, .string ⟨#[]⟩, .int .i64 0, .bool false, .bool false, .int .i64 0, .string ⟨#[]⟩] : List Value).toArray 103) = wa at *
  have ca1 : wa.cell? ⟨w.heap.size, 1, none⟩ = some (.string ⟨#[]⟩) := hr1.cell.trans rfl
  have fa := hr1.frozen
  go_region
  have hr2 := (hr1.setCell 1 (.string h0)).drew
  have hb2 := (hb1.setCell (p := ⟨w.heap.size, 1, none⟩) (Nat.le_refl _) (.string h0)).drew
  generalize (wa.setCell ⟨w.heap.size, 1, none⟩ (.string h0)).drew = wb at *
  clear ca1 fa hr1 hb1
  have ca2 : wb.cell? ⟨w.heap.size, 2, none⟩ = some (.string ⟨#[]⟩) := hr2.cell.trans rfl
  have fa := hr2.frozen
  go_wp2
  go_region
  have hr3 : DvAt ((wb.setCell ⟨w.heap.size, 2, none⟩ (.string h1)).drew) w.heap.size (Dv.of sm h0 h1) := (hr2.setCell 2 (.string h1)).drew
  have hb3 := (hb2.setCell (p := ⟨w.heap.size, 2, none⟩) (Nat.le_refl _) (.string h1)).drew
  generalize (wb.setCell ⟨w.heap.size, 2, none⟩ (.string h1)).drew = wc at *
  clear ca2 fa hr2 hb2
  rcases hE with rfl | rfl
  · go_wp2_with (go_at_call 36; refine (hboot wc w.heap.size hr3).mono ?_; rintro _ wd ⟨rfl, hd, hg⟩)
    go_ret2
    exact ⟨⟨_, Nat.le_refl _, rfl, hd⟩, below_of_grown hb3 (Nat.le_refl _) hg⟩
  · go_wp2_with (go_at_call 36; refine (hboot wc w.heap.size hr3).mono ?_; rintro _ wd ⟨rfl, hd, hg⟩)
    go_ret2
    exact ⟨.inr ⟨by omega, rfl⟩, below_of_grown hb3 (Nat.le_refl _) hg⟩
end Go.Proofs.YtaokemapkgggoaaGreatDoor
