import Derived.Test.YtaokemapkgggoaaGreatDoorAl11
import Derived.Test.YtaokemapkgggoaaGreatDoorAl10
import Derived.Deep.RegionWith
namespace Go.Proofs.YtaokemapkgggoaaGreatDoor
open Go.RowKit

theorem told_str (b : ByteArray) (x y z : Int) : (⟨#[165]⟩ : ByteArray) ++ strOfNums [x, y] ++ b ++ strOfNums [z] = str ([165, UInt8.ofNat x.toNat, UInt8.ofNat y.toNat] ++ b.data.toList ++ [UInt8.ofNat z.toNat]) := by
  apply ByteArray.ext
  rw [ByteArray.data_append, ByteArray.data_append, ByteArray.data_append]
  apply Array.ext'
  simp [str, strOfNums]
theorem size2 (a b : Int) : (strOfNums [a, b]).size = 2 := by rw [strOfNums_size]; rfl

set_option maxRecDepth 100000 in
set_option maxHeartbeats 1000000 in
theorem ref_told (st : Int) (p : ByteArray) (w : World) (h0 : 0 ≤ st) (h1 : st < 256) (hp : p.size < 100000000) :
    Calls Tryz.prog 56 #[.int .i64 st, .string p] w fun r w' => r = .returned (.string (str (told st p.data.toList))) ∧ Below w.heap.size w w' := by
  have hpl : Hid (p.size = p.data.toList.length) := by show _ = _; rw [Array.length_toList]; rfl
  go_enter Tryz.func56, Tryz.ntmps56
  go_wp2
  go_loopw [5, 6] (fun sv c ws => ∃ j : Nat, j ≤ p.size ∧ c = .int .i64 j ∧ sv = .int .i64 ((p.size : Int) + st + 1 + sumB (p.data.toList.take j)) ∧ ws = w) (fun _ c _ => p.size - (intOf c).toNat)
  case atStart => exact ⟨0, by omega, rfl, by simp [sumB], rfl⟩
  case round =>
    obtain ⟨j, hj, rfl, rfl, rfl⟩ := hrel
    have hS0 := sumB_nonneg (p.data.toList.take j)
    have hS1 := sumB_le (p.data.toList.take j)
    have hlen : (p.data.toList.take j).length ≤ p.size := by rw [List.length_take, ← hpl.out]; omega
    by_cases hlt2 : j < p.size
    · have HS : Hid _ := sumB_take_succ p.data.toList j (by rw [← hpl.out]; exact hlt2)
      have hb := byte_at hlt2
      have hbd := getD_isB (bytesI_B p.data.toList) j
      obtain ⟨hb0, hb1'⟩ := hbd
      generalize (bytesI p.data.toList).getD j 0 = x at *
      generalize sumB (p.data.toList.take j) = sm at *
      have hj' : (j : Int) < p.size := by omega
      go_wp2
      refine ⟨⟨j + 1, by omega, by go_num, ?_, trivial⟩, by simp [intOf]; omega⟩
      rw [HS.out, Int.add_assoc]
    · have hj' : ¬ (j : Int) < p.size := by omega
      have e : p.data.toList.take j = p.data.toList := List.take_of_length_le (by rw [← hpl.out]; omega)
      rw [e] at hS0 hS1
      rw [e]
      rw [← hpl.out] at hS1
      have HF : Hid (str (told st p.data.toList) = ⟨#[165]⟩ ++ strOfNums [(p.size : Int) % 256, st] ++ p ++ strOfNums [((p.size : Int) + st + 1 + sumB p.data.toList) % 256]) := by
        show _ = _
        rw [told_str, told, ← hpl.out, toBytes_b8 h0 h1]
        rfl
      generalize sumB p.data.toList = sm at *
      have hm : ((p.size : Int) + st + 1 + sm).tmod 256 = ((p.size : Int) + st + 1 + sm) % 256 := Int.tmod_eq_emod_of_nonneg (by omega)
      have hcv := fun (W : World) (o : Obj) a => conv1 (W.alloc o) a (W.heap.size + 1) (World.size_alloc _ _).symm
      have hcv2 := fun W a b => conv2 W a b W.heap.size rfl
      have hz1 := size1
      have hz2 := size2
      have hA7 : (⟨#[165]⟩ : ByteArray).size = 1 := rfl
      have hw8 : ∀ x : Int, IntKind.u8.wrap x = x % 256 := u8_wrap
      have hst : st % 256 = st := by omega
      have hs3 : 3 + p.size + 1 ≤ 9223372036854775807 := by omega
      have hs4 : 3 + p.size ≤ 9223372036854775807 := by omega
      go_wp2
      go_ret
      exact ⟨ret_bytes HF.out.symm, ((Below.refl _ _).alloc (Nat.le_refl _) _).alloc (by simp) _⟩

/-- the document's device in memory -/
structure Dv where
  sm : Nat
  h0 : ByteArray
  h1 : ByteArray
  k : Kep
  wh : Int
  unl : Bool
  off : Bool
  cut : Int
  inn : ByteArray
def Dv.cells (d : Dv) : List Value := [.pointer (some ⟨d.sm, 0, none⟩), .string d.h0, .string d.h1, .int .i64 d.k.num, .int .i64 d.k.tries, .string d.k.pin, .string d.k.k0, .string d.k.k1, .string d.k.k2, .string d.k.k3, .int .i64 d.wh, .bool d.unl, .bool d.off, .int .i64 d.cut, .string d.inn]
def DvAt (w : World) (g : Nat) (d : Dv) : Prop := Row w g d.cells 103
theorem DvAt.c {w : World} {g : Nat} {d : Dv} (h : DvAt w g d) :
    w.cell? ⟨g, 0, none⟩ = some (.pointer (some ⟨d.sm, 0, none⟩)) ∧ w.cell? ⟨g, 1, none⟩ = some (.string d.h0) ∧ w.cell? ⟨g, 2, none⟩ = some (.string d.h1) ∧ w.cell? ⟨g, 3, none⟩ = some (.int .i64 d.k.num) ∧ w.cell? ⟨g, 4, none⟩ = some (.int .i64 d.k.tries) ∧
    w.cell? ⟨g, 5, none⟩ = some (.string d.k.pin) ∧ w.cell? ⟨g, 6, none⟩ = some (.string d.k.k0) ∧ w.cell? ⟨g, 7, none⟩ = some (.string d.k.k1) ∧ w.cell? ⟨g, 8, none⟩ = some (.string d.k.k2) ∧ w.cell? ⟨g, 9, none⟩ = some (.string d.k.k3) ∧
    w.cell? ⟨g, 10, none⟩ = some (.int .i64 d.wh) ∧ w.cell? ⟨g, 11, none⟩ = some (.bool d.unl) ∧ w.cell? ⟨g, 12, none⟩ = some (.bool d.off) ∧ w.cell? ⟨g, 13, none⟩ = some (.int .i64 d.cut) ∧ w.cell? ⟨g, 14, none⟩ = some (.string d.inn) :=
  ⟨h.cell.trans rfl, h.cell.trans rfl, h.cell.trans rfl, h.cell.trans rfl, h.cell.trans rfl, h.cell.trans rfl, h.cell.trans rfl, h.cell.trans rfl, h.cell.trans rfl, h.cell.trans rfl, h.cell.trans rfl, h.cell.trans rfl, h.cell.trans rfl, h.cell.trans rfl, h.cell.trans rfl⟩

set_option maxRecDepth 100000 in
set_option maxHeartbeats 400000 in
theorem ref_worn (w : World) (g : Nat) (d : Dv) (h : DvAt w g d) :
    Calls Tryz.prog 83 #[.pointer (some ⟨g, 0, none⟩)] w fun r w' => r = .returned (.bool (decide (4294967295 ≤ d.k.num))) ∧ w' = w := by
  obtain ⟨c0, c1, c2, c3, -⟩ := h.c
  clear h
  go_enter Tryz.func83, Tryz.ntmps83
  go_wp2
  go_ret
  exact ⟨rfl, rfl⟩

set_option maxRecDepth 100000 in
set_option maxHeartbeats 400000 in
theorem ref_Flash (w : World) (g : Nat) (d : Dv) (h : DvAt w g d) (hz : d.h0.size + d.h1.size < 100000000) :
    Calls Tryz.prog 32 #[.pointer (some ⟨g, 0, none⟩)] w fun r w' => r = .returned (.string (d.h0 ++ d.h1)) ∧ Below w.heap.size w w' := by
  obtain ⟨c0, c1, c2, -⟩ := h.c
  clear h
  have hs3 : d.h0.size + d.h1.size ≤ 9223372036854775807 := by omega
  go_enter Tryz.func32, Tryz.ntmps32
  go_wp2
  go_quiet (fail)
  go_wp2
  go_ret
  exact ⟨rfl, below_drewN (Below.refl _ _) _⟩
end Go.Proofs.YtaokemapkgggoaaGreatDoor

namespace Go.Proofs.YtaokemapkgggoaaGreatDoor
open Go.RowKit

def Kep.next (k : Kep) (n : Int) : Kep := { k with num := n }
/-- the device behind a write that was not cut off -/
def Dv.wrote (d : Dv) (k : Kep) : Dv :=
  { d with h0 := if d.wh = 0 then d.h0 else str (k.next (d.k.num + 1)).img, h1 := if d.wh = 0 then str (k.next (d.k.num + 1)).img else d.h1, k := k.next (d.k.num + 1), wh := 1 - d.wh, cut := if d.cut < 0 then d.cut else d.cut - 101 }

def isStruct : Option TypeDesc → Bool
  | some (.struct _) => true
  | _ => false
theorem struct_is {u : Option TypeDesc} (h : isStruct u = true) : ∃ fs, u = some (.struct fs) := by
  unfold isStruct at h
  split at h
  · exact ⟨_, rfl⟩
  · cases h
theorem underKept0 : isStruct (Tryz.prog.underlying 34) = true := by kernel_rfl
theorem underKept : ∃ fs, Tryz.prog.underlying 34 = some (.struct fs) := struct_is underKept0
theorem sizeKept : (Tryz.prog.info? 34).map (·.size) = some 7 := by kernel_rfl
theorem Row.setCells {g : Nat} {t : TypeId} : ∀ (vs : List Value) (o : Nat) {w : World} {cs : List Value}, Row w g cs t → o + vs.length ≤ cs.length → Row (w.setCells g o vs) g (splice cs o vs) t
  | [], o, w, cs, h, _ => by simpa [World.setCells, splice] using h
  | v :: r, o, w, cs, h, hl => by
    have hl' : o + (r.length + 1) ≤ cs.length := hl
    have := Row.setCells r (o + 1) (h.setCell o v) (by rw [List.length_set]; omega)
    rw [World.setCells]
    have e : splice (cs.set o v) (o + 1) r = splice cs o (v :: r) := by
      unfold splice
      rw [List.take_succ_eq_append_getElem (by rw [List.length_set]; omega), List.getElem_set_self, List.take_set_of_le (Nat.le_refl _), List.append_assoc, List.singleton_append]
      congr 2
      rw [List.length_cons, show o + 1 + r.length = o + (r.length + 1) by omega, List.drop_set_of_lt (by omega)]
      rfl
    rwa [e] at this
theorem grown_setCells {w : World} {g : Nat} : ∀ (vs : List Value) (o : Nat) {W : World}, w.grownBy W (some g) → w.grownBy (W.setCells g o vs) (some g)
  | [], _, _, h => h
  | v :: r, o, W, h => by rw [World.setCells]; exact grown_setCells r (o + 1) (h.trans (Lib.grownBy_setCell W g o v))
theorem grown_set {w W : World} {g : Nat} (h : w.grownBy W (some g)) (o : Nat) (v : Value) : w.grownBy (W.setCell ⟨g, o, none⟩ v) (some g) := h.trans (Lib.grownBy_setCell W g o v)
theorem grown_of_below {w W : World} (r : Option Nat) (hb : Below w.heap.size w W) : w.grownBy W r := ⟨hb.os, hb.tape, hb.output, hb.size, fun k hk _ => hb.block k hk⟩
theorem grown_below {w W W' : World} {r : Option Nat} (h : w.grownBy W r) (hb : Below W.heap.size W W') : w.grownBy W' r := h.trans (grown_of_below r hb)
theorem row7 {w : World} {g : Nat} {t : TypeId} {a b c d e f i : Value} (h : Row w g [a, b, c, d, e, f, i] t) :
    w.cell? ⟨g, 0, none⟩ = some a ∧ w.cell? ⟨g, 1, none⟩ = some b ∧ w.cell? ⟨g, 2, none⟩ = some c ∧ w.cell? ⟨g, 3, none⟩ = some d ∧ w.cell? ⟨g, 4, none⟩ = some e ∧ w.cell? ⟨g, 5, none⟩ = some f ∧ w.cell? ⟨g, 6, none⟩ = some i :=
  ⟨h.cell.trans rfl, h.cell.trans rfl, h.cell.trans rfl, h.cell.trans rfl, h.cell.trans rfl, h.cell.trans rfl, h.cell.trans rfl⟩
theorem Row.thereFrom {w : World} {g : Nat} {cs : List Value} {t : TypeId} (h : Row w g cs t) (o n : Nat) (hn : o + n ≤ cs.length) : w.there g o n := fun j hj =>
  ⟨by rw [h.cell, List.getElem?_eq_getElem (by omega)]; rfl, h.frozen _⟩
/-- a cell of a block that is newer than w -/
theorem grown_new {w W : World} {r : Option Nat} (h : w.grownBy W r) (b o : Nat) (v : Value) (hb : w.heap.size ≤ b) : w.grownBy (W.setCell ⟨b, o, none⟩ v) r :=
  h.andThen (Lib.grownBy_setCell W b o v) (fun j hj => .inl (by cases hj; exact hb))

set_option maxRecDepth 100000 in
set_option maxHeartbeats 1000000 in
theorem ref_write0 (w : World) (g : Nat) (d : Dv) (k : Kep) (h : DvAt w g d) (hk : k.fair) (hn0 : 0 ≤ d.k.num) (hn1 : d.k.num < 4294967296) (hwh : d.wh = 0) (hcut : d.cut < 0) :
    Calls Tryz.prog 84 #[.pointer (some ⟨g, 0, none⟩), .agg k.cells.toArray] w fun r w' => r = .returned (.bool true) ∧ DvAt w' g (d.wrote k) ∧ w.grownBy w' (some g) := by
  obtain ⟨kn, kt, kp, k0, k1, k2, k3⟩ := k
  obtain ⟨sm, h0, h1, ⟨dn, dt, dp, d0, d1, d2, d3⟩, wh, unl, off, cut, inn⟩ := d
  simp only at hn0 hn1 hwh hcut
  subst hwh
  obtain ⟨-, -, kt0, kt1, kps, ks0, ks1, ks2, ks3⟩ := hk
  simp only at kt0 kt1 kps ks0 ks1 ks2 ks3
  have hkf : Kep.fair ⟨dn + 1, kt, kp, k0, k1, k2, k3⟩ := ⟨by simp only; omega, by simp only; omega, kt0, kt1, kps, ks0, ks1, ks2, ks3⟩
  simp only [Kep.cells]
  have hgl : g < w.heap.size := h.lt
  have hne : ¬ g = w.heap.size := by omega
  have hne' : ¬ w.heap.size = g := by omega
  obtain ⟨im, HIM⟩ : ∃ im, Hid (im = str (Kep.img ⟨dn + 1, kt, kp, k0, k1, k2, k3⟩)) := ⟨_, rfl⟩
  obtain ⟨fs, hu'⟩ := underKept
  have hu : Hid _ := hu'
  clear hu'
  have hcut' : ¬ (0 : Int) ≤ cut := by omega
  go_enter Tryz.func84, Tryz.ntmps84
  go_wp2_with (first | (refine wpList_boxM rfl 34 _ rfl [.int .i64 kn, .int .i64 kt, .string kp, .string k0, .string k1, .string k2, .string k3] rfl ?_; intro w1 hr1 hb1; have hd1 : DvAt w1 g _ := h.below hb1 hgl; have c3 := hd1.c.2.2.2.1; simp only at c3; have hr2 : Row (w1.setCell ⟨w.heap.size, 0, none⟩ (.int .i64 (dn + 1))) w.heap.size [.int .i64 (dn + 1), .int .i64 kt, .string kp, .string k0, .string k1, .string k2, .string k3] 34 := hr1.setCell 0 (.int .i64 (dn + 1)); have f0 := hr1.frozen 0; obtain ⟨b0, b1, b2, b3, b4, b5, b6⟩ := row7 hr1; go_simp) | (go_at_call 24; refine (ref_Image ⟨dn + 1, kt, kp, k0, k1, k2, k3⟩ _ hkf).mono ?_; rintro _ w3 ⟨rfl, hb3⟩; rw [← HIM.out]; have hd3 : DvAt w3 g _ := (Row.setCell_other hd1 ⟨w.heap.size, 0, none⟩ _ hne).below hb3 (by have := hd1.lt; simpa using this); have hr3 := hr2.below hb3 hr2.lt; have hgr : w.grownBy w3 (some g) := grown_below (grown_new (grown_of_below _ hb1) w.heap.size 0 _ (Nat.le_refl _)) hb3; clear hr2 hr1 hb1 hb3 hd1 c3 b0 b1 b2 b3 b4 b5 b6 f0; obtain ⟨b0, b1, b2, b3, b4, b5, b6⟩ := row7 hr3; obtain ⟨c0, c1, c2, c3, c4, c5, c6, c7, c8, c9, c10, c11, c12, c13, c14⟩ := hd3.c; simp only at c0 c1 c2 c3 c4 c5 c6 c7 c8 c9 c10 c11 c12 c13 c14; have fz := hd3.frozen))
  go_ret
  refine ⟨rfl, ?_, grown_set (grown_set (grown_set (grown_set (grown_set (grown_set (grown_set (grown_set (grown_set hgr _ _) _ _) _ _) _ _) _ _) _ _) _ _) _ _) _ _⟩
  have hfin := ((((((((Row.setCell hd3 2 (.string im)).setCell 3 (.int .i64 (dn + 1))).setCell 4 (.int .i64 kt)).setCell 5 (.string kp)).setCell 6 (.string k0)).setCell 7 (.string k1)).setCell 8 (.string k2)).setCell 9 (.string k3)).setCell 10 (.int .i64 1)
  have e : Dv.wrote ⟨sm, h0, h1, ⟨dn, dt, dp, d0, d1, d2, d3⟩, 0, unl, off, cut, inn⟩ ⟨kn, kt, kp, k0, k1, k2, k3⟩ = ⟨sm, h0, im, ⟨dn + 1, kt, kp, k0, k1, k2, k3⟩, 1, unl, off, cut, inn⟩ := by
    simp [Dv.wrote, Kep.next, HIM.out, hcut]
  rw [e]
  exact hfin

set_option maxRecDepth 100000 in
set_option maxHeartbeats 1000000 in
theorem ref_write1 (w : World) (g : Nat) (d : Dv) (k : Kep) (h : DvAt w g d) (hk : k.fair) (hn0 : 0 ≤ d.k.num) (hn1 : d.k.num < 4294967296) (hwh : d.wh = 1) (hcut : d.cut < 0) :
    Calls Tryz.prog 84 #[.pointer (some ⟨g, 0, none⟩), .agg k.cells.toArray] w fun r w' => r = .returned (.bool true) ∧ DvAt w' g (d.wrote k) ∧ w.grownBy w' (some g) := by
  obtain ⟨kn, kt, kp, k0, k1, k2, k3⟩ := k
  obtain ⟨sm, h0, h1, ⟨dn, dt, dp, d0, d1, d2, d3⟩, wh, unl, off, cut, inn⟩ := d
  simp only at hn0 hn1 hwh hcut
  subst hwh
  obtain ⟨-, -, kt0, kt1, kps, ks0, ks1, ks2, ks3⟩ := hk
  simp only at kt0 kt1 kps ks0 ks1 ks2 ks3
  have hkf : Kep.fair ⟨dn + 1, kt, kp, k0, k1, k2, k3⟩ := ⟨by simp only; omega, by simp only; omega, kt0, kt1, kps, ks0, ks1, ks2, ks3⟩
  simp only [Kep.cells]
  have hgl : g < w.heap.size := h.lt
  have hne : ¬ g = w.heap.size := by omega
  have hne' : ¬ w.heap.size = g := by omega
  obtain ⟨im, HIM⟩ : ∃ im, Hid (im = str (Kep.img ⟨dn + 1, kt, kp, k0, k1, k2, k3⟩)) := ⟨_, rfl⟩
  obtain ⟨fs, hu'⟩ := underKept
  have hu : Hid _ := hu'
  clear hu'
  have hcut' : ¬ (0 : Int) ≤ cut := by omega
  go_enter Tryz.func84, Tryz.ntmps84
  go_wp2_with (first | (refine wpList_boxM rfl 34 _ rfl [.int .i64 kn, .int .i64 kt, .string kp, .string k0, .string k1, .string k2, .string k3] rfl ?_; intro w1 hr1 hb1; have hd1 : DvAt w1 g _ := h.below hb1 hgl; have c3 := hd1.c.2.2.2.1; simp only at c3; have hr2 : Row (w1.setCell ⟨w.heap.size, 0, none⟩ (.int .i64 (dn + 1))) w.heap.size [.int .i64 (dn + 1), .int .i64 kt, .string kp, .string k0, .string k1, .string k2, .string k3] 34 := hr1.setCell 0 (.int .i64 (dn + 1)); have f0 := hr1.frozen 0; obtain ⟨b0, b1, b2, b3, b4, b5, b6⟩ := row7 hr1; go_simp) | (go_at_call 24; refine (ref_Image ⟨dn + 1, kt, kp, k0, k1, k2, k3⟩ _ hkf).mono ?_; rintro _ w3 ⟨rfl, hb3⟩; rw [← HIM.out]; have hd3 : DvAt w3 g _ := (Row.setCell_other hd1 ⟨w.heap.size, 0, none⟩ _ hne).below hb3 (by have := hd1.lt; simpa using this); have hr3 := hr2.below hb3 hr2.lt; have hgr : w.grownBy w3 (some g) := grown_below (grown_new (grown_of_below _ hb1) w.heap.size 0 _ (Nat.le_refl _)) hb3; clear hr2 hr1 hb1 hb3 hd1 c3 b0 b1 b2 b3 b4 b5 b6 f0; obtain ⟨b0, b1, b2, b3, b4, b5, b6⟩ := row7 hr3; obtain ⟨c0, c1, c2, c3, c4, c5, c6, c7, c8, c9, c10, c11, c12, c13, c14⟩ := hd3.c; simp only at c0 c1 c2 c3 c4 c5 c6 c7 c8 c9 c10 c11 c12 c13 c14; have fz := hd3.frozen))
  go_ret
  refine ⟨rfl, ?_, grown_set (grown_set (grown_set (grown_set (grown_set (grown_set (grown_set (grown_set (grown_set hgr _ _) _ _) _ _) _ _) _ _) _ _) _ _) _ _) _ _⟩
  have hfin := ((((((((Row.setCell hd3 1 (.string im)).setCell 3 (.int .i64 (dn + 1))).setCell 4 (.int .i64 kt)).setCell 5 (.string kp)).setCell 6 (.string k0)).setCell 7 (.string k1)).setCell 8 (.string k2)).setCell 9 (.string k3)).setCell 10 (.int .i64 0)
  have e : Dv.wrote ⟨sm, h0, h1, ⟨dn, dt, dp, d0, d1, d2, d3⟩, 1, unl, off, cut, inn⟩ ⟨kn, kt, kp, k0, k1, k2, k3⟩ = ⟨sm, im, h1, ⟨dn + 1, kt, kp, k0, k1, k2, k3⟩, 0, unl, off, cut, inn⟩ := by
    simp [Dv.wrote, Kep.next, HIM.out, hcut]
  rw [e]
  exact hfin

end Go.Proofs.YtaokemapkgggoaaGreatDoor

namespace Go.Proofs.YtaokemapkgggoaaGreatDoor
open Go.RowKit

theorem grown_setRow {w W : World} {g : Nat} (h : w.grownBy W (some g)) (cs : Array Value) : w.grownBy (W.setRow g cs) (some g) :=
  h.trans ⟨rfl, rfl, rfl, by simp [World.setRow], fun k _ hk => Go.setRow_other W g k cs (fun e => hk (by rw [e]))⟩
theorem grown_drew' {w W : World} {r : Option Nat} (h : w.grownBy W r) : w.grownBy W.drew r := ⟨h.os, h.tape, h.output, h.size, h.block⟩
theorem ImgAt.of_row {w : World} {g : Nat} {l : List UInt8} {t : TypeId} (h : Row w g (bcells l) t) (hl : l.length = 100) : ImgAt w g 0 l := ⟨hl, h.range⟩
theorem splice_u8 (l : List UInt8) (o : Nat) (m : List UInt8) : splice (bcells l) o (bcells m) = bcells (l.take o ++ m ++ l.drop (o + m.length)) := by
  unfold splice
  rw [bcells_length]
  simp [bcells, List.map_take, List.map_drop]
def withNum (l : List UInt8) (x : Int) : List UInt8 := l.take 1 ++ toBytes (four x) ++ l.drop 5
theorem withNum_length (l : List UInt8) (x : Int) (h : l.length = 100) : (withNum l x).length = 100 := by simp [withNum, toBytes_length, four]; omega
/-- the image with the next number, and its check -/
def turned (l : List UInt8) : List UInt8 := (withNum l ((numOf l + 1) % 4294967296)).set 99 (b8 (chkOf (withNum l ((numOf l + 1) % 4294967296))))
theorem turned_length (l : List UInt8) (h : l.length = 100) : (turned l).length = 100 := by rw [turned, List.length_set, withNum_length l _ h]
theorem chkOf_B (l : List UInt8) : 0 ≤ chkOf l ∧ chkOf l < 256 := by unfold chkOf; omega
theorem bcells_set (l : List UInt8) (i : Nat) (x : Int) (h0 : 0 ≤ x) (h1 : x < 256) : (bcells l).set i (.int .u8 x) = bcells (l.set i (b8 x)) := by
  have e : ((b8 x).toNat : Int) = x := by rw [b8_toNat]; omega
  simp only [bcells, List.map_set, e]
theorem four_cells (x : Int) (h : isW x) : u8s (four x) = bcells (toBytes (four x)) := by
  rw [bcells_eq, bytesI_toBytes (four_B h)]

set_option maxRecDepth 100000 in
set_option maxHeartbeats 1000000 in
theorem prog_turnNumber (w : World) (g : Nat) (l : List UInt8) (hR : Row w g (bcells l) 93) (hl : l.length = 100) :
    Calls Tryz.prog 72 #[.pointer (some ⟨g, 0, none⟩)] w fun r w' => r = .returned (.tuple #[]) ∧ Row w' g (bcells (turned l)) 93 ∧ w.grownBy w' (some g) := by
  have HL : Hid (l.length = 100) := hl
  clear hl
  have I0 : Hid (ImgAt w g 0 l) := ImgAt.of_row hR HL.out
  obtain ⟨nx, HNX⟩ : ∃ nx, Hid (nx = (numOf l + 1) % 4294967296) := ⟨_, rfl⟩
  have hnx : isW nx := by rw [HNX.out]; unfold isW; omega
  have hnw := numOf_w l
  obtain ⟨hnw0, hnw1⟩ := hnw
  obtain ⟨fx, HFX⟩ : ∃ fx, Hid (fx = u8s (four nx)) := ⟨_, rfl⟩
  have HFL : Hid (fx.length = 4) := by show _ = _; rw [HFX.out]; rfl
  have HFO : ∀ v ∈ fx, v.oneCell' = true := by rw [HFX.out]; exact u8s_one _
  obtain ⟨m, HM⟩ : ∃ m, Hid (m = withNum l nx) := ⟨_, rfl⟩
  have hml : Hid (m.length = 100) := by show _ = _; rw [HM.out]; exact withNum_length l nx HL.out
  have HSP : Hid (splice (bcells l) 1 fx = bcells m) := by
    show _ = _
    rw [HFX.out, four_cells nx hnx, splice_u8, HM.out]
    rfl
  have hsl := fun wx => run_sliceArr2 (P := Tryz.prog) wx 93 5 100 under_img size_byte g 0 1 5 (by omega) (by omega) (by omega) 1 5 rfl rfl
  obtain ⟨nn, HNN⟩ : ∃ nn, Hid (nn = numOf l) := ⟨_, rfl⟩
  rw [← HNN.out] at hnw0 hnw1
  have hgl : g < w.heap.size := hR.lt
  go_enter Tryz.func72, Tryz.ntmps72
  go_wp2_with (first | (go_at_call 74; refine (prog_number w g 0 l I0.out).mono ?_; rintro _ w0 ⟨rfl, n0, e0⟩; rw [← HNN.out]; have hR0 : Row w0 g (bcells l) 93 := (by rw [e0]; exact hR); have hg0 : w.grownBy w0 (some g) := (by rw [e0]; exact grown_of_below _ (below_drewN (Below.refl _ _) _)); clear e0) | (go_at_call 87; rw [show (nn + 1) % 4294967296 = nx by rw [HNN.out, HNX.out]]; refine (prog_fourBytes nx _ hnx).mono ?_; rintro _ w1 ⟨rfl, hb1⟩; rw [← HFX.out]; have hR1 : Row w1 g (bcells l) 93 := hR0.below hb1 hR0.lt; have hg1 : w.grownBy w1 (some g) := grown_below hg0 hb1; clear hb1 hg0 hR0) | (refine wpList_allocR rfl 144 rfl 4 (.int .u8 0) arr4b ?_; go_simp) | (refine wpList_storeMA rfl 144 _ _ rfl _ rfl rfl fx rfl 144 _ 4 (.int .u8 0) arr4b HFL.out (zrow_length _ _) HFO ?_; intro w3 hr5 hb3; have hR3 : Row w3 g (bcells l) 93 := hR1.below hb3 hR1.lt; have hg3 : w.grownBy w3 (some g) := grown_below hg1 hb3; have hne3 : ¬ g = w1.heap.size := (by have := hR1.lt; omega); clear hR1 hg1 hb3; go_simp))
  have hcp : (Builtin.copy_ #[49, 49] 3 #[.slice (some ⟨g, 1, none⟩) 4 99, .slice (some ⟨w1.heap.size, 0, none⟩) 4 4]).run Tryz.prog w3.drew = .ok (.int .i64 4) (w3.drew.setRow g (bcells m).toArray) := by
    have hr := run_copy_row (P := Tryz.prog) w3.drew 49 49 3 5 g 1 4 99 ⟨w1.heap.size, 0, none⟩ 4 4 (bcells l).toArray 93 fx under_bytes size_byte hR3 (by rw [HFL.out]; rfl) (row_src (show Row w3.drew _ _ _ from hr5)) (by rw [HFL.out, List.size_toArray, bcells_length, HL.out]; omega) HFO
    rw [HFL.out, List.toList_toArray] at hr
    have e := HSP.out
    unfold splice at e
    rw [HFL.out] at e
    rw [← e, hr]
    simp [goInt]
  have hR4 : Row (w3.drew.setRow g (bcells m).toArray) g (bcells m) 93 := Row.setRow hR3.drew _
  have hg4 : w.grownBy (w3.drew.setRow g (bcells m).toArray) (some g) := grown_setRow (grown_drew' hg3) _
  clear hr5 hR3 hg3 HSP
  go_region
  clear hcp
  generalize w3.drew.setRow g (bcells m).toArray = w4 at *
  have I4 : Hid (ImgAt w4.drew g 0 m) := ImgAt.of_row hR4.drew hml.out
  have c99 := I4.out.b 99 (by omega)
  rw [Nat.zero_add] at c99
  have f99 := hR4.frozen 99
  obtain ⟨cb0, cb1⟩ := chkOf_B m
  have HT : Hid ((bcells m).set 99 (.int .u8 (chkOf m)) = bcells (turned l)) := by
    show _ = _
    rw [bcells_set m 99 _ cb0 cb1, turned, ← HNX.out, ← HM.out]
  go_wp2
  go_region_with (first | (go_at_call 88; refine (prog_check _ g 0 m I4.out).mono ?_; rintro _ w9 ⟨rfl, e9⟩; rw [e9]; clear e9 w9))
  go_wp2
  go_end0
  have hfin := (hR4.drew).setCell 99 (.int .u8 (chkOf m))
  rw [HT.out] at hfin
  exact ⟨rfl, hfin, grown_set (grown_drew' hg4) 99 _⟩
end Go.Proofs.YtaokemapkgggoaaGreatDoor

namespace Go.Proofs.YtaokemapkgggoaaGreatDoor
open Go.RowKit

section
variable {P : Program} {ops : Array Oper} {rest : List Oper} {o : Oper} {a : Act} {K : Act → World → Prop} {Q : Exit → Act → World → Prop}
end

theorem ref_write (w : World) (g : Nat) (d : Dv) (k : Kep) (h : DvAt w g d) (hk : k.fair) (hn0 : 0 ≤ d.k.num) (hn1 : d.k.num < 4294967296) (hwh : d.wh = 0 ∨ d.wh = 1) (hcut : d.cut < 0) :
    Calls Tryz.prog 84 #[.pointer (some ⟨g, 0, none⟩), .agg k.cells.toArray] w fun r w' => r = .returned (.bool true) ∧ DvAt w' g (d.wrote k) ∧ w.grownBy w' (some g) := by
  rcases hwh with hwh | hwh
  · exact ref_write0 w g d k h hk hn0 hn1 hwh hcut
  · exact ref_write1 w g d k h hk hn0 hn1 hwh hcut

/-- what stands in a device that was made by New, and its power never cut -/
structure Dv.ok (d : Dv) : Prop where
  n0 : 1 ≤ d.k.num
  n1 : d.k.num ≤ 4294967295
  t0 : 0 ≤ d.k.tries
  t1 : d.k.tries ≤ 5
  p0 : 1 ≤ d.k.pin.size
  p1 : d.k.pin.size ≤ 8
  k0 : d.k.k0.size ≤ 20
  k1 : d.k.k1.size ≤ 20
  k2 : d.k.k2.size ≤ 20
  k3 : d.k.k3.size ≤ 20
  wh : d.wh = 0 ∨ d.wh = 1
  off : d.off = false
  cut : d.cut < 0
theorem Dv.ok.fair {d : Dv} (h : d.ok) : d.k.fair := ⟨by have := h.n0; omega, by have := h.n1; omega, by have := h.t0; omega, by have := h.t1; omega, by have := h.p1; omega, by have := h.k0; omega, by have := h.k1; omega, by have := h.k2; omega, by have := h.k3; omega⟩

def Kep.less (k : Kep) : Kep := { k with tries := k.tries - 1 }
def Kep.full (k : Kep) : Kep := { k with tries := 5 }
def Kep.bare (k : Kep) : Kep := { k with k0 := ⟨#[]⟩, k1 := ⟨#[]⟩, k2 := ⟨#[]⟩, k3 := ⟨#[]⟩ }
def Dv.lock (d : Dv) : Dv := { d with unl := false }
def Dv.open (d : Dv) : Dv := { d with unl := true }
/-- a PIN is tried -/
def Dv.unlock (d : Dv) (p : ByteArray) : Dv × Int × List UInt8 :=
  if p.size < 1 ∨ 8 < p.size then (d, 4, [])
  else if d.k.tries = 0 then (d, 5, [])
  else if 4294967295 ≤ d.k.num then (d, 7, [])
  else if p ≠ d.k.pin then
    (if d.k.tries - 1 = 0 ∧ ¬ 4294967295 ≤ d.k.num + 1 then (d.wrote d.k.less).lock.wrote d.k.less.bare else (d.wrote d.k.less).lock, 3, [b8 (d.k.tries - 1)])
  else if 4294967295 ≤ d.k.num + 1 then ((d.wrote d.k.less).lock, 7, [])
  else (((d.wrote d.k.less).wrote d.k.less.full).open, 0, [])
end Go.Proofs.YtaokemapkgggoaaGreatDoor

namespace Go.Proofs.YtaokemapkgggoaaGreatDoor
open Go.RowKit

/-- what a command of the document's device leaves -/
def Left (g : Nat) (w : World) (x : Dv × Int × List UInt8) (r : Ending) (w' : World) : Prop :=
  r = .returned (.tuple #[.int .i64 x.2.1, .string (str x.2.2)]) ∧ DvAt w' g x.1 ∧ w.grownBy w' (some g)

set_option maxRecDepth 100000 in
set_option maxHeartbeats 1000000 in
theorem ref_unlock_early (w : World) (g : Nat) (d : Dv) (p : ByteArray) (h : DvAt w g d) (hp : p.size < 1000000) (he : (p.size < 1 ∨ 8 < p.size) ∨ d.k.tries = 0 ∨ 4294967295 ≤ d.k.num) :
    Calls Tryz.prog 81 #[.pointer (some ⟨g, 0, none⟩), .string p] w (Left g w (d.unlock p)) := by
  by_cases h1 : p.size < 1 ∨ 8 < p.size
  · have e : d.unlock p = (d, 4, []) := by unfold Dv.unlock; rw [if_pos h1]
    rw [e]
    by_cases h1a : p.size < 1
    · have h1' : (p.size : Int) < 1 := by omega
      go_enter Tryz.func81, Tryz.ntmps81
      go_wp2
      go_ret2
      exact ⟨rfl, h, World.grownBy.refl _ _⟩
    · have h1' : ¬ (p.size : Int) < 1 := by omega
      have h1'' : (8 : Int) < p.size := by omega
      go_enter Tryz.func81, Tryz.ntmps81
      go_wp2
      go_ret2
      exact ⟨rfl, h, World.grownBy.refl _ _⟩
  · have h1' : ¬ (p.size : Int) < 1 := by omega
    have h1'' : ¬ (8 : Int) < p.size := by omega
    obtain ⟨c0, c1, c2, c3, c4, -⟩ := h.c
    by_cases h2 : d.k.tries = 0
    · have e : d.unlock p = (d, 5, []) := by unfold Dv.unlock; rw [if_neg h1, if_pos h2]
      rw [e]
      go_enter Tryz.func81, Tryz.ntmps81
      go_wp2
      go_ret2
      exact ⟨rfl, h, World.grownBy.refl _ _⟩
    · have h3 : 4294967295 ≤ d.k.num := by
        rcases he with he | he | he
        · exact absurd he h1
        · exact absurd he h2
        · exact he
      have e : d.unlock p = (d, 7, []) := by unfold Dv.unlock; rw [if_neg h1, if_neg h2, if_pos h3]
      rw [e]
      go_enter Tryz.func81, Tryz.ntmps81
      go_wp2_with (go_at_call 83; refine (ref_worn _ g d h).mono ?_; rintro _ _ ⟨rfl, rfl⟩)
      go_ret2
      exact ⟨rfl, h, World.grownBy.refl _ _⟩

/-- the try itself -/
theorem ret_pair {st : Int} {a b : ByteArray} (h : a = b) : Ending.returned (.tuple #[.int .i64 st, .string a]) = .returned (.tuple #[.int .i64 st, .string b]) := by rw [h]
theorem b8_str (x : Int) : strOfNums [x % 256] = str [b8 x] := rfl
theorem grown_drew {w W : World} {r : Option Nat} (h : w.grownBy W r) : w.grownBy W.drew r := ⟨h.os, h.tape, h.output, h.size, h.block⟩
theorem grown_alloc {w W : World} {r : Option Nat} (h : w.grownBy W r) (o : Obj) : w.grownBy (W.alloc o) r := h.trans (World.grownBy_alloc W o r)
theorem size_setCell (W : World) (A : Addr) (v : Value) : (W.setCell A v).heap.size = W.heap.size := by simp [World.setCell]
theorem bytes_ne {a b : ByteArray} (h : ¬ a = b) : (a.toList == b.toList) = false := by
  rw [ByteArray.toList_eq, ByteArray.toList_eq, beq_eq_false_iff_ne]
  intro e
  exact h (ByteArray.ext (Array.toList_inj.1 e))
theorem Row.grown {w w' : World} {g b : Nat} {cs : List Value} {t : TypeId} (h : Row w b cs t) (hg : w.grownBy w' (some g)) (hne : ¬ b = g) : Row w' b cs t := by
  unfold Row; rw [hg.block b h.lt (by intro e; exact hne (Option.some.inj e))]; exact h

end Go.Proofs.YtaokemapkgggoaaGreatDoor
