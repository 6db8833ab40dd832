import Derived.Test.YtaokemapkgggoaaGreatDoorAl23
namespace Go.Proofs.YtaokemapkgggoaaGreatDoor
open Go.RowKit

/-- a half in whose middle the power has gone, behind n bytes -/
def tornB (n : Nat) (t : List UInt8) (old : ByteArray) : ByteArray := if n = 0 then old else str (0 :: (t.drop 1).take (n - 1) ++ old.data.toList.drop n)
/-- a write in whose middle the power goes -/
def Dv.torn (d : Dv) (k : Kep) : Dv :=
  { d with h0 := if d.wh = 0 then d.h0 else tornB d.cut.toNat (k.next (d.k.num + 1)).img d.h0, h1 := if d.wh = 0 then tornB d.cut.toNat (k.next (d.k.num + 1)).img d.h1 else d.h1, off := true, unl := false }
/-- a write -/
def Dv.put (d : Dv) (k : Kep) : Dv := if 0 ≤ d.cut ∧ d.cut < 101 then d.torn k else d.wrote k
def Dv.puts (d : Dv) : Bool := decide (¬ (0 ≤ d.cut ∧ d.cut < 101))
theorem torn_str (n : Nat) (hn : 1 ≤ n) (im old : ByteArray) (t : List UInt8) (him : im = str t) : (⟨#[0]⟩ : ByteArray) ++ im.extract 1 n ++ old.extract n old.size = tornB n t old := by
  unfold tornB
  rw [if_neg (by omega)]
  apply ByteArray.ext
  apply Array.toList_inj.1
  rw [ByteArray.data_append, ByteArray.data_append, Array.toList_append, Array.toList_append, him]
  have e1 : ((str t).extract 1 n).data.toList = (t.drop 1).take (n - 1) := by
    rw [ByteArray.data_extract, Array.toList_extract, List.extract_eq_take_drop]
    rfl
  have e2 : (old.extract n old.size).data.toList = old.data.toList.drop n := by
    rw [ByteArray.data_extract, Array.toList_extract, List.extract_eq_take_drop]
    exact List.take_of_length_le (by rw [List.length_drop, Array.length_toList]; exact Nat.le_refl _)
  rw [e1, e2]
  rfl

set_option maxRecDepth 100000 in
set_option maxHeartbeats 1000000 in
theorem ref_writeB0 (w : World) (g : Nat) (d : Dv) (k : Kep) (h : DvAt w g d) (hk : k.fair) (hn0 : 0 ≤ d.k.num) (hn1 : d.k.num < 4294967296) (hwh : d.wh = 0) (hcut : 101 ≤ d.cut) (hcut1 : d.cut ≤ 9223372036854775807) :
    Calls Tryz.prog 84 #[.pointer (some ⟨g, 0, none⟩), .agg k.cells.toArray] w fun r w' => r = .returned (.bool true) ∧ DvAt w' g (d.wrote k) ∧ w.grownBy w' (some g) := by
  obtain ⟨kn, kt, kp, k0, k1, k2, k3⟩ := k
  obtain ⟨sm, h0, h1, ⟨dn, dt, dp, d0, d1, d2, d3⟩, wh, unl, off, cut, inn⟩ := d
  simp only at hn0 hn1 hwh hcut hcut1
  subst hwh
  obtain ⟨-, -, kt0, kt1, kps, ks0, ks1, ks2, ks3⟩ := hk
  simp only at kt0 kt1 kps ks0 ks1 ks2 ks3
  have hkf : Kep.fair ⟨dn + 1, kt, kp, k0, k1, k2, k3⟩ := ⟨by simp only; omega, by simp only; omega, kt0, kt1, kps, ks0, ks1, ks2, ks3⟩
  simp only [Kep.cells]
  have hgl : g < w.heap.size := h.lt
  have hne : ¬ g = w.heap.size := by omega
  have hne' : ¬ w.heap.size = g := by omega
  obtain ⟨im, HIM⟩ : ∃ im, Hid (im = str (Kep.img ⟨dn + 1, kt, kp, k0, k1, k2, k3⟩)) := ⟨_, rfl⟩
  obtain ⟨fs, hu'⟩ := underKept
  have hu : Hid _ := hu'
  clear hu'
  have hcut' : (0 : Int) ≤ cut := by omega
  have hcut2 : ¬ cut < 101 := by omega
  go_enter Tryz.func84, Tryz.ntmps84
  go_wp2_with (first | (refine wpList_boxM rfl 34 _ rfl [.int .i64 kn, .int .i64 kt, .string kp, .string k0, .string k1, .string k2, .string k3] rfl ?_; intro w1 hr1 hb1; have hd1 : DvAt w1 g _ := h.below hb1 hgl; have c3 := hd1.c.2.2.2.1; simp only at c3; have hr2 : Row (w1.setCell ⟨w.heap.size, 0, none⟩ (.int .i64 (dn + 1))) w.heap.size [.int .i64 (dn + 1), .int .i64 kt, .string kp, .string k0, .string k1, .string k2, .string k3] 34 := hr1.setCell 0 (.int .i64 (dn + 1)); have f0 := hr1.frozen 0; obtain ⟨b0, b1, b2, b3, b4, b5, b6⟩ := row7 hr1; go_simp) | (go_at_call 24; refine (ref_Image ⟨dn + 1, kt, kp, k0, k1, k2, k3⟩ _ hkf).mono ?_; rintro _ w3 ⟨rfl, hb3⟩; rw [← HIM.out]; have hd3 : DvAt w3 g _ := (Row.setCell_other hd1 ⟨w.heap.size, 0, none⟩ _ hne).below hb3 (by have := hd1.lt; simpa using this); have hr3 := hr2.below hb3 hr2.lt; have hgr : w.grownBy w3 (some g) := grown_below (grown_new (grown_of_below _ hb1) w.heap.size 0 _ (Nat.le_refl _)) hb3; clear hr2 hr1 hb1 hb3 hd1 c3 b0 b1 b2 b3 b4 b5 b6 f0; obtain ⟨b0, b1, b2, b3, b4, b5, b6⟩ := row7 hr3; obtain ⟨c0, c1, c2, c3, c4, c5, c6, c7, c8, c9, c10, c11, c12, c13, c14⟩ := hd3.c; simp only at c0 c1 c2 c3 c4 c5 c6 c7 c8 c9 c10 c11 c12 c13 c14; have fz := hd3.frozen))
  go_ret
  refine ⟨rfl, ?_, grown_set (grown_set (grown_set (grown_set (grown_set (grown_set (grown_set (grown_set (grown_set (grown_set hgr _ _) _ _) _ _) _ _) _ _) _ _) _ _) _ _) _ _) _ _⟩
  have hfin := (((((((((Row.setCell hd3 2 (.string im)).setCell 13 (.int .i64 (cut - 101))).setCell 3 (.int .i64 (dn + 1))).setCell 4 (.int .i64 kt)).setCell 5 (.string kp)).setCell 6 (.string k0)).setCell 7 (.string k1)).setCell 8 (.string k2)).setCell 9 (.string k3)).setCell 10 (.int .i64 1)
  have e : Dv.wrote ⟨sm, h0, h1, ⟨dn, dt, dp, d0, d1, d2, d3⟩, 0, unl, off, cut, inn⟩ ⟨kn, kt, kp, k0, k1, k2, k3⟩ = ⟨sm, h0, im, ⟨dn + 1, kt, kp, k0, k1, k2, k3⟩, 1, unl, off, cut - 101, inn⟩ := by
    have hnc : ¬ cut < 0 := by omega
    simp [Dv.wrote, Kep.next, HIM.out, hnc]
  rw [e]
  exact hfin

set_option maxRecDepth 100000 in
set_option maxHeartbeats 1000000 in
theorem ref_writeC0 (w : World) (g : Nat) (d : Dv) (k : Kep) (h : DvAt w g d) (hk : k.fair) (hn0 : 0 ≤ d.k.num) (hn1 : d.k.num < 4294967296) (hwh : d.wh = 0) (n : Nat) (hcut : d.cut = n) (hc1 : 1 ≤ n) (hc2 : n ≤ 100) (hsz : d.h1.size = 100) (hg : (k.next (d.k.num + 1)).good) :
    Calls Tryz.prog 84 #[.pointer (some ⟨g, 0, none⟩), .agg k.cells.toArray] w fun r w' => r = .returned (.bool false) ∧ DvAt w' g (d.torn k) ∧ w.grownBy w' (some g) := by
  obtain ⟨kn, kt, kp, k0, k1, k2, k3⟩ := k
  obtain ⟨sm, h0, h1, ⟨dn, dt, dp, d0, d1, d2, d3⟩, wh, unl, off, cut, inn⟩ := d
  simp only at hn0 hn1 hwh hcut hsz
  subst hwh hcut
  obtain ⟨-, -, kt0, kt1, kps, ks0, ks1, ks2, ks3⟩ := hk
  simp only at kt0 kt1 kps ks0 ks1 ks2 ks3
  have hkf : Kep.fair ⟨dn + 1, kt, kp, k0, k1, k2, k3⟩ := ⟨by simp only; omega, by simp only; omega, kt0, kt1, kps, ks0, ks1, ks2, ks3⟩
  simp only [Kep.cells]
  have hgl : g < w.heap.size := h.lt
  have hne : ¬ g = w.heap.size := by omega
  have hne' : ¬ w.heap.size = g := by omega
  obtain ⟨im, HIM⟩ : ∃ im, Hid (im = str (Kep.img ⟨dn + 1, kt, kp, k0, k1, k2, k3⟩)) := ⟨_, rfl⟩
  obtain ⟨fs, hu'⟩ := underKept
  have hu : Hid _ := hu'
  clear hu'
  have hims : im.size = 100 := by rw [HIM.out, str_size]; exact Kep.img_length hg
  obtain ⟨pa, HPA⟩ : ∃ pa, Hid (pa = im.extract 1 n) := ⟨_, rfl⟩
  obtain ⟨pb, HPB⟩ : ∃ pb, Hid (pb = h1.extract n 100) := ⟨_, rfl⟩
  have hpa : im.extract 1 n = pa := HPA.out.symm
  have hpb : h1.extract n 100 = pb := HPB.out.symm
  have hza : pa.size ≤ 100 := by rw [HPA.out, ByteArray.size_extract]; omega
  have hzb : pb.size ≤ 100 := by rw [HPB.out, ByteArray.size_extract]; omega
  have hz1 : 1 + pa.size ≤ 9223372036854775807 := by omega
  have hz2 : 1 + pa.size + pb.size ≤ 9223372036854775807 := by omega
  have HTB : Hid ((⟨#[0]⟩ : ByteArray) ++ pa ++ pb = tornB n (Kep.img ⟨dn + 1, kt, kp, k0, k1, k2, k3⟩) h1) := by show _ = _; rw [HPA.out, HPB.out, ← hsz]; exact torn_str n hc1 im h1 _ HIM.out
  have hcut' : (0 : Int) ≤ n := by omega
  have hcut2 : (n : Int) < 101 := by omega
  have hcut3 : ¬ (100 : Int) < n := by omega
  have hcut4 : (0 : Int) < n := by omega
  have hcut5 : (1 : Int) ≤ n := by omega
  have hcut6 : (n : Int) ≤ im.size := by omega
  have hcut7 : (n : Int) ≤ h1.size := by omega
  have hcut8 : (n : Int) ≤ 100 := by omega
  go_enter Tryz.func84, Tryz.ntmps84
  go_wp2_with (first | (refine wpList_boxM rfl 34 _ rfl [.int .i64 kn, .int .i64 kt, .string kp, .string k0, .string k1, .string k2, .string k3] rfl ?_; intro w1 hr1 hb1; have hd1 : DvAt w1 g _ := h.below hb1 hgl; have c3 := hd1.c.2.2.2.1; simp only at c3; have hr2 : Row (w1.setCell ⟨w.heap.size, 0, none⟩ (.int .i64 (dn + 1))) w.heap.size [.int .i64 (dn + 1), .int .i64 kt, .string kp, .string k0, .string k1, .string k2, .string k3] 34 := hr1.setCell 0 (.int .i64 (dn + 1)); have f0 := hr1.frozen 0; obtain ⟨b0, b1, b2, b3, b4, b5, b6⟩ := row7 hr1; go_simp) | (go_at_call 24; refine (ref_Image ⟨dn + 1, kt, kp, k0, k1, k2, k3⟩ _ hkf).mono ?_; rintro _ w3 ⟨rfl, hb3⟩; rw [← HIM.out]; have hd3 : DvAt w3 g _ := (Row.setCell_other hd1 ⟨w.heap.size, 0, none⟩ _ hne).below hb3 (by have := hd1.lt; simpa using this); have hr3 := hr2.below hb3 hr2.lt; have hgr : w.grownBy w3 (some g) := grown_below (grown_new (grown_of_below _ hb1) w.heap.size 0 _ (Nat.le_refl _)) hb3; clear hr2 hr1 hb1 hb3 hd1 c3 b0 b1 b2 b3 b4 b5 b6 f0; obtain ⟨b0, b1, b2, b3, b4, b5, b6⟩ := row7 hr3; obtain ⟨c0, c1, c2, c3, c4, c5, c6, c7, c8, c9, c10, c11, c12, c13, c14⟩ := hd3.c; simp only at c0 c1 c2 c3 c4 c5 c6 c7 c8 c9 c10 c11 c12 c13 c14; have fz := hd3.frozen))
  go_region
  go_wp2
  go_ret
  refine ⟨rfl, ?_, grown_drew (grown_set (grown_set (grown_set hgr _ _) _ _) _ _)⟩
  have hfin := (((Row.setCell hd3 2 (.string ((⟨#[0]⟩ : ByteArray) ++ pa ++ pb))).setCell 12 (.bool true)).setCell 11 (.bool false)).drew
  rw [HTB.out] at hfin ⊢
  exact hfin

set_option maxRecDepth 100000 in
set_option maxHeartbeats 1000000 in
theorem ref_writeD0 (w : World) (g : Nat) (d : Dv) (k : Kep) (h : DvAt w g d) (hk : k.fair) (hn0 : 0 ≤ d.k.num) (hn1 : d.k.num < 4294967296) (hwh : d.wh = 0) (hcut : d.cut = 0) :
    Calls Tryz.prog 84 #[.pointer (some ⟨g, 0, none⟩), .agg k.cells.toArray] w fun r w' => r = .returned (.bool false) ∧ DvAt w' g (d.torn k) ∧ w.grownBy w' (some g) := by
  obtain ⟨kn, kt, kp, k0, k1, k2, k3⟩ := k
  obtain ⟨sm, h0, h1, ⟨dn, dt, dp, d0, d1, d2, d3⟩, wh, unl, off, cut, inn⟩ := d
  simp only at hn0 hn1 hwh hcut
  subst hwh hcut
  obtain ⟨-, -, kt0, kt1, kps, ks0, ks1, ks2, ks3⟩ := hk
  simp only at kt0 kt1 kps ks0 ks1 ks2 ks3
  have hkf : Kep.fair ⟨dn + 1, kt, kp, k0, k1, k2, k3⟩ := ⟨by simp only; omega, by simp only; omega, kt0, kt1, kps, ks0, ks1, ks2, ks3⟩
  simp only [Kep.cells]
  have hgl : g < w.heap.size := h.lt
  have hne : ¬ g = w.heap.size := by omega
  have hne' : ¬ w.heap.size = g := by omega
  obtain ⟨im, HIM⟩ : ∃ im, Hid (im = str (Kep.img ⟨dn + 1, kt, kp, k0, k1, k2, k3⟩)) := ⟨_, rfl⟩
  obtain ⟨fs, hu'⟩ := underKept
  have hu : Hid _ := hu'
  clear hu'
  go_enter Tryz.func84, Tryz.ntmps84
  go_wp2_with (first | (refine wpList_boxM rfl 34 _ rfl [.int .i64 kn, .int .i64 kt, .string kp, .string k0, .string k1, .string k2, .string k3] rfl ?_; intro w1 hr1 hb1; have hd1 : DvAt w1 g _ := h.below hb1 hgl; have c3 := hd1.c.2.2.2.1; simp only at c3; have hr2 : Row (w1.setCell ⟨w.heap.size, 0, none⟩ (.int .i64 (dn + 1))) w.heap.size [.int .i64 (dn + 1), .int .i64 kt, .string kp, .string k0, .string k1, .string k2, .string k3] 34 := hr1.setCell 0 (.int .i64 (dn + 1)); have f0 := hr1.frozen 0; obtain ⟨b0, b1, b2, b3, b4, b5, b6⟩ := row7 hr1; go_simp) | (go_at_call 24; refine (ref_Image ⟨dn + 1, kt, kp, k0, k1, k2, k3⟩ _ hkf).mono ?_; rintro _ w3 ⟨rfl, hb3⟩; rw [← HIM.out]; have hd3 : DvAt w3 g _ := (Row.setCell_other hd1 ⟨w.heap.size, 0, none⟩ _ hne).below hb3 (by have := hd1.lt; simpa using this); have hr3 := hr2.below hb3 hr2.lt; have hgr : w.grownBy w3 (some g) := grown_below (grown_new (grown_of_below _ hb1) w.heap.size 0 _ (Nat.le_refl _)) hb3; clear hr2 hr1 hb1 hb3 hd1 c3 b0 b1 b2 b3 b4 b5 b6 f0; obtain ⟨b0, b1, b2, b3, b4, b5, b6⟩ := row7 hr3; obtain ⟨c0, c1, c2, c3, c4, c5, c6, c7, c8, c9, c10, c11, c12, c13, c14⟩ := hd3.c; simp only at c0 c1 c2 c3 c4 c5 c6 c7 c8 c9 c10 c11 c12 c13 c14; have fz := hd3.frozen))
  go_ret
  refine ⟨rfl, ?_, grown_set (grown_set hgr _ _) _ _⟩
  exact (Row.setCell hd3 12 (.bool true)).setCell 11 (.bool false)

set_option maxRecDepth 100000 in
set_option maxHeartbeats 1000000 in
theorem ref_writeB1 (w : World) (g : Nat) (d : Dv) (k : Kep) (h : DvAt w g d) (hk : k.fair) (hn0 : 0 ≤ d.k.num) (hn1 : d.k.num < 4294967296) (hwh : d.wh = 1) (hcut : 101 ≤ d.cut) (hcut1 : d.cut ≤ 9223372036854775807) :
    Calls Tryz.prog 84 #[.pointer (some ⟨g, 0, none⟩), .agg k.cells.toArray] w fun r w' => r = .returned (.bool true) ∧ DvAt w' g (d.wrote k) ∧ w.grownBy w' (some g) := by
  obtain ⟨kn, kt, kp, k0, k1, k2, k3⟩ := k
  obtain ⟨sm, h0, h1, ⟨dn, dt, dp, d0, d1, d2, d3⟩, wh, unl, off, cut, inn⟩ := d
  simp only at hn0 hn1 hwh hcut hcut1
  subst hwh
  obtain ⟨-, -, kt0, kt1, kps, ks0, ks1, ks2, ks3⟩ := hk
  simp only at kt0 kt1 kps ks0 ks1 ks2 ks3
  have hkf : Kep.fair ⟨dn + 1, kt, kp, k0, k1, k2, k3⟩ := ⟨by simp only; omega, by simp only; omega, kt0, kt1, kps, ks0, ks1, ks2, ks3⟩
  simp only [Kep.cells]
  have hgl : g < w.heap.size := h.lt
  have hne : ¬ g = w.heap.size := by omega
  have hne' : ¬ w.heap.size = g := by omega
  obtain ⟨im, HIM⟩ : ∃ im, Hid (im = str (Kep.img ⟨dn + 1, kt, kp, k0, k1, k2, k3⟩)) := ⟨_, rfl⟩
  obtain ⟨fs, hu'⟩ := underKept
  have hu : Hid _ := hu'
  clear hu'
  have hcut' : (0 : Int) ≤ cut := by omega
  have hcut2 : ¬ cut < 101 := by omega
  go_enter Tryz.func84, Tryz.ntmps84
  go_wp2_with (first | (refine wpList_boxM rfl 34 _ rfl [.int .i64 kn, .int .i64 kt, .string kp, .string k0, .string k1, .string k2, .string k3] rfl ?_; intro w1 hr1 hb1; have hd1 : DvAt w1 g _ := h.below hb1 hgl; have c3 := hd1.c.2.2.2.1; simp only at c3; have hr2 : Row (w1.setCell ⟨w.heap.size, 0, none⟩ (.int .i64 (dn + 1))) w.heap.size [.int .i64 (dn + 1), .int .i64 kt, .string kp, .string k0, .string k1, .string k2, .string k3] 34 := hr1.setCell 0 (.int .i64 (dn + 1)); have f0 := hr1.frozen 0; obtain ⟨b0, b1, b2, b3, b4, b5, b6⟩ := row7 hr1; go_simp) | (go_at_call 24; refine (ref_Image ⟨dn + 1, kt, kp, k0, k1, k2, k3⟩ _ hkf).mono ?_; rintro _ w3 ⟨rfl, hb3⟩; rw [← HIM.out]; have hd3 : DvAt w3 g _ := (Row.setCell_other hd1 ⟨w.heap.size, 0, none⟩ _ hne).below hb3 (by have := hd1.lt; simpa using this); have hr3 := hr2.below hb3 hr2.lt; have hgr : w.grownBy w3 (some g) := grown_below (grown_new (grown_of_below _ hb1) w.heap.size 0 _ (Nat.le_refl _)) hb3; clear hr2 hr1 hb1 hb3 hd1 c3 b0 b1 b2 b3 b4 b5 b6 f0; obtain ⟨b0, b1, b2, b3, b4, b5, b6⟩ := row7 hr3; obtain ⟨c0, c1, c2, c3, c4, c5, c6, c7, c8, c9, c10, c11, c12, c13, c14⟩ := hd3.c; simp only at c0 c1 c2 c3 c4 c5 c6 c7 c8 c9 c10 c11 c12 c13 c14; have fz := hd3.frozen))
  go_ret
  refine ⟨rfl, ?_, grown_set (grown_set (grown_set (grown_set (grown_set (grown_set (grown_set (grown_set (grown_set (grown_set hgr _ _) _ _) _ _) _ _) _ _) _ _) _ _) _ _) _ _) _ _⟩
  have hfin := (((((((((Row.setCell hd3 1 (.string im)).setCell 13 (.int .i64 (cut - 101))).setCell 3 (.int .i64 (dn + 1))).setCell 4 (.int .i64 kt)).setCell 5 (.string kp)).setCell 6 (.string k0)).setCell 7 (.string k1)).setCell 8 (.string k2)).setCell 9 (.string k3)).setCell 10 (.int .i64 0)
  have e : Dv.wrote ⟨sm, h0, h1, ⟨dn, dt, dp, d0, d1, d2, d3⟩, 1, unl, off, cut, inn⟩ ⟨kn, kt, kp, k0, k1, k2, k3⟩ = ⟨sm, im, h1, ⟨dn + 1, kt, kp, k0, k1, k2, k3⟩, 0, unl, off, cut - 101, inn⟩ := by
    have hnc : ¬ cut < 0 := by omega
    simp [Dv.wrote, Kep.next, HIM.out, hnc]
  rw [e]
  exact hfin

set_option maxRecDepth 100000 in
set_option maxHeartbeats 1000000 in
theorem ref_writeC1 (w : World) (g : Nat) (d : Dv) (k : Kep) (h : DvAt w g d) (hk : k.fair) (hn0 : 0 ≤ d.k.num) (hn1 : d.k.num < 4294967296) (hwh : d.wh = 1) (n : Nat) (hcut : d.cut = n) (hc1 : 1 ≤ n) (hc2 : n ≤ 100) (hsz : d.h0.size = 100) (hg : (k.next (d.k.num + 1)).good) :
    Calls Tryz.prog 84 #[.pointer (some ⟨g, 0, none⟩), .agg k.cells.toArray] w fun r w' => r = .returned (.bool false) ∧ DvAt w' g (d.torn k) ∧ w.grownBy w' (some g) := by
  obtain ⟨kn, kt, kp, k0, k1, k2, k3⟩ := k
  obtain ⟨sm, h0, h1, ⟨dn, dt, dp, d0, d1, d2, d3⟩, wh, unl, off, cut, inn⟩ := d
  simp only at hn0 hn1 hwh hcut hsz
  subst hwh hcut
  obtain ⟨-, -, kt0, kt1, kps, ks0, ks1, ks2, ks3⟩ := hk
  simp only at kt0 kt1 kps ks0 ks1 ks2 ks3
  have hkf : Kep.fair ⟨dn + 1, kt, kp, k0, k1, k2, k3⟩ := ⟨by simp only; omega, by simp only; omega, kt0, kt1, kps, ks0, ks1, ks2, ks3⟩
  simp only [Kep.cells]
  have hgl : g < w.heap.size := h.lt
  have hne : ¬ g = w.heap.size := by omega
  have hne' : ¬ w.heap.size = g := by omega
  obtain ⟨im, HIM⟩ : ∃ im, Hid (im = str (Kep.img ⟨dn + 1, kt, kp, k0, k1, k2, k3⟩)) := ⟨_, rfl⟩
  obtain ⟨fs, hu'⟩ := underKept
  have hu : Hid _ := hu'
  clear hu'
  have hims : im.size = 100 := by rw [HIM.out, str_size]; exact Kep.img_length hg
  obtain ⟨pa, HPA⟩ : ∃ pa, Hid (pa = im.extract 1 n) := ⟨_, rfl⟩
  obtain ⟨pb, HPB⟩ : ∃ pb, Hid (pb = h0.extract n 100) := ⟨_, rfl⟩
  have hpa : im.extract 1 n = pa := HPA.out.symm
  have hpb : h0.extract n 100 = pb := HPB.out.symm
  have hza : pa.size ≤ 100 := by rw [HPA.out, ByteArray.size_extract]; omega
  have hzb : pb.size ≤ 100 := by rw [HPB.out, ByteArray.size_extract]; omega
  have hz1 : 1 + pa.size ≤ 9223372036854775807 := by omega
  have hz2 : 1 + pa.size + pb.size ≤ 9223372036854775807 := by omega
  have HTB : Hid ((⟨#[0]⟩ : ByteArray) ++ pa ++ pb = tornB n (Kep.img ⟨dn + 1, kt, kp, k0, k1, k2, k3⟩) h0) := by show _ = _; rw [HPA.out, HPB.out, ← hsz]; exact torn_str n hc1 im h0 _ HIM.out
  have hcut' : (0 : Int) ≤ n := by omega
  have hcut2 : (n : Int) < 101 := by omega
  have hcut3 : ¬ (100 : Int) < n := by omega
  have hcut4 : (0 : Int) < n := by omega
  have hcut5 : (1 : Int) ≤ n := by omega
  have hcut6 : (n : Int) ≤ im.size := by omega
  have hcut7 : (n : Int) ≤ h0.size := by omega
  have hcut8 : (n : Int) ≤ 100 := by omega
  go_enter Tryz.func84, Tryz.ntmps84
  go_wp2_with (first | (refine wpList_boxM rfl 34 _ rfl [.int .i64 kn, .int .i64 kt, .string kp, .string k0, .string k1, .string k2, .string k3] rfl ?_; intro w1 hr1 hb1; have hd1 : DvAt w1 g _ := h.below hb1 hgl; have c3 := hd1.c.2.2.2.1; simp only at c3; have hr2 : Row (w1.setCell ⟨w.heap.size, 0, none⟩ (.int .i64 (dn + 1))) w.heap.size [.int .i64 (dn + 1), .int .i64 kt, .string kp, .string k0, .string k1, .string k2, .string k3] 34 := hr1.setCell 0 (.int .i64 (dn + 1)); have f0 := hr1.frozen 0; obtain ⟨b0, b1, b2, b3, b4, b5, b6⟩ := row7 hr1; go_simp) | (go_at_call 24; refine (ref_Image ⟨dn + 1, kt, kp, k0, k1, k2, k3⟩ _ hkf).mono ?_; rintro _ w3 ⟨rfl, hb3⟩; rw [← HIM.out]; have hd3 : DvAt w3 g _ := (Row.setCell_other hd1 ⟨w.heap.size, 0, none⟩ _ hne).below hb3 (by have := hd1.lt; simpa using this); have hr3 := hr2.below hb3 hr2.lt; have hgr : w.grownBy w3 (some g) := grown_below (grown_new (grown_of_below _ hb1) w.heap.size 0 _ (Nat.le_refl _)) hb3; clear hr2 hr1 hb1 hb3 hd1 c3 b0 b1 b2 b3 b4 b5 b6 f0; obtain ⟨b0, b1, b2, b3, b4, b5, b6⟩ := row7 hr3; obtain ⟨c0, c1, c2, c3, c4, c5, c6, c7, c8, c9, c10, c11, c12, c13, c14⟩ := hd3.c; simp only at c0 c1 c2 c3 c4 c5 c6 c7 c8 c9 c10 c11 c12 c13 c14; have fz := hd3.frozen))
  go_region
  go_wp2
  go_ret
  refine ⟨rfl, ?_, grown_drew (grown_set (grown_set (grown_set hgr _ _) _ _) _ _)⟩
  have hfin := (((Row.setCell hd3 1 (.string ((⟨#[0]⟩ : ByteArray) ++ pa ++ pb))).setCell 12 (.bool true)).setCell 11 (.bool false)).drew
  rw [HTB.out] at hfin ⊢
  exact hfin

set_option maxRecDepth 100000 in
set_option maxHeartbeats 1000000 in
theorem ref_writeD1 (w : World) (g : Nat) (d : Dv) (k : Kep) (h : DvAt w g d) (hk : k.fair) (hn0 : 0 ≤ d.k.num) (hn1 : d.k.num < 4294967296) (hwh : d.wh = 1) (hcut : d.cut = 0) :
    Calls Tryz.prog 84 #[.pointer (some ⟨g, 0, none⟩), .agg k.cells.toArray] w fun r w' => r = .returned (.bool false) ∧ DvAt w' g (d.torn k) ∧ w.grownBy w' (some g) := by
  obtain ⟨kn, kt, kp, k0, k1, k2, k3⟩ := k
  obtain ⟨sm, h0, h1, ⟨dn, dt, dp, d0, d1, d2, d3⟩, wh, unl, off, cut, inn⟩ := d
  simp only at hn0 hn1 hwh hcut
  subst hwh hcut
  obtain ⟨-, -, kt0, kt1, kps, ks0, ks1, ks2, ks3⟩ := hk
  simp only at kt0 kt1 kps ks0 ks1 ks2 ks3
  have hkf : Kep.fair ⟨dn + 1, kt, kp, k0, k1, k2, k3⟩ := ⟨by simp only; omega, by simp only; omega, kt0, kt1, kps, ks0, ks1, ks2, ks3⟩
  simp only [Kep.cells]
  have hgl : g < w.heap.size := h.lt
  have hne : ¬ g = w.heap.size := by omega
  have hne' : ¬ w.heap.size = g := by omega
  obtain ⟨im, HIM⟩ : ∃ im, Hid (im = str (Kep.img ⟨dn + 1, kt, kp, k0, k1, k2, k3⟩)) := ⟨_, rfl⟩
  obtain ⟨fs, hu'⟩ := underKept
  have hu : Hid _ := hu'
  clear hu'
  go_enter Tryz.func84, Tryz.ntmps84
  go_wp2_with (first | (refine wpList_boxM rfl 34 _ rfl [.int .i64 kn, .int .i64 kt, .string kp, .string k0, .string k1, .string k2, .string k3] rfl ?_; intro w1 hr1 hb1; have hd1 : DvAt w1 g _ := h.below hb1 hgl; have c3 := hd1.c.2.2.2.1; simp only at c3; have hr2 : Row (w1.setCell ⟨w.heap.size, 0, none⟩ (.int .i64 (dn + 1))) w.heap.size [.int .i64 (dn + 1), .int .i64 kt, .string kp, .string k0, .string k1, .string k2, .string k3] 34 := hr1.setCell 0 (.int .i64 (dn + 1)); have f0 := hr1.frozen 0; obtain ⟨b0, b1, b2, b3, b4, b5, b6⟩ := row7 hr1; go_simp) | (go_at_call 24; refine (ref_Image ⟨dn + 1, kt, kp, k0, k1, k2, k3⟩ _ hkf).mono ?_; rintro _ w3 ⟨rfl, hb3⟩; rw [← HIM.out]; have hd3 : DvAt w3 g _ := (Row.setCell_other hd1 ⟨w.heap.size, 0, none⟩ _ hne).below hb3 (by have := hd1.lt; simpa using this); have hr3 := hr2.below hb3 hr2.lt; have hgr : w.grownBy w3 (some g) := grown_below (grown_new (grown_of_below _ hb1) w.heap.size 0 _ (Nat.le_refl _)) hb3; clear hr2 hr1 hb1 hb3 hd1 c3 b0 b1 b2 b3 b4 b5 b6 f0; obtain ⟨b0, b1, b2, b3, b4, b5, b6⟩ := row7 hr3; obtain ⟨c0, c1, c2, c3, c4, c5, c6, c7, c8, c9, c10, c11, c12, c13, c14⟩ := hd3.c; simp only at c0 c1 c2 c3 c4 c5 c6 c7 c8 c9 c10 c11 c12 c13 c14; have fz := hd3.frozen))
  go_ret
  refine ⟨rfl, ?_, grown_set (grown_set hgr _ _) _ _⟩
  exact (Row.setCell hd3 12 (.bool true)).setCell 11 (.bool false)

/-- a write, wherever the power goes -/
theorem ref_put (w : World) (g : Nat) (d : Dv) (k : Kep) (h : DvAt w g d) (hk : k.fair) (hn0 : 0 ≤ d.k.num) (hn1 : d.k.num < 4294967296) (hwh : d.wh = 0 ∨ d.wh = 1) (hc : d.cut ≤ 9223372036854775807) (hs0 : d.h0.size = 100) (hs1 : d.h1.size = 100) (hg : (k.next (d.k.num + 1)).good) :
    Calls Tryz.prog 84 #[.pointer (some ⟨g, 0, none⟩), .agg k.cells.toArray] w fun r w' => r = .returned (.bool d.puts) ∧ DvAt w' g (d.put k) ∧ w.grownBy w' (some g) := by
  by_cases h1 : 0 ≤ d.cut ∧ d.cut < 101
  · have e1 : d.puts = false := decide_eq_false (fun e => e h1)
    have e2 : d.put k = d.torn k := if_pos h1
    rw [e1, e2]
    by_cases h0 : d.cut = 0
    · rcases hwh with hwh | hwh
      · exact ref_writeD0 w g d k h hk hn0 hn1 hwh h0
      · exact ref_writeD1 w g d k h hk hn0 hn1 hwh h0
    · obtain ⟨n, hn⟩ : ∃ n : Nat, d.cut = n := ⟨d.cut.toNat, by omega⟩
      rcases hwh with hwh | hwh
      · exact ref_writeC0 w g d k h hk hn0 hn1 hwh n hn (by omega) (by omega) hs1 hg
      · exact ref_writeC1 w g d k h hk hn0 hn1 hwh n hn (by omega) (by omega) hs0 hg
  · have e1 : d.puts = true := decide_eq_true h1
    have e2 : d.put k = d.wrote k := if_neg h1
    rw [e1, e2]
    by_cases h0 : d.cut < 0
    · exact ref_write w g d k h hk hn0 hn1 hwh h0
    · rcases hwh with hwh | hwh
      · exact ref_writeB0 w g d k h hk hn0 hn1 hwh (by omega) hc
      · exact ref_writeB1 w g d k h hk hn0 hn1 hwh (by omega) hc
end Go.Proofs.YtaokemapkgggoaaGreatDoor
