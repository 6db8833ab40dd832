import Derived.Test.YtaokemapkgggoaaDoorGd08
import Derived.Deep.RegionHeld3
import Derived.Laws.Cover3
/-
  The device, as plain functions on lists of bytes: images, frames, answers, commands.
-/
namespace Go.Proofs.YtaokemapkgggoaaDoor
open Go.RowKit

/-- a text of some bytes -/
def str (l : List UInt8) : ByteArray := ⟨l.toArray⟩
theorem str_list (l : List UInt8) : (str l).data.toList = l := by simp [str]
theorem list_str (s : ByteArray) : str s.data.toList = s := by apply ByteArray.ext; simp [str]
theorem str_size (l : List UInt8) : (str l).size = l.length := by rw [size_list', str_list]
  where size_list' (s : ByteArray) : s.size = s.data.toList.length := by rw [Array.length_toList]; rfl
theorem str_append (a b : List UInt8) : str a ++ str b = str (a ++ b) := by
  apply ByteArray.ext; rw [ByteArray.data_append]; simp [str]
theorem strOfNums_str (xs : List Int) : strOfNums xs = str (toBytes xs) := rfl
theorem ret_bytes {a b : ByteArray} (h : a = b) : Ending.returned (.string a) = .returned (.string b) := by rw [h]

/-- a number as a byte -/
def b8 (x : Int) : UInt8 := UInt8.ofNat (x % 256).toNat
theorem b8_toNat (x : Int) : ((b8 x).toNat : Int) = x % 256 := by
  have h : (x % 256).toNat < 256 := by omega
  simp only [b8, UInt8.toNat_ofNat']
  rw [Nat.mod_eq_of_lt (by simpa using h)]
  omega
theorem b8_of (b : UInt8) : b8 (b.toNat : Int) = b := by
  apply UInt8.toNat_inj.1
  have h := b8_toNat (b.toNat : Int)
  have hb := b.toNat_lt
  omega
theorem b8_mod (x : Int) : b8 (x % 256) = b8 x := by unfold b8; rw [Int.emod_emod_of_dvd x (by decide)]
theorem toBytes_b8 {x : Int} (h : 0 ≤ x) (h1 : x < 256) : UInt8.ofNat x.toNat = b8 x := by
  unfold b8; rw [show x % 256 = x by omega]

/-- the sum of some bytes -/
def sumB : List UInt8 → Int
  | [] => 0
  | b :: l => b.toNat + sumB l
theorem sumB_append (a b : List UInt8) : sumB (a ++ b) = sumB a + sumB b := by
  induction a with
  | nil => simp [sumB]
  | cons x a ih => simp only [List.cons_append, sumB, ih]; omega
theorem sumB_nonneg (l : List UInt8) : 0 ≤ sumB l := by
  induction l with
  | nil => simp [sumB]
  | cons x a ih => simp only [sumB]; omega
theorem sumB_le (l : List UInt8) : sumB l ≤ 255 * l.length := by
  induction l with
  | nil => simp [sumB]
  | cons x a ih => simp only [sumB, List.length_cons]; have := x.toNat_lt; omega
theorem sumB_take_succ (l : List UInt8) (i : Nat) (h : i < l.length) : sumB (l.take (i + 1)) = sumB (l.take i) + (bytesI l).getD i 0 := by
  rw [List.take_succ_eq_append_getElem h, sumB_append]
  simp [sumB, bytesI, List.getD, h]

/-- a text with bytes 0 up to a length -/
def padTo (n : Nat) (l : List UInt8) : List UInt8 := l ++ List.replicate (n - l.length) 0
theorem padTo_length (n : Nat) (l : List UInt8) (h : l.length ≤ n) : (padTo n l).length = n := by simp [padTo]; omega

/-- an image: its number, tries, PIN, keys -/
structure Kep where
  num : Int
  tries : Int
  pin : ByteArray
  k0 : ByteArray
  k1 : ByteArray
  k2 : ByteArray
  k3 : ByteArray

def keyPart (k : List UInt8) : List UInt8 := b8 k.length :: padTo 20 k
/-- the bytes of an image between the mark and the sum, whatever stands in it -/
def Kep.head (k : Kep) : List UInt8 :=
  [b8 (k.num.tdiv 16777216), b8 ((k.num.tdiv 65536).tmod 256), b8 ((k.num.tdiv 256).tmod 256), b8 (k.num.tmod 256), b8 k.tries, b8 k.pin.size] ++ padTo 8 k.pin.data.toList
def Kep.body (k : Kep) : List UInt8 := k.head ++ keyPart k.k0.data.toList ++ keyPart k.k1.data.toList ++ keyPart k.k2.data.toList ++ keyPart k.k3.data.toList
def closed (t : List UInt8) : List UInt8 := 167 :: (t ++ [b8 (1 + sumB t)])
def Kep.img (k : Kep) : List UInt8 := closed k.body

/-- what an answer is -/
def told (st : Int) (p : List UInt8) : List UInt8 := [165, b8 p.length, b8 st] ++ p ++ [b8 (p.length + st + 1 + sumB p)]
end Go.Proofs.YtaokemapkgggoaaDoor

namespace Go.Proofs.YtaokemapkgggoaaDoor
open Go.RowKit

set_option maxRecDepth 100000 in
set_option maxHeartbeats 1000000 in
theorem prog_Sum (s : ByteArray) (w : World) (hG : Glob w) (hs : s.size < 1000000) :
    Calls Tryd.prog 13 #[.string s] w fun r w' => r = .returned (.agg (u8s (sumSpec K0 H0 0 s.data.toList)).toArray) ∧ Below w.heap.size w w' := by
  obtain ⟨ov, HO⟩ : ∃ ov, Hid (ov = sumSpec K0 H0 0 s.data.toList) := ⟨_, rfl⟩
  have hol : Hid ((u8s ov).length = 32) := by show _ = _; rw [u8s_length, HO.out]; exact sumSpec_length H0 W8_H0 _ _
  go_enter Tryd.func13, Tryd.ntmps13
  go_wp2_with (first | (refine wpList_allocR rfl 24 rfl 32 (.int .u8 0) arr32b ?_; go_simp) | (refine wpList_load_mid rfl 69 (.global 0) rfl 0 0 rfl (u32s H0) _ (hG.alloc _).range under8w rfl size8w ?_; go_simp) | (go_at_call 34; refine (prog_sum H0 _ _ _ (hG.alloc _) W8_H0 (by omega) (by omega)).mono ?_; rintro _ w1 ⟨rfl, hb1⟩; have a2 : Row w1 w.heap.size (zrow 32 (.int .u8 0)) 24 := (Row.made w _ _).below hb1 (by simp); have aw : Below w.heap.size w w1 := ((Below.refl _ _).alloc (Nat.le_refl _) _).trans (hb1.mono (by simp)); clear hb1; rw [← HO.out]) | (refine wpList_storeR rfl 24 _ _ rfl w.heap.size rfl (u8s ov) rfl 24 (zrow 32 (.int .u8 0)) 32 (.int .u8 0) a2 arr32b hol.out (zrow_length _ _) (u8s_one _) ?_; go_simp))
  refine bodyPost_ret (v := .agg (u8s ov).toArray) (results_row Tryd.results13 _ w.heap.size 24 (u8s ov) 32 (.int .u8 0) rfl (Row.setRow a2 _) arr32b hol.out) rfl ⟨by rw [HO.out], below_setRow aw (Nat.le_refl _) _⟩

theorem fieldOf_B (l : List UInt8) (n : Nat) (h : l.length < 256) : ∀ x ∈ fieldOf n l, isB x := by
  intro x hx
  rcases List.mem_cons.1 hx with rfl | hx
  · unfold isB; omega
  · exact blk_B _ _ x hx
theorem size_list (s : ByteArray) : s.size = s.data.toList.length := by rw [Array.length_toList]; rfl

theorem keep_callC {w W wx : World} {kb iv : List Int} {g h : Nat} (hb : Below W.heap.size W wx)
    (hh : W.rangeAt g 0 (u8s kb) ∧ W.rangeAt h 0 (u8s iv) ∧ Below w.heap.size w W ∧ g < W.heap.size ∧ h < W.heap.size) :
    wx.rangeAt g 0 (u8s kb) ∧ wx.rangeAt h 0 (u8s iv) ∧ Below w.heap.size w wx ∧ g < wx.heap.size ∧ h < wx.heap.size :=
  ⟨range_below hh.1 hb hh.2.2.2.1, range_below hh.2.1 hb hh.2.2.2.2, hh.2.2.1.trans (hb.mono hh.2.2.1.size), Nat.lt_of_lt_of_le hh.2.2.2.1 hb.size, Nat.lt_of_lt_of_le hh.2.2.2.2 hb.size⟩

set_option maxRecDepth 100000 in
set_option maxHeartbeats 1000000 in
theorem prog_Code_yes (s : ByteArray) (n : Int) (w : World) (hG : Glob w) (h1 : 1 ≤ s.size) (h2 : s.size ≤ 20) (hn : 0 ≤ n) (hn1 : n ≤ 9223372036854775807) :
    Calls Tryd.prog 14 #[.string s, .int .i64 n] w fun r w' => r = .returned (.tuple #[.string (strOfNums (codeSpec (blk 20 s.data.toList) n)), .int .i64 0]) ∧ Below w.heap.size w w' := by
  obtain ⟨kf, HK⟩ : ∃ kf, Hid (kf = fieldOf 21 s.data.toList) := ⟨_, rfl⟩
  have hkl : Hid ((u8s kf).length = 21) := by show _ = _; rw [u8s_length, HK.out, fieldOf_length _ _ (by omega)]
  have hkB : ∀ x ∈ kf, isB x := by rw [HK.out]; exact fieldOf_B _ _ (by rw [← size_list]; omega)
  have hk0 : Hid ((u8s kf)[0]? = some (.int .u8 (s.size : Int))) := by show _ = _; rw [HK.out, size_list]; rfl
  have hkt : Hid (kf.tail = blk 20 s.data.toList) := by show _ = _; rw [HK.out]; rfl
  have hn0 : ¬ (s.size : Int) = 0 := by omega
  obtain ⟨kn, hkn⟩ : ∃ x : Int, Hid (x = (s.size : Int)) := ⟨_, rfl⟩
  rw [← hkn.out] at hn0 hk0
  have hneg : ¬ n < 0 := by omega
  obtain ⟨e8, HE⟩ : ∃ e8, Hid (e8 = eightTo n 8) := ⟨_, rfl⟩
  have he8 : Hid ((u8s e8).length = 8) := by show _ = _; rw [HE.out, u8s_length, eightTo_length]
  go_enter Tryd.func14, Tryd.ntmps14
  go_wp2_with (first | (go_at_call 31; refine (prog_keyOf_yes _ _ h2).mono ?_; rintro _ w1 ⟨rfl, hb1⟩; rw [← HK.out]) | (refine wpList_allocR rfl 63 rfl 21 (.int .u8 0) arr21b ?_; go_simp) | (refine wpList_storeMA rfl 63 _ _ rfl _ rfl rfl (u8s kf) rfl 63 _ 21 (.int .u8 0) arr21b hkl.out (zrow_length _ _) (u8s_one _) ?_; intro w3 hr5 hb3; have cw := hb1.trans (hb3.mono hb1.size); clear hb1 hb3; go_simp) | (go_at_call 32; refine (prog_none_no w3 _ 0 _ hn0 (by rw [hr5.cell]; exact hk0.out)).mono ?_; rintro _ _ ⟨rfl, rfl⟩) | (go_at_call 35; refine (prog_eight _ _ (by omega) (by omega)).mono ?_; rintro _ w4 ⟨rfl, hb4⟩; have d5 := hr5.below hb4 hr5.lt; have dw := cw.trans (hb4.mono cw.size); clear hb4; rw [← HE.out]) | (refine wpList_allocR rfl 71 rfl 8 (.int .u8 0) arr8b ?_; go_simp) | (refine wpList_storeMA rfl 71 _ _ rfl _ rfl rfl (u8s e8) rfl 71 _ 8 (.int .u8 0) arr8b he8.out (zrow_length _ _) (u8s_one _) ?_; intro w6 hr6 hb6; have e5 := d5.below hb6 d5.lt; have ew := dw.trans (hb6.mono dw.size); clear hb6; go_simp))
  have hS0 : w6.drew.rangeAt w1.heap.size 0 (u8s kf) ∧ w6.drew.rangeAt w4.heap.size 0 (u8s e8) ∧ Below w.heap.size w w6.drew ∧ w1.heap.size < w6.drew.heap.size ∧ w4.heap.size < w6.drew.heap.size := ⟨e5.range, hr6.range, ew.drew, e5.lt, hr6.lt⟩
  have hi79 : (Tryd.prog.info? 63).map (·.size) = some (u8s kf).length := by rw [hkl.out]; exact arr21b.size
  have hu79 := under21b
  have hlk : (u8s kf).length = 21 := hkl.out
  have hok := u8s_one kf
  have hconv : ∀ w', w'.rangeAt w4.heap.size 0 (u8s e8) → (convert 28 9 (.slice (some ⟨w4.heap.size, 0, none⟩) 8 8)).run Tryd.prog w' = .ok (.string (strOfNums e8)) w' := fun w' h => run_convR w' _ e8 8 8 (by rw [← u8s_length]; exact he8.out) h
  have hsz : (strOfNums e8).size = 8 := by rw [strOfNums_size, ← u8s_length]; exact he8.out
  clear hr6 e5 ew d5 dw hr5 cw
  go_region_held3 (fun w' => w'.rangeAt w1.heap.size 0 (u8s kf) ∧ w'.rangeAt w4.heap.size 0 (u8s e8) ∧ Below w.heap.size w w' ∧ w1.heap.size < w'.heap.size ∧ w4.heap.size < w'.heap.size) (first | exact hS0 | exact keep_callC hbx (by assumption)) (first | (go_at_call 36; refine (prog_codeBy kf _ _ ?_ (by rw [← u8s_length]; exact hkl.out) hkB (by omega)).mono ?_; (go_split_ands; exact hG.below (by assumption) (Nat.le_refl _)); rintro _ wx ⟨rfl, hbx⟩; rw [toBytes_str]))
  go_wp2
  go_ret2
  refine ⟨?_, (keep_callC hbx hS0).2.2.1⟩
  rw [hkt.out, HE.out]; rfl
end Go.Proofs.YtaokemapkgggoaaDoor

namespace Go.Proofs.YtaokemapkgggoaaDoor
open Go.RowKit

end Go.Proofs.YtaokemapkgggoaaDoor

namespace Go.Proofs.YtaokemapkgggoaaDoor
open Go.RowKit

def strLen : Value → Nat
  | .string s => s.size
  | _ => 0
/-- a text of bytes that were just laid side by side -/
theorem conv1 (W : World) (a : Int) (g : Nat) (hg : g = W.heap.size) : (convert 28 9 (.slice (some ⟨g, 0, none⟩) 1 1)).run Tryd.prog (W.alloc (.cells #[.int .u8 a] 5)) = .ok (.string (strOfNums [a])) (W.alloc (.cells #[.int .u8 a] 5)) := by
  subst hg
  exact run_convR _ W.heap.size [a] 1 1 rfl (Row.made W (u8s [a]) 5).range
theorem conv1d (W : World) (a : Int) (g : Nat) (hg : g = W.heap.size) : (convert 28 9 (.slice (some ⟨g, 0, none⟩) 1 1)).run Tryd.prog (W.alloc (.cells #[.int .u8 a] 5)).drew = .ok (.string (strOfNums [a])) (W.alloc (.cells #[.int .u8 a] 5)).drew := by
  subst hg
  exact run_convR _ W.heap.size [a] 1 1 rfl (Row.made W (u8s [a]) 5).range
theorem conv2 (W : World) (a b : Int) (g : Nat) (hg : g = W.heap.size) : (convert 28 9 (.slice (some ⟨g, 0, none⟩) 2 2)).run Tryd.prog (W.alloc (.cells #[.int .u8 a, .int .u8 b] 5)) = .ok (.string (strOfNums [a, b])) (W.alloc (.cells #[.int .u8 a, .int .u8 b] 5)) := by
  subst hg
  exact run_convR _ W.heap.size [a, b] 2 2 rfl (Row.made W (u8s [a, b]) 5).range
theorem conv3d (W : World) (a b c : Int) (g : Nat) (hg : g = W.heap.size) : (convert 28 9 (.slice (some ⟨g, 0, none⟩) 3 3)).run Tryd.prog (W.alloc (.cells #[.int .u8 a, .int .u8 b, .int .u8 c] 5)).drew = .ok (.string (strOfNums [a, b, c])) (W.alloc (.cells #[.int .u8 a, .int .u8 b, .int .u8 c] 5)).drew := by
  subst hg
  exact run_convR _ W.heap.size [a, b, c] 3 3 rfl (Row.made W (u8s [a, b, c]) 5).range
theorem size1 (a : Int) : (strOfNums [a]).size = 1 := by rw [strOfNums_size]; rfl

theorem no_panic {c : List PanicEntry} {A : Prop} (h : Exit.panic c = .normal) : A := by cases h
theorem u8_wrap (x : Int) : IntKind.u8.wrap x = x % 256 := by simp [IntKind.wrap, IntKind.bits, IntKind.signed]

/-- an image's cells -/
def Kep.cells (k : Kep) : List Value := [.int .i64 k.num, .int .i64 k.tries, .string k.pin, .string k.k0, .string k.k1, .string k.k2, .string k.k3]
/-- of texts that are not too long -/
structure Kep.fair (k : Kep) : Prop where
  n0 : -9223372036854775808 ≤ k.num
  n1 : k.num ≤ 9223372036854775807
  t0 : -9223372036854775808 ≤ k.tries
  t1 : k.tries ≤ 9223372036854775807
  pin : k.pin.size < 10000000
  k0 : k.k0.size < 10000000
  k1 : k.k1.size < 10000000
  k2 : k.k2.size < 10000000
  k3 : k.k3.size < 10000000
structure KepAt (w : World) (g o : Nat) (k : Kep) : Prop where
  num : w.cell? ⟨g, o, none⟩ = some (.int .i64 k.num)
  tries : w.cell? ⟨g, o + 1, none⟩ = some (.int .i64 k.tries)
  pin : w.cell? ⟨g, o + 2, none⟩ = some (.string k.pin)
  k0 : w.cell? ⟨g, o + 3, none⟩ = some (.string k.k0)
  k1 : w.cell? ⟨g, o + 4, none⟩ = some (.string k.k1)
  k2 : w.cell? ⟨g, o + 5, none⟩ = some (.string k.k2)
  k3 : w.cell? ⟨g, o + 6, none⟩ = some (.string k.k3)
theorem KepAt.below {w w' : World} {g o B : Nat} {k : Kep} (h : KepAt w g o k) (hb : Below B w w') (hg : g < B) : KepAt w' g o k :=
  ⟨(hb.cell (by exact hg)).trans h.num, (hb.cell (by exact hg)).trans h.tries, (hb.cell (by exact hg)).trans h.pin, (hb.cell (by exact hg)).trans h.k0, (hb.cell (by exact hg)).trans h.k1, (hb.cell (by exact hg)).trans h.k2, (hb.cell (by exact hg)).trans h.k3⟩

end Go.Proofs.YtaokemapkgggoaaDoor

namespace Go.Proofs.YtaokemapkgggoaaDoor
open Go.RowKit

/-- which of n things the number c speaks of -/
def pickN (c : Int) (n : Nat) : Nat := ((if c < 0 then -(c + 1) else c) % n).toNat
theorem pickN_lt (c : Int) {n : Nat} (hn : 0 < n) : pickN c n < n := by
  unfold pickN
  generalize (if c < 0 then -(c + 1) else c) = z
  have := Int.emod_lt_of_pos z (show (0 : Int) < n by omega)
  have := Int.emod_nonneg z (show (n : Int) ≠ 0 by omega)
  omega

end Go.Proofs.YtaokemapkgggoaaDoor

namespace Go.Proofs.YtaokemapkgggoaaDoor
open Go.RowKit

/-- a byte of a list, as a number -/
def bAt (l : List UInt8) (i : Nat) : Int := (bytesI l).getD i 0
theorem bAt_B (l : List UInt8) (i : Nat) : 0 ≤ bAt l i ∧ bAt l i < 256 := getD_isB (bytesI_B l) i
theorem bcells_get (l : List UInt8) (i : Nat) (h : i < l.length) : (bcells l)[i]? = some (.int .u8 (bAt l i)) := by
  rw [bcells_eq, u8s_get _ _ (by simpa [bytesI] using h)]; rfl
theorem bcells_length (l : List UInt8) : (bcells l).length = l.length := by simp [bcells]
theorem range_byte {w : World} {g o : Nat} {l : List UInt8} (h : w.rangeAt g o (bcells l)) (i : Nat) (hi : i < l.length) : w.cell? ⟨g, o + i, none⟩ = some (.int .u8 (bAt l i)) := h i _ (bcells_get l i hi)
theorem range_sub {w : World} {g o : Nat} {l : List UInt8} (h : w.rangeAt g o (bcells l)) (a n : Nat) : w.rangeAt g (o + a) (bcells ((l.drop a).take n)) := by
  intro j v hv
  have hj : j < ((l.drop a).take n).length := by
    have := (List.getElem?_eq_some_iff.1 hv).1
    rwa [bcells_length] at this
  rw [Nat.add_assoc]
  refine h (a + j) v ?_
  rw [← hv]
  simp only [bcells, List.getElem?_map, List.getElem?_take, List.getElem?_drop]
  rw [List.length_take, List.length_drop] at hj
  rw [if_pos (by omega)]

set_option maxRecDepth 100000 in
set_option maxHeartbeats 400000 in
theorem prog_checkB (w : World) (g o n c : Nat) (l : List UInt8) (hR : w.rangeAt g o (bcells l)) (hl : l.length = n) (hn : n ≤ 100000) :
    Calls Tryd.prog 66 #[.slice (some ⟨g, o, none⟩) n c] w fun r w' => r = .returned (.int .u8 ((1 + sumB l) % 256)) ∧ w' = w := by
  have HL : Hid (l.length = n) := hl
  clear hl
  go_enter Tryd.func66, Tryd.ntmps66
  go_wp2
  go_loopw [3, 7] (fun sv c wr => ∃ i : Nat, i ≤ n ∧ c = .int .i64 i ∧ sv = .int .u8 ((1 + sumB (l.take i)) % 256) ∧ wr = w) (fun _ c _ => n - (intOf c).toNat)
  case atStart => exact ⟨0, by omega, rfl, by simp [sumB], rfl⟩
  case round =>
    obtain ⟨i, hi, rfl, rfl, rfl⟩ := hrel
    by_cases hlt : i < n
    · have hc := range_byte hR i (by rw [HL.out]; exact hlt)
      have HS : Hid (sumB (l.take (i + 1)) = sumB (l.take i) + bAt l i) := sumB_take_succ l i (by rw [HL.out]; exact hlt)
      obtain ⟨hb0, hb1⟩ := bAt_B l i
      generalize bAt l i = x at *
      generalize sumB (l.take i) = sm at *
      have hlt' : (i : Int) < n := by omega
      go_wp2
      refine ⟨⟨i + 1, by omega, by go_num, ?_, trivial⟩, by simp [intOf]; omega⟩
      rw [HS.out]
      congr 1
      omega
    · have e : l.take i = l := List.take_of_length_le (by rw [HL.out]; omega)
      rw [e]
      have hlt' : ¬ (i : Int) < n := by omega
      go_wp2
      go_ret
      exact ⟨rfl, rfl⟩

set_option maxRecDepth 100000 in
set_option maxHeartbeats 400000 in
theorem prog_checkS (w : World) (s : ByteArray) (hn : s.size ≤ 100000000) :
    Calls Tryd.prog 64 #[.string s] w fun r w' => r = .returned (.int .u8 ((1 + sumB s.data.toList) % 256)) ∧ w' = w := by
  have HL : Hid (s.data.toList.length = s.size) := by show _ = _; rw [Array.length_toList]; rfl
  go_enter Tryd.func64, Tryd.ntmps64
  go_wp2
  go_loopw [3, 7] (fun sv c wr => ∃ i : Nat, i ≤ s.size ∧ c = .int .i64 i ∧ sv = .int .u8 ((1 + sumB (s.data.toList.take i)) % 256) ∧ wr = w) (fun _ c _ => s.size - (intOf c).toNat)
  case atStart => exact ⟨0, by omega, rfl, by simp [sumB], rfl⟩
  case round =>
    obtain ⟨i, hi, rfl, rfl, rfl⟩ := hrel
    by_cases hlt : i < s.size
    · have hc := byte_at hlt
      have HS : Hid (sumB (s.data.toList.take (i + 1)) = sumB (s.data.toList.take i) + bAt s.data.toList i) := sumB_take_succ s.data.toList i (by rw [HL.out]; exact hlt)
      obtain ⟨hb0, hb1⟩ := bAt_B s.data.toList i
      change _ = bAt s.data.toList i at hc
      generalize bAt s.data.toList i = x at *
      generalize sumB (s.data.toList.take i) = sm at *
      have hlt' : (i : Int) < s.size := by omega
      go_wp2
      refine ⟨⟨i + 1, by omega, by go_num, ?_, trivial⟩, by simp [intOf]; omega⟩
      rw [HS.out]
      congr 1
      omega
    · have e : s.data.toList.take i = s.data.toList := List.take_of_length_le (by rw [HL.out]; omega)
      rw [e]
      have hlt' : ¬ (i : Int) < s.size := by omega
      go_wp2
      go_ret
      exact ⟨rfl, rfl⟩

/-- an image in memory: 100 bytes from place o on -/
structure ImgAt (w : World) (g o : Nat) (l : List UInt8) : Prop where
  len : l.length = 100
  at_ : w.rangeAt g o (bcells l)
theorem ImgAt.b {w : World} {g o : Nat} {l : List UInt8} (h : ImgAt w g o l) (i : Nat) (hi : i < 100) : w.cell? ⟨g, o + i, none⟩ = some (.int .u8 (bAt l i)) := range_byte h.at_ i (by rw [h.len]; exact hi)
def numOf (l : List UInt8) : Int := word4 (bAt l 1) (bAt l 2) (bAt l 3) (bAt l 4)
theorem numOf_w (l : List UInt8) : isW (numOf l) := word4_w (bAt_B l 1) (bAt_B l 2) (bAt_B l 3) (bAt_B l 4)

set_option maxRecDepth 100000 in
set_option maxHeartbeats 400000 in
theorem prog_number (w : World) (g o : Nat) (l : List UInt8) (h : ImgAt w g o l) :
    Calls Tryd.prog 58 #[.pointer (some ⟨g, o, none⟩)] w fun r w' => r = .returned (.int .u32 (numOf l)) ∧ ∃ n, w' = w.drewN n := by
  have c1 := h.b 1 (by omega)
  have c2 := h.b 2 (by omega)
  have c3 := h.b 3 (by omega)
  have c4 := h.b 4 (by omega)
  have p1 := bAt_B l 1
  have p2 := bAt_B l 2
  have p3 := bAt_B l 3
  have p4 := bAt_B l 4
  have HN : Hid (numOf l = word4 (bAt l 1) (bAt l 2) (bAt l 3) (bAt l 4)) := rfl
  clear h
  generalize bAt l 1 = x1 at *
  generalize bAt l 2 = x2 at *
  generalize bAt l 3 = x3 at *
  generalize bAt l 4 = x4 at *
  generalize numOf l = nn at *
  go_enter Tryd.func58, Tryd.ntmps58
  go_wp2
  go_quiet ((go_at_call 49; exact Calls.quiet_of_same (prog_word _ _ _ _ _ p1 p2 p3 p4)))
  go_wp2
  go_ret
  exact ⟨ret_int HN.out.symm, _, rfl⟩

theorem under_img : Tryd.prog.underlying 75 = some (.array 100 5) := by kernel_rfl
theorem under_pin : Tryd.prog.underlying 87 = some (.array 9 5) := by kernel_rfl
theorem under_flash : Tryd.prog.underlying 77 = some (.array 2 75) := by kernel_rfl

/-- the check of an image -/
def chkOf (l : List UInt8) : Int := (1 + sumB ((l.drop 1).take 98)) % 256

set_option maxRecDepth 100000 in
set_option maxHeartbeats 400000 in
theorem prog_check (w : World) (g o : Nat) (l : List UInt8) (h : ImgAt w g o l) :
    Calls Tryd.prog 71 #[.pointer (some ⟨g, o, none⟩)] w fun r w' => r = .returned (.int .u8 (chkOf l)) ∧ w' = w := by
  have hsl := fun wx => run_sliceArr2 (P := Tryd.prog) wx 75 5 100 under_img size_byte g o 1 99 (by omega) (by omega) (by omega) 1 99 rfl rfl
  have hr := range_sub h.at_ 1 98
  have hlen : Hid (((l.drop 1).take 98).length = 98) := by show _ = _; rw [List.length_take, List.length_drop, h.len]; rfl
  clear h
  go_enter Tryd.func71, Tryd.ntmps71
  go_wp2_with (go_at_call 66; refine (prog_checkB w g (o + 1) 98 99 _ hr hlen.out (by omega)).mono ?_; rintro _ w9 ⟨rfl, e9⟩; rw [e9]; clear e9 w9; rw [show (1 + sumB ((l.drop 1).take 98)) % 256 = chkOf l from rfl])
  go_ret
  exact ⟨rfl, rfl⟩

set_option maxRecDepth 100000 in
set_option maxHeartbeats 400000 in
theorem prog_worn (w : World) (g o : Nat) (l : List UInt8) (h : ImgAt w g o l) :
    Calls Tryd.prog 86 #[.pointer (some ⟨g, o, none⟩)] w fun r w' => r = .returned (.bool (decide (numOf l = 4294967295))) ∧ ∃ n, w' = w.drewN n := by
  go_enter Tryd.func86, Tryd.ntmps86
  go_wp2_with (go_at_call 58; refine (prog_number w g o l h).mono ?_; rintro _ w9 ⟨rfl, n9, e9⟩; rw [e9]; clear e9 w9)
  go_ret
  exact ⟨rfl, _, rfl⟩

set_option maxRecDepth 100000 in
set_option maxHeartbeats 400000 in
theorem prog_pin (w : World) (g o : Nat) :
    Calls Tryd.prog 59 #[.pointer (some ⟨g, o, none⟩)] w fun r w' => r = .returned (.pointer (some ⟨g, o + 6, none⟩)) ∧ w' = w := by
  have hsl := fun wx => run_sliceArr2 (P := Tryd.prog) wx 75 5 100 under_img size_byte g o 6 15 (by omega) (by omega) (by omega) 6 15 rfl rfl
  have har := fun wx => run_arrayAt (P := Tryd.prog) (w := wx) 87 5 9 (some ⟨g, o + 6, none⟩) 9 94 under_pin (Nat.le_refl _)
  go_enter Tryd.func59, Tryd.ntmps59
  go_wp2
  go_ret
  exact ⟨rfl, rfl⟩

set_option maxRecDepth 100000 in
set_option maxHeartbeats 400000 in
theorem prog_key (w : World) (g o i : Nat) (hi : i < 4) :
    Calls Tryd.prog 77 #[.pointer (some ⟨g, o, none⟩), .int .i64 i] w fun r w' => r = .returned (.pointer (some ⟨g, o + (15 + 21 * i), none⟩)) ∧ w' = w := by
  have hsl := fun wx => run_sliceArr2 (P := Tryd.prog) wx 75 5 100 under_img size_byte g o (15 + 21 * i) (15 + 21 * i + 21) (by omega) (by omega) (by omega) (15 + (i : Int) * 21) (15 + (i : Int) * 21 + 21) (by omega) (by omega)
  rw [show 15 + 21 * i + 21 - (15 + 21 * i) = 21 by omega] at hsl
  have har := fun wx => run_arrayAt (P := Tryd.prog) (w := wx) 63 5 21 (some ⟨g, o + (15 + 21 * i), none⟩) 21 (100 - (15 + 21 * i)) under21b (Nat.le_refl _)
  have w1 : IntKind.i64.wrap ((i : Int) * 21) = (i : Int) * 21 := wrap_id _ (by omega) (by omega)
  have w2 : IntKind.i64.wrap (15 + (i : Int) * 21) = 15 + (i : Int) * 21 := wrap_id _ (by omega) (by omega)
  have w3 : IntKind.i64.wrap (15 + (i : Int) * 21 + 21) = 15 + (i : Int) * 21 + 21 := wrap_id _ (by omega) (by omega)
  go_enter Tryd.func77, Tryd.ntmps77
  go_wp2
  go_ret
  exact ⟨rfl, rfl⟩
end Go.Proofs.YtaokemapkgggoaaDoor

namespace Go.Proofs.YtaokemapkgggoaaDoor
open Go.RowKit

theorem told_str (b : ByteArray) (x y z : Int) : (⟨#[165]⟩ : ByteArray) ++ strOfNums [x, y] ++ b ++ strOfNums [z] = str ([165, UInt8.ofNat x.toNat, UInt8.ofNat y.toNat] ++ b.data.toList ++ [UInt8.ofNat z.toNat]) := by
  apply ByteArray.ext
  rw [ByteArray.data_append, ByteArray.data_append, ByteArray.data_append]
  apply Array.ext'
  simp [str, strOfNums]
theorem size2 (a b : Int) : (strOfNums [a, b]).size = 2 := by rw [strOfNums_size]; rfl

/-- the document's device in memory -/
structure Dv where
  sm : Nat
  h0 : ByteArray
  h1 : ByteArray
  k : Kep
  wh : Int
  unl : Bool
  off : Bool
  cut : Int
  inn : ByteArray
def Dv.cells (d : Dv) : List Value := [.pointer (some ⟨d.sm, 0, none⟩), .string d.h0, .string d.h1, .int .i64 d.k.num, .int .i64 d.k.tries, .string d.k.pin, .string d.k.k0, .string d.k.k1, .string d.k.k2, .string d.k.k3, .int .i64 d.wh, .bool d.unl, .bool d.off, .int .i64 d.cut, .string d.inn]
end Go.Proofs.YtaokemapkgggoaaDoor
