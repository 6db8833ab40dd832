import Derived.Test.YtaokemapkgggoaaGreatDoorFd12
import Derived.Test.YtaokemapkgggoaaGreatDoorFd11
/-
  The device, as plain functions on lists of bytes: images, frames, answers, commands.
-/
namespace Go.Proofs.YtaokemapkgggoaaGreatDoor
open Go.RowKit

/-- a text of some bytes -/
def str (l : List UInt8) : ByteArray := ⟨l.toArray⟩
theorem str_list (l : List UInt8) : (str l).data.toList = l := by simp [str]
theorem list_str (s : ByteArray) : str s.data.toList = s := by apply ByteArray.ext; simp [str]
theorem str_size (l : List UInt8) : (str l).size = l.length := by rw [size_list', str_list]
  where size_list' (s : ByteArray) : s.size = s.data.toList.length := by rw [Array.length_toList]; rfl
theorem str_append (a b : List UInt8) : str a ++ str b = str (a ++ b) := by
  apply ByteArray.ext; rw [ByteArray.data_append]; simp [str]
theorem strOfNums_str (xs : List Int) : strOfNums xs = str (toBytes xs) := rfl
theorem str_inj {a b : List UInt8} (h : str a = str b) : a = b := by rw [← str_list a, h, str_list]

theorem ret_bytes {a b : ByteArray} (h : a = b) : Ending.returned (.string a) = .returned (.string b) := by rw [h]

/-- a number as a byte -/
def b8 (x : Int) : UInt8 := UInt8.ofNat (x % 256).toNat
theorem b8_toNat (x : Int) : ((b8 x).toNat : Int) = x % 256 := by
  have h : (x % 256).toNat < 256 := by omega
  simp only [b8, UInt8.toNat_ofNat']
  rw [Nat.mod_eq_of_lt (by simpa using h)]
  omega
theorem b8_of (b : UInt8) : b8 (b.toNat : Int) = b := by
  apply UInt8.toNat_inj.1
  have h := b8_toNat (b.toNat : Int)
  have hb := b.toNat_lt
  omega
theorem b8_mod (x : Int) : b8 (x % 256) = b8 x := by unfold b8; rw [Int.emod_emod_of_dvd x (by decide)]
theorem toBytes_b8 {x : Int} (h : 0 ≤ x) (h1 : x < 256) : UInt8.ofNat x.toNat = b8 x := by
  unfold b8; rw [show x % 256 = x by omega]

/-- the sum of some bytes -/
def sumB : List UInt8 → Int
  | [] => 0
  | b :: l => b.toNat + sumB l
theorem sumB_append (a b : List UInt8) : sumB (a ++ b) = sumB a + sumB b := by
  induction a with
  | nil => simp [sumB]
  | cons x a ih => simp only [List.cons_append, sumB, ih]; omega
theorem sumB_nonneg (l : List UInt8) : 0 ≤ sumB l := by
  induction l with
  | nil => simp [sumB]
  | cons x a ih => simp only [sumB]; omega
theorem sumB_le (l : List UInt8) : sumB l ≤ 255 * l.length := by
  induction l with
  | nil => simp [sumB]
  | cons x a ih => simp only [sumB, List.length_cons]; have := x.toNat_lt; omega
theorem sumB_take_succ (l : List UInt8) (i : Nat) (h : i < l.length) : sumB (l.take (i + 1)) = sumB (l.take i) + (bytesI l).getD i 0 := by
  rw [List.take_succ_eq_append_getElem h, sumB_append]
  simp [sumB, bytesI, List.getD, h]

/-- a text with bytes 0 up to a length -/
def padTo (n : Nat) (l : List UInt8) : List UInt8 := l ++ List.replicate (n - l.length) 0
theorem padTo_length (n : Nat) (l : List UInt8) (h : l.length ≤ n) : (padTo n l).length = n := by simp [padTo]; omega

/-- an image: its number, tries, PIN, keys -/
structure Kep where
  num : Int
  tries : Int
  pin : ByteArray
  k0 : ByteArray
  k1 : ByteArray
  k2 : ByteArray
  k3 : ByteArray

def keyPart (k : List UInt8) : List UInt8 := b8 k.length :: padTo 20 k
/-- the bytes of an image between the mark and the sum, whatever stands in it -/
def Kep.head (k : Kep) : List UInt8 :=
  [b8 (k.num.tdiv 16777216), b8 ((k.num.tdiv 65536).tmod 256), b8 ((k.num.tdiv 256).tmod 256), b8 (k.num.tmod 256), b8 k.tries, b8 k.pin.size] ++ padTo 8 k.pin.data.toList
def Kep.body (k : Kep) : List UInt8 := k.head ++ keyPart k.k0.data.toList ++ keyPart k.k1.data.toList ++ keyPart k.k2.data.toList ++ keyPart k.k3.data.toList
def closed (t : List UInt8) : List UInt8 := 167 :: (t ++ [b8 (1 + sumB t)])
def Kep.img (k : Kep) : List UInt8 := closed k.body

/-- what an answer is -/
def told (st : Int) (p : List UInt8) : List UInt8 := [165, b8 p.length, b8 st] ++ p ++ [b8 (p.length + st + 1 + sumB p)]
end Go.Proofs.YtaokemapkgggoaaGreatDoor

namespace Go.Proofs.YtaokemapkgggoaaGreatDoor
open Go.RowKit

theorem elem32b : ∀ e, Tryz.prog.underlying 47 = some (.array 32 e) → (Tryz.prog.info? e).isSome = true := fun e he => by
  have h := under32b.symm.trans he
  have h5 : (Tryz.prog.info? 5).isSome = true := by kernel_rfl
  rw [← (TypeDesc.array.inj (Option.some.inj h)).2]
  exact h5

set_option maxRecDepth 100000 in
set_option maxHeartbeats 1000000 in
theorem prog_Sum (s : ByteArray) (w : World) (hG : Glob w) (hs : s.size < 1000000) :
    Calls Tryz.prog 13 #[.string s] w fun r w' => r = .returned (.agg (u8s (sumSpec K0 H0 0 s.data.toList)).toArray) ∧ Below w.heap.size w w' := by
  obtain ⟨ov, HO⟩ : ∃ ov, Hid (ov = sumSpec K0 H0 0 s.data.toList) := ⟨_, rfl⟩
  have hol : Hid ((u8s ov).length = 32) := by show _ = _; rw [u8s_length, HO.out]; exact sumSpec_length H0 W8_H0 _ _
  go_enter Tryz.func13, Tryz.ntmps13
  go_wp2_with (first | (refine wpList_allocR rfl 47 rfl 32 (.int .u8 0) arr32b ?_; go_simp) | (refine wpList_load_mid rfl 76 (.global 0) rfl 0 0 rfl (u32s H0) _ (hG.alloc _).range under8w rfl size8w ?_; go_simp) | (go_at_call 39; refine (prog_sum H0 _ _ _ (hG.alloc _) W8_H0 (by omega) (by omega)).mono ?_; rintro _ w1 ⟨rfl, hb1⟩; have a2 : Row w1 w.heap.size (zrow 32 (.int .u8 0)) 47 := (Row.made w _ _).below hb1 (by simp); have aw : Below w.heap.size w w1 := ((Below.refl _ _).alloc (Nat.le_refl _) _).trans (hb1.mono (by simp)); clear hb1; rw [← HO.out]) | (refine wpList_storeR rfl 47 _ _ rfl w.heap.size rfl (u8s ov) rfl 47 (zrow 32 (.int .u8 0)) 32 (.int .u8 0) a2 arr32b hol.out (zrow_length _ _) (u8s_one _) ?_; go_simp))
  refine bodyPost_ret (v := .agg (u8s ov).toArray) (results_row Tryz.results13 _ w.heap.size 47 (u8s ov) 32 (.int .u8 0) rfl (Row.setRow a2 _) arr32b hol.out) rfl ⟨by rw [HO.out], below_setRow aw (Nat.le_refl _) _⟩

theorem fieldOf_B (l : List UInt8) (n : Nat) (h : l.length < 256) : ∀ x ∈ fieldOf n l, isB x := by
  intro x hx
  rcases List.mem_cons.1 hx with rfl | hx
  · unfold isB; omega
  · exact blk_B _ _ x hx
theorem fieldOf_tail (n : Nat) (l : List UInt8) : (fieldOf n l).tail = blk (n - 1) l := rfl
theorem size_list (s : ByteArray) : s.size = s.data.toList.length := by rw [Array.length_toList]; rfl

set_option maxRecDepth 100000 in
set_option maxHeartbeats 1000000 in
theorem prog_Seal_no (s t : ByteArray) (w : World) (hs : ¬ (1 ≤ s.size ∧ s.size ≤ 20)) :
    Calls Tryz.prog 15 #[.string s, .string t] w fun r w' => r = .returned (.tuple #[.agg (zrow 32 (.int .u8 0)).toArray, .int .i64 3]) ∧ Below w.heap.size w w' := by
  rcases Nat.lt_or_ge 20 s.size with h20 | h20
  · go_enter Tryz.func15, Tryz.ntmps15
    go_wp2_with (first | (refine wpList_allocR rfl 47 rfl 32 (.int .u8 0) arr32b ?_; go_simp) | (go_at_call 44; refine (prog_keyOf_no _ _ h20).mono ?_; rintro _ w1 ⟨rfl, hb1⟩; have a2 : Row w1 w.heap.size (zrow 32 (.int .u8 0)) 47 := (Row.made w _ _).below hb1 (by simp); have aw : Below w.heap.size w w1 := ((Below.refl _ _).alloc (Nat.le_refl _) _).trans (hb1.mono (by simp)); clear hb1) | (refine wpList_allocR rfl 79 rfl 21 (.int .u8 0) arr21b ?_; go_simp) | (refine wpList_storeMA rfl 79 _ _ rfl _ rfl rfl (zrow 21 (.int .u8 0)) rfl 79 _ 21 (.int .u8 0) arr21b (zrow_length _ _) (zrow_length _ _) (by rw [zrow_u8]; exact u8s_one _) ?_; intro w3 hr5 hb3; have c2 := a2.below hb3 a2.lt; have cw := aw.trans (hb3.mono (Nat.le_of_lt a2.lt)); go_simp) | (refine wpList_buildZ rfl 47 rfl 32 (.int .u8 0) arr32b elem32b ?_; go_simp) | (refine wpList_storeR rfl 47 _ _ rfl w.heap.size rfl (zrow 32 (.int .u8 0)) rfl 47 (zrow 32 (.int .u8 0)) 32 (.int .u8 0) c2 arr32b (zrow_length _ _) (zrow_length _ _) (by rw [zrow_u8]; exact u8s_one _) ?_; go_simp))
    refine bodyPost_ret (v := .tuple #[.agg (zrow 32 (.int .u8 0)).toArray, .int .i64 3]) (results_row2 Tryz.results15 _ _ w.heap.size 47 (zrow 32 (.int .u8 0)) 32 (.int .u8 0) (.int .i64 3) rfl rfl (Row.setRow c2 _) arr32b (zrow_length _ _)) rfl ⟨rfl, below_setRow cw (Nat.le_refl _) _⟩
  · have hz : s.size = 0 := by omega
    obtain ⟨kf, HK⟩ : ∃ kf, Hid (kf = fieldOf 21 s.data.toList) := ⟨_, rfl⟩
    have hkl : Hid ((u8s kf).length = 21) := by show _ = _; rw [u8s_length, HK.out, fieldOf_length _ _ (by omega)]
    have hk0 : Hid ((u8s kf)[0]? = some (.int .u8 0)) := by show _ = _; rw [HK.out]; show some (Value.int .u8 (s.data.toList.length : Int)) = _; rw [← size_list, hz]; rfl
    go_enter Tryz.func15, Tryz.ntmps15
    go_wp2_with (first | (refine wpList_allocR rfl 47 rfl 32 (.int .u8 0) arr32b ?_; go_simp) | (go_at_call 44; refine (prog_keyOf_yes _ _ h20).mono ?_; rintro _ w1 ⟨rfl, hb1⟩; have a2 : Row w1 w.heap.size (zrow 32 (.int .u8 0)) 47 := (Row.made w _ _).below hb1 (by simp); have aw : Below w.heap.size w w1 := ((Below.refl _ _).alloc (Nat.le_refl _) _).trans (hb1.mono (by simp)); clear hb1; rw [← HK.out]) | (refine wpList_allocR rfl 79 rfl 21 (.int .u8 0) arr21b ?_; go_simp) | (refine wpList_storeMA rfl 79 _ _ rfl _ rfl rfl (u8s kf) rfl 79 _ 21 (.int .u8 0) arr21b hkl.out (zrow_length _ _) (u8s_one _) ?_; intro w3 hr5 hb3; have c2 := a2.below hb3 a2.lt; have cw := aw.trans (hb3.mono (Nat.le_of_lt a2.lt)); go_simp) | (go_at_call 45; refine (prog_none_yes w3 _ 0 (by rw [hr5.cell]; exact hk0.out)).mono ?_; rintro _ _ ⟨rfl, rfl⟩) | (refine wpList_buildZ rfl 47 rfl 32 (.int .u8 0) arr32b elem32b ?_; go_simp) | (refine wpList_storeR rfl 47 _ _ rfl w.heap.size rfl (zrow 32 (.int .u8 0)) rfl 47 (zrow 32 (.int .u8 0)) 32 (.int .u8 0) c2 arr32b (zrow_length _ _) (zrow_length _ _) (by rw [zrow_u8]; exact u8s_one _) ?_; go_simp))
    refine bodyPost_ret (v := .tuple #[.agg (zrow 32 (.int .u8 0)).toArray, .int .i64 3]) (results_row2 Tryz.results15 _ _ w.heap.size 47 (zrow 32 (.int .u8 0)) 32 (.int .u8 0) (.int .i64 3) rfl rfl (Row.setRow c2 _) arr32b (zrow_length _ _)) rfl ⟨rfl, below_setRow cw (Nat.le_refl _) _⟩

set_option maxRecDepth 100000 in
set_option maxHeartbeats 1000000 in
theorem prog_Seal_yes (s t : ByteArray) (w : World) (hG : Glob w) (h1 : 1 ≤ s.size) (h2 : s.size ≤ 20) (ht : t.size < 900000) :
    Calls Tryz.prog 15 #[.string s, .string t] w fun r w' => r = .returned (.tuple #[.agg (u8s (sealSpec (blk 20 s.data.toList) t.data.toList)).toArray, .int .i64 0]) ∧ Below w.heap.size w w' := by
  obtain ⟨kf, HK⟩ : ∃ kf, Hid (kf = fieldOf 21 s.data.toList) := ⟨_, rfl⟩
  have hkl : Hid ((u8s kf).length = 21) := by show _ = _; rw [u8s_length, HK.out, fieldOf_length _ _ (by omega)]
  have hkB : ∀ x ∈ kf, isB x := by rw [HK.out]; exact fieldOf_B _ _ (by rw [← size_list]; omega)
  have hk0 : Hid ((u8s kf)[0]? = some (.int .u8 (s.size : Int))) := by show _ = _; rw [HK.out, size_list]; rfl
  have hkt : Hid (kf.tail = blk 20 s.data.toList) := by show _ = _; rw [HK.out]; rfl
  have hn0 : ¬ (s.size : Int) = 0 := by omega
  obtain ⟨kn, hkn⟩ : ∃ x : Int, Hid (x = (s.size : Int)) := ⟨_, rfl⟩
  rw [← hkn.out] at hn0 hk0
  obtain ⟨ov, HO⟩ : ∃ ov, Hid (ov = sealSpec kf.tail t.data.toList) := ⟨_, rfl⟩
  have hol : Hid ((u8s ov).length = 32) := by show _ = _; rw [u8s_length, HO.out]; exact sumSpec_length _ (blockOn_w8 W8_H0) _ _
  go_enter Tryz.func15, Tryz.ntmps15
  go_wp2_with (first | (refine wpList_allocR rfl 47 rfl 32 (.int .u8 0) arr32b ?_; go_simp) | (go_at_call 44; refine (prog_keyOf_yes _ _ h2).mono ?_; rintro _ w1 ⟨rfl, hb1⟩; have a2 : Row w1 w.heap.size (zrow 32 (.int .u8 0)) 47 := (Row.made w _ _).below hb1 (by simp); have aw : Below w.heap.size w w1 := ((Below.refl _ _).alloc (Nat.le_refl _) _).trans (hb1.mono (by simp)); clear hb1; rw [← HK.out]) | (refine wpList_allocR rfl 79 rfl 21 (.int .u8 0) arr21b ?_; go_simp) | (refine wpList_storeMA rfl 79 _ _ rfl _ rfl rfl (u8s kf) rfl 79 _ 21 (.int .u8 0) arr21b hkl.out (zrow_length _ _) (u8s_one _) ?_; intro w3 hr5 hb3; have c2 := a2.below hb3 a2.lt; have cw := aw.trans (hb3.mono (Nat.le_of_lt a2.lt)); go_simp) | (go_at_call 45; refine (prog_none_no w3 _ 0 _ hn0 (by rw [hr5.cell]; exact hk0.out)).mono ?_; rintro _ _ ⟨rfl, rfl⟩) | (refine wpList_loadR rfl 79 _ rfl w1.heap.size rfl 79 (u8s kf) 21 (.int .u8 0) hr5 arr21b hkl.out ?_; go_simp) | (go_at_call 46; refine (prog_sealBy kf _ _ (hG.below cw (Nat.le_refl _)) (by rw [← u8s_length]; exact hkl.out) hkB ht).mono ?_; rintro _ w4 ⟨rfl, hb4⟩; have d2 := c2.below hb4 c2.lt; have dw := cw.trans (hb4.mono (Nat.le_of_lt c2.lt)); clear hb4; rw [← HO.out]) | (refine wpList_storeR rfl 47 _ _ rfl w.heap.size rfl (u8s ov) rfl 47 (zrow 32 (.int .u8 0)) 32 (.int .u8 0) d2 arr32b hol.out (zrow_length _ _) (u8s_one _) ?_; go_simp))
  refine bodyPost_ret (v := .tuple #[.agg (u8s ov).toArray, .int .i64 0]) (results_row2 Tryz.results15 _ _ w.heap.size 47 (u8s ov) 32 (.int .u8 0) (.int .i64 0) rfl rfl (Row.setRow d2 _) arr32b hol.out) rfl ⟨by rw [HO.out, hkt.out], below_setRow dw (Nat.le_refl _) _⟩

set_option maxRecDepth 100000 in
set_option maxHeartbeats 1000000 in
theorem prog_Code_no (s : ByteArray) (n : Int) (w : World) (hs : ¬ (1 ≤ s.size ∧ s.size ≤ 20)) :
    Calls Tryz.prog 18 #[.string s, .int .i64 n] w fun r w' => r = .returned (.tuple #[.string ⟨#[]⟩, .int .i64 3]) ∧ Below w.heap.size w w' := by
  rcases Nat.lt_or_ge 20 s.size with h20 | h20
  · go_enter Tryz.func18, Tryz.ntmps18
    go_wp2_with (first | (go_at_call 44; refine (prog_keyOf_no _ _ h20).mono ?_; rintro _ w1 ⟨rfl, hb1⟩) | (refine wpList_allocR rfl 79 rfl 21 (.int .u8 0) arr21b ?_; go_simp) | (refine wpList_storeMA rfl 79 _ _ rfl _ rfl rfl (zrow 21 (.int .u8 0)) rfl 79 _ 21 (.int .u8 0) arr21b (zrow_length _ _) (zrow_length _ _) (by rw [zrow_u8]; exact u8s_one _) ?_; intro w3 hr5 hb3; go_simp))
    go_ret2
    exact ⟨rfl, hb1.trans (hb3.mono hb1.size)⟩
  · have hz : s.size = 0 := by omega
    obtain ⟨kf, HK⟩ : ∃ kf, Hid (kf = fieldOf 21 s.data.toList) := ⟨_, rfl⟩
    have hkl : Hid ((u8s kf).length = 21) := by show _ = _; rw [u8s_length, HK.out, fieldOf_length _ _ (by omega)]
    have hk0 : Hid ((u8s kf)[0]? = some (.int .u8 0)) := by show _ = _; rw [HK.out]; show some (Value.int .u8 (s.data.toList.length : Int)) = _; rw [← size_list, hz]; rfl
    go_enter Tryz.func18, Tryz.ntmps18
    go_wp2_with (first | (go_at_call 44; refine (prog_keyOf_yes _ _ h20).mono ?_; rintro _ w1 ⟨rfl, hb1⟩; rw [← HK.out]) | (refine wpList_allocR rfl 79 rfl 21 (.int .u8 0) arr21b ?_; go_simp) | (refine wpList_storeMA rfl 79 _ _ rfl _ rfl rfl (u8s kf) rfl 79 _ 21 (.int .u8 0) arr21b hkl.out (zrow_length _ _) (u8s_one _) ?_; intro w3 hr5 hb3; go_simp) | (go_at_call 45; refine (prog_none_yes w3 _ 0 (by rw [hr5.cell]; exact hk0.out)).mono ?_; rintro _ _ ⟨rfl, rfl⟩))
    go_ret2
    exact ⟨rfl, hb1.trans (hb3.mono hb1.size)⟩

set_option maxRecDepth 100000 in
set_option maxHeartbeats 1000000 in
theorem prog_Code_neg (s : ByteArray) (n : Int) (w : World) (h1 : 1 ≤ s.size) (h2 : s.size ≤ 20) (hn : n < 0) :
    Calls Tryz.prog 18 #[.string s, .int .i64 n] w fun r w' => r = .returned (.tuple #[.string ⟨#[]⟩, .int .i64 3]) ∧ Below w.heap.size w w' := by
  obtain ⟨kf, HK⟩ : ∃ kf, Hid (kf = fieldOf 21 s.data.toList) := ⟨_, rfl⟩
  have hkl : Hid ((u8s kf).length = 21) := by show _ = _; rw [u8s_length, HK.out, fieldOf_length _ _ (by omega)]
  have hk0 : Hid ((u8s kf)[0]? = some (.int .u8 (s.size : Int))) := by show _ = _; rw [HK.out, size_list]; rfl
  have hn0 : ¬ (s.size : Int) = 0 := by omega
  obtain ⟨kn, hkn⟩ : ∃ x : Int, Hid (x = (s.size : Int)) := ⟨_, rfl⟩
  rw [← hkn.out] at hn0 hk0
  go_enter Tryz.func18, Tryz.ntmps18
  go_wp2_with (first | (go_at_call 44; refine (prog_keyOf_yes _ _ h2).mono ?_; rintro _ w1 ⟨rfl, hb1⟩; rw [← HK.out]) | (refine wpList_allocR rfl 79 rfl 21 (.int .u8 0) arr21b ?_; go_simp) | (refine wpList_storeMA rfl 79 _ _ rfl _ rfl rfl (u8s kf) rfl 79 _ 21 (.int .u8 0) arr21b hkl.out (zrow_length _ _) (u8s_one _) ?_; intro w3 hr5 hb3; go_simp) | (go_at_call 45; refine (prog_none_no w3 _ 0 _ hn0 (by rw [hr5.cell]; exact hk0.out)).mono ?_; rintro _ _ ⟨rfl, rfl⟩))
  go_ret2
  exact ⟨rfl, hb1.trans (hb3.mono hb1.size)⟩

theorem keep_callC {w W wx : World} {kb iv : List Int} {g h : Nat} (hb : Below W.heap.size W wx)
    (hh : W.rangeAt g 0 (u8s kb) ∧ W.rangeAt h 0 (u8s iv) ∧ Below w.heap.size w W ∧ g < W.heap.size ∧ h < W.heap.size) :
    wx.rangeAt g 0 (u8s kb) ∧ wx.rangeAt h 0 (u8s iv) ∧ Below w.heap.size w wx ∧ g < wx.heap.size ∧ h < wx.heap.size :=
  ⟨range_below hh.1 hb hh.2.2.2.1, range_below hh.2.1 hb hh.2.2.2.2, hh.2.2.1.trans (hb.mono hh.2.2.1.size), Nat.lt_of_lt_of_le hh.2.2.2.1 hb.size, Nat.lt_of_lt_of_le hh.2.2.2.2 hb.size⟩

set_option maxRecDepth 100000 in
set_option maxHeartbeats 1000000 in
theorem prog_Code_yes (s : ByteArray) (n : Int) (w : World) (hG : Glob w) (h1 : 1 ≤ s.size) (h2 : s.size ≤ 20) (hn : 0 ≤ n) (hn1 : n ≤ 9223372036854775807) :
    Calls Tryz.prog 18 #[.string s, .int .i64 n] w fun r w' => r = .returned (.tuple #[.string (strOfNums (codeSpec (blk 20 s.data.toList) n)), .int .i64 0]) ∧ Below w.heap.size w w' := by
  obtain ⟨kf, HK⟩ : ∃ kf, Hid (kf = fieldOf 21 s.data.toList) := ⟨_, rfl⟩
  have hkl : Hid ((u8s kf).length = 21) := by show _ = _; rw [u8s_length, HK.out, fieldOf_length _ _ (by omega)]
  have hkB : ∀ x ∈ kf, isB x := by rw [HK.out]; exact fieldOf_B _ _ (by rw [← size_list]; omega)
  have hk0 : Hid ((u8s kf)[0]? = some (.int .u8 (s.size : Int))) := by show _ = _; rw [HK.out, size_list]; rfl
  have hkt : Hid (kf.tail = blk 20 s.data.toList) := by show _ = _; rw [HK.out]; rfl
  have hn0 : ¬ (s.size : Int) = 0 := by omega
  obtain ⟨kn, hkn⟩ : ∃ x : Int, Hid (x = (s.size : Int)) := ⟨_, rfl⟩
  rw [← hkn.out] at hn0 hk0
  have hneg : ¬ n < 0 := by omega
  obtain ⟨e8, HE⟩ : ∃ e8, Hid (e8 = eightTo n 8) := ⟨_, rfl⟩
  have he8 : Hid ((u8s e8).length = 8) := by show _ = _; rw [HE.out, u8s_length, eightTo_length]
  go_enter Tryz.func18, Tryz.ntmps18
  go_wp2_with (first | (go_at_call 44; refine (prog_keyOf_yes _ _ h2).mono ?_; rintro _ w1 ⟨rfl, hb1⟩; rw [← HK.out]) | (refine wpList_allocR rfl 79 rfl 21 (.int .u8 0) arr21b ?_; go_simp) | (refine wpList_storeMA rfl 79 _ _ rfl _ rfl rfl (u8s kf) rfl 79 _ 21 (.int .u8 0) arr21b hkl.out (zrow_length _ _) (u8s_one _) ?_; intro w3 hr5 hb3; have cw := hb1.trans (hb3.mono hb1.size); clear hb1 hb3; go_simp) | (go_at_call 45; refine (prog_none_no w3 _ 0 _ hn0 (by rw [hr5.cell]; exact hk0.out)).mono ?_; rintro _ _ ⟨rfl, rfl⟩) | (go_at_call 48; refine (prog_eight _ _ (by omega) (by omega)).mono ?_; rintro _ w4 ⟨rfl, hb4⟩; have d5 := hr5.below hb4 hr5.lt; have dw := cw.trans (hb4.mono cw.size); clear hb4; rw [← HE.out]) | (refine wpList_allocR rfl 85 rfl 8 (.int .u8 0) arr8b ?_; go_simp) | (refine wpList_storeMA rfl 85 _ _ rfl _ rfl rfl (u8s e8) rfl 85 _ 8 (.int .u8 0) arr8b he8.out (zrow_length _ _) (u8s_one _) ?_; intro w6 hr6 hb6; have e5 := d5.below hb6 d5.lt; have ew := dw.trans (hb6.mono dw.size); clear hb6; go_simp))
  have hS0 : w6.drew.rangeAt w1.heap.size 0 (u8s kf) ∧ w6.drew.rangeAt w4.heap.size 0 (u8s e8) ∧ Below w.heap.size w w6.drew ∧ w1.heap.size < w6.drew.heap.size ∧ w4.heap.size < w6.drew.heap.size := ⟨e5.range, hr6.range, ew.drew, e5.lt, hr6.lt⟩
  have hi79 : (Tryz.prog.info? 79).map (·.size) = some (u8s kf).length := by rw [hkl.out]; exact arr21b.size
  have hu79 := under21b
  have hlk : (u8s kf).length = 21 := hkl.out
  have hok := u8s_one kf
  have hconv : ∀ w', w'.rangeAt w4.heap.size 0 (u8s e8) → (convert 49 9 (.slice (some ⟨w4.heap.size, 0, none⟩) 8 8)).run Tryz.prog w' = .ok (.string (strOfNums e8)) w' := fun w' h => run_convR w' _ e8 8 8 (by rw [← u8s_length]; exact he8.out) h
  have hsz : (strOfNums e8).size = 8 := by rw [strOfNums_size, ← u8s_length]; exact he8.out
  clear hr6 e5 ew d5 dw hr5 cw
  go_region_held3 (fun w' => w'.rangeAt w1.heap.size 0 (u8s kf) ∧ w'.rangeAt w4.heap.size 0 (u8s e8) ∧ Below w.heap.size w w' ∧ w1.heap.size < w'.heap.size ∧ w4.heap.size < w'.heap.size) (first | exact hS0 | exact keep_callC hbx (by assumption)) (first | (go_at_call 49; refine (prog_codeBy kf _ _ ?_ (by rw [← u8s_length]; exact hkl.out) hkB (by omega)).mono ?_; (go_split_ands; exact hG.below (by assumption) (Nat.le_refl _)); rintro _ wx ⟨rfl, hbx⟩; rw [toBytes_str]))
  go_wp2
  go_ret2
  refine ⟨?_, (keep_callC hbx hS0).2.2.1⟩
  rw [hkt.out, HE.out]; rfl
end Go.Proofs.YtaokemapkgggoaaGreatDoor
