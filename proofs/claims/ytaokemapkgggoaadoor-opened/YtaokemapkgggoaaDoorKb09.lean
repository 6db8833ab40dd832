import Derived.Test.YtaokemapkgggoaaDoorKb08
namespace Go.Proofs.YtaokemapkgggoaaDoor
open Go.RowKit

/-- how many bytes 0 stand behind the 80 -/
def padN (n : Nat) : Nat := (119 - n % 64) % 64
/-- the bytes that are turned: those that came, 80, bytes 0, the number of bits -/
def padG (n : Int) (l : List UInt8) : List UInt8 := l ++ (128 :: List.replicate (padN l.length) 0) ++ toBytes (eightTo n 8)
def padded (l : List UInt8) : List UInt8 := l ++ (128 :: List.replicate (padN l.length) 0) ++ toBytes (eightTo (8 * l.length) 8)
def sumSpecRef (l : List UInt8) : List Int := (foldB K0 H0 (padded l) ((padded l).length / 64)).flatMap four

theorem blk_append {n : Nat} {l : List UInt8} (m : List UInt8) (h : n ≤ l.length) : blk n (l ++ m) = blk n l := by
  unfold blk
  rw [List.take_append_of_le_length h]
theorem foldB_append {K h : List Int} {l : List UInt8} (m : List UInt8) : ∀ k, 64 * k ≤ l.length → foldB K h (l ++ m) k = foldB K h l k
  | 0, _ => rfl
  | k + 1, hk => by
    show blockOn K (foldB K h (l ++ m) k) _ = blockOn K (foldB K h l k) _
    rw [foldB_append m k (by omega), List.drop_append_of_le_length (by omega), blk_append _ (by rw [List.length_drop]; omega)]
theorem foldB_split {K h : List Int} {a : List UInt8} (b : List UInt8) (q : Nat) (ha : a.length = 64 * q) : ∀ k, foldB K h (a ++ b) (q + k) = foldB K (foldB K h a q) b k
  | 0 => foldB_append b q (by omega)
  | k + 1 => by
    show blockOn K (foldB K h (a ++ b) (q + k)) (blk 64 ((a ++ b).drop (64 * (q + k)))) = blockOn K (foldB K (foldB K h a q) b k) (blk 64 (b.drop (64 * k)))
    rw [foldB_split b q ha k, show 64 * (q + k) = a.length + 64 * k by omega, List.drop_append, List.drop_eq_nil_of_le (by omega), List.nil_append, Nat.add_sub_cancel_left]
theorem foldB_take {K h : List Int} (l : List UInt8) (q : Nat) (hq : 64 * q ≤ l.length) : foldB K h (l.take (64 * q)) q = foldB K h l q := by
  conv => rhs; rw [← List.take_append_drop (64 * q) l]
  rw [foldB_append _ q (by rw [List.length_take]; omega)]
theorem blk_whole {n : Nat} {l : List UInt8} (h : l.length = n) : blk n l = bytesI l := by
  unfold blk
  rw [List.take_of_length_le (by omega), h, Nat.sub_self]
  simp
theorem bytesI_toBytes {xs : List Int} (h : ∀ x ∈ xs, isB x) : bytesI (toBytes xs) = xs := by
  rw [bytesI, toBytes, List.map_map]
  conv => rhs; rw [← List.map_id xs]
  refine List.map_congr_left fun x hx => ?_
  have := h x hx
  unfold isB at this
  simp only [Function.comp, id]
  rw [UInt8.toNat_ofNat']
  omega
theorem bytesI_append (a b : List UInt8) : bytesI (a ++ b) = bytesI a ++ bytesI b := by simp [bytesI]
theorem toBytes_length (xs : List Int) : (toBytes xs).length = xs.length := by simp [toBytes]
theorem bytesI_length (l : List UInt8) : (bytesI l).length = l.length := by simp [bytesI]
theorem marked_eq {r : List UInt8} (h : r.length < 64) : marked r = bytesI r ++ (128 :: List.replicate (63 - r.length) 0) := by
  unfold marked blk
  rw [List.take_of_length_le (by omega), List.set_append_right _ _ (by rw [bytesI_length]; omega), bytesI_length, Nat.sub_self, show 64 - r.length = (63 - r.length) + 1 by omega, List.replicate_succ, List.set_cons_zero]
theorem bytesI_zeros (n : Nat) : bytesI (List.replicate n 0) = List.replicate n 0 := by simp [bytesI]

theorem tail_eq (K h : List Int) (n : Int) (r : List UInt8) (hr : r.length < 64) : foldB K h (padG n r) ((padG n r).length / 64) = tailOn K h r n := by
  have he : (toBytes (eightTo n 8)).length = 8 := by rw [toBytes_length, eightTo_length]
  have hlen : (padG n r).length = r.length + 1 + padN r.length + 8 := by
    unfold padG
    rw [List.length_append, List.length_append, List.length_cons, List.length_replicate, he]
    omega
  unfold tailOn
  by_cases h56 : 56 ≤ r.length
  · have hp : padN r.length = (63 - r.length) + 56 := by unfold padN; omega
    rw [if_pos h56, hlen, hp, show (r.length + 1 + (63 - r.length + 56) + 8) / 64 = 1 + 1 by omega]
    have hs : padG n r = (r ++ (128 :: List.replicate (63 - r.length) 0)) ++ (List.replicate 56 0 ++ toBytes (eightTo n 8)) := by
      unfold padG
      rw [hp, ← List.replicate_append_replicate]
      simp
    rw [hs, foldB_split _ 1 (by simp; omega) 1]
    show blockOn K (blockOn K h (blk 64 (List.drop 0 _))) (blk 64 (List.drop 0 _)) = _
    rw [List.drop_zero, List.drop_zero, blk_whole (by simp; omega), blk_whole (by simp [he]), marked_eq hr, bytesI_append, bytesI_append, bytesI_zeros, bytesI_toBytes (eightTo_B n 8)]
    congr 3
    show _ :: bytesI _ = _
    rw [bytesI_zeros]
    rfl
  · have hp : padN r.length = 55 - r.length := by unfold padN; omega
    rw [if_neg h56, hlen, hp, show (r.length + 1 + (55 - r.length) + 8) / 64 = 1 by omega]
    show blockOn K h (blk 64 (List.drop 0 _)) = _
    rw [List.drop_zero, blk_whole (by rw [hlen, hp]; omega), marked_eq hr]
    congr 1
    unfold padG
    rw [bytesI_append, bytesI_append, bytesI_toBytes (eightTo_B n 8), hp]
    congr 1
    rw [List.take_append, List.take_of_length_le (by rw [bytesI_length]; omega), bytesI_length, show 56 - r.length = (55 - r.length) + 1 by omega, List.take_succ_cons, List.take_replicate, show min (55 - r.length) (63 - r.length) = 55 - r.length by omega]
    congr 1
    show _ :: bytesI _ = _
    rw [bytesI_zeros]
    rfl

theorem padG_tail (n : Int) (l : List UInt8) : padG n l = l.take (64 * (l.length / 64)) ++ padG n (l.drop (64 * (l.length / 64))) := by
  have h1 : padN (l.drop (64 * (l.length / 64))).length = padN l.length := by
    rw [List.length_drop]
    unfold padN
    rw [show (l.length - 64 * (l.length / 64)) % 64 = l.length % 64 by omega]
  unfold padG
  rw [h1, ← List.append_assoc, ← List.append_assoc, List.take_append_drop]
theorem sum_eq (h : List Int) (n : Int) (l : List UInt8) : foldB K0 h (padG n l) ((padG n l).length / 64) = tailOn K0 (foldB K0 h l (l.length / 64)) (l.drop (64 * (l.length / 64))) n := by
  have hq : 64 * (l.length / 64) ≤ l.length := Nat.mul_div_le _ _
  have ht : (l.take (64 * (l.length / 64))).length = 64 * (l.length / 64) := by rw [List.length_take]; omega
  rw [← tail_eq K0 (foldB K0 h l (l.length / 64)) n (l.drop (64 * (l.length / 64))) (by rw [List.length_drop]; omega)]
  rw [padG_tail, List.length_append, ht, Nat.mul_add_div (by omega), foldB_split _ _ ht, foldB_take _ _ hq]
theorem sumSpecRef_eq (l : List UInt8) : sumSpecRef l = sumSpec K0 H0 0 l := by
  unfold sumSpecRef sumSpec
  have h := sum_eq H0 (8 * l.length) l
  unfold padG at h
  unfold padded
  rw [h, show (8 * (l.length : Int)) = (0 + l.length) * 8 by omega]
theorem foldB_one (K h : List Int) {b : List Int} (hb : b.length = 64) (hB : ∀ x ∈ b, isB x) : foldB K h (toBytes b) 1 = blockOn K h b := by
  show blockOn K h (blk 64 (List.drop 0 _)) = _
  rw [List.drop_zero, blk_whole (by rw [toBytes_length, hb]), bytesI_toBytes hB]
theorem sumSpecRef_behind {b : List Int} (hb : b.length = 64) (hB : ∀ x ∈ b, isB x) (l : List UInt8) : sumSpecRef (toBytes b ++ l) = sumSpec K0 (blockOn K0 H0 b) 64 l := by
  have hl : (toBytes b).length = 64 * 1 := by rw [toBytes_length, hb]
  have hp : padded (toBytes b ++ l) = toBytes b ++ padG ((64 + l.length) * 8) l := by
    unfold padded padG
    rw [List.length_append, hl, show padN (64 * 1 + l.length) = padN l.length by unfold padN; omega, show (8 * ((64 * 1 + l.length : Nat) : Int)) = (64 + l.length) * 8 by omega]
    simp
  unfold sumSpecRef sumSpec
  rw [hp, List.length_append, hl, Nat.mul_add_div (by omega), foldB_split _ 1 hl, sum_eq]
  rw [foldB_one _ _ hb hB]

theorem sumRef_length (l : List UInt8) : (sumSpecRef l).length = 32 := by rw [sumSpecRef_eq]; exact sumSpec_length H0 W8_H0 _ _
theorem sumRef_B (l : List UInt8) : ∀ x ∈ sumSpecRef l, isB x := by rw [sumSpecRef_eq]; exact sumSpec_B H0 W8_H0 _ _
theorem refSeal_eq {k : List UInt8} (hk : k.length ≤ 20) (t : List UInt8) : refSeal sumSpecRef k t = sealSpec (blk 20 k) t := by
  have hm : ∀ m : Int, isB m → ∀ x ∈ maskK (blk 20 k) m, isB x := fun m h => maskK_B (blk_B _ _) h
  have hl : ∀ m : Int, (maskK (blk 20 k) m).length = 64 := fun m => by simp [maskK, blk_length]
  unfold refSeal sealSpec innerSpec
  rw [refMask_eq k 54 hk, refMask_eq k 92 hk, sumSpecRef_behind (hl _) (hm _ (by unfold isB; omega)), sumSpecRef_behind (hl _) (hm _ (by unfold isB; omega))]
theorem eightL_eq (n : Int) : eightL n 8 = eightTo n 8 := by
  simp [eightL, eightTo, List.range, List.range.loop]
theorem digL_eq (x : Int) : digL x 6 = digTo (x % 1000000) 6 := by
  simp only [digL, digTo, List.range, List.range.loop, List.map]
  simp
  omega
theorem refCode_eq {k : List UInt8} (hk : k.length ≤ 20) (n : Int) : digL (refWord (refSeal sumSpecRef k (toBytes (eightL n 8)))) 6 = codeSpec (blk 20 k) n := by
  rw [refSeal_eq hk, eightL_eq, digL_eq]
  rfl
end Go.Proofs.YtaokemapkgggoaaDoor

/-
  The device, as plain functions on lists of bytes: images, frames, answers, commands.
-/
namespace Go.Proofs.YtaokemapkgggoaaDoor
open Go.RowKit

/-- a text of some bytes -/
def str (l : List UInt8) : ByteArray := ⟨l.toArray⟩
theorem str_list (l : List UInt8) : (str l).data.toList = l := by simp [str]
theorem list_str (s : ByteArray) : str s.data.toList = s := by apply ByteArray.ext; simp [str]
theorem str_size (l : List UInt8) : (str l).size = l.length := by rw [size_list', str_list]
  where size_list' (s : ByteArray) : s.size = s.data.toList.length := by rw [Array.length_toList]; rfl
theorem str_append (a b : List UInt8) : str a ++ str b = str (a ++ b) := by
  apply ByteArray.ext; rw [ByteArray.data_append]; simp [str]
theorem strOfNums_str (xs : List Int) : strOfNums xs = str (toBytes xs) := rfl
theorem str_inj {a b : List UInt8} (h : str a = str b) : a = b := by rw [← str_list a, h, str_list]

theorem ret_bytes {a b : ByteArray} (h : a = b) : Ending.returned (.string a) = .returned (.string b) := by rw [h]

/-- a number as a byte -/
def b8 (x : Int) : UInt8 := UInt8.ofNat (x % 256).toNat
theorem b8_toNat (x : Int) : ((b8 x).toNat : Int) = x % 256 := by
  have h : (x % 256).toNat < 256 := by omega
  simp only [b8, UInt8.toNat_ofNat']
  rw [Nat.mod_eq_of_lt (by simpa using h)]
  omega
theorem b8_of (b : UInt8) : b8 (b.toNat : Int) = b := by
  apply UInt8.toNat_inj.1
  have h := b8_toNat (b.toNat : Int)
  have hb := b.toNat_lt
  omega
theorem b8_mod (x : Int) : b8 (x % 256) = b8 x := by unfold b8; rw [Int.emod_emod_of_dvd x (by decide)]
theorem toBytes_b8 {x : Int} (h : 0 ≤ x) (h1 : x < 256) : UInt8.ofNat x.toNat = b8 x := by
  unfold b8; rw [show x % 256 = x by omega]

/-- the sum of some bytes -/
def sumB : List UInt8 → Int
  | [] => 0
  | b :: l => b.toNat + sumB l
theorem sumB_append (a b : List UInt8) : sumB (a ++ b) = sumB a + sumB b := by
  induction a with
  | nil => simp [sumB]
  | cons x a ih => simp only [List.cons_append, sumB, ih]; omega
theorem sumB_nonneg (l : List UInt8) : 0 ≤ sumB l := by
  induction l with
  | nil => simp [sumB]
  | cons x a ih => simp only [sumB]; omega
theorem sumB_le (l : List UInt8) : sumB l ≤ 255 * l.length := by
  induction l with
  | nil => simp [sumB]
  | cons x a ih => simp only [sumB, List.length_cons]; have := x.toNat_lt; omega
theorem sumB_take_succ (l : List UInt8) (i : Nat) (h : i < l.length) : sumB (l.take (i + 1)) = sumB (l.take i) + (bytesI l).getD i 0 := by
  rw [List.take_succ_eq_append_getElem h, sumB_append]
  simp [sumB, bytesI, List.getD, h]

/-- a text with bytes 0 up to a length -/
def padTo (n : Nat) (l : List UInt8) : List UInt8 := l ++ List.replicate (n - l.length) 0
theorem padTo_length (n : Nat) (l : List UInt8) (h : l.length ≤ n) : (padTo n l).length = n := by simp [padTo]; omega

/-- an image: its number, tries, PIN, keys -/
structure Kep where
  num : Int
  tries : Int
  pin : ByteArray
  k0 : ByteArray
  k1 : ByteArray
  k2 : ByteArray
  k3 : ByteArray

def keyPart (k : List UInt8) : List UInt8 := b8 k.length :: padTo 20 k
/-- the bytes of an image between the mark and the sum, whatever stands in it -/
def Kep.head (k : Kep) : List UInt8 :=
  [b8 (k.num.tdiv 16777216), b8 ((k.num.tdiv 65536).tmod 256), b8 ((k.num.tdiv 256).tmod 256), b8 (k.num.tmod 256), b8 k.tries, b8 k.pin.size] ++ padTo 8 k.pin.data.toList
def Kep.body (k : Kep) : List UInt8 := k.head ++ keyPart k.k0.data.toList ++ keyPart k.k1.data.toList ++ keyPart k.k2.data.toList ++ keyPart k.k3.data.toList
def closed (t : List UInt8) : List UInt8 := 167 :: (t ++ [b8 (1 + sumB t)])
def Kep.img (k : Kep) : List UInt8 := closed k.body

/-- what an answer is -/
def told (st : Int) (p : List UInt8) : List UInt8 := [165, b8 p.length, b8 st] ++ p ++ [b8 (p.length + st + 1 + sumB p)]
end Go.Proofs.YtaokemapkgggoaaDoor

namespace Go.Proofs.YtaokemapkgggoaaDoor
open Go.RowKit

theorem elem32b : ∀ e, Tryd.prog.underlying 24 = some (.array 32 e) → (Tryd.prog.info? e).isSome = true := fun e he => by
  have h := under32b.symm.trans he
  have h5 : (Tryd.prog.info? 5).isSome = true := by kernel_rfl
  rw [← (TypeDesc.array.inj (Option.some.inj h)).2]
  exact h5

set_option maxRecDepth 100000 in
set_option maxHeartbeats 1000000 in
theorem prog_Sum (s : ByteArray) (w : World) (hG : Glob w) (hs : s.size < 1000000) :
    Calls Tryd.prog 13 #[.string s] w fun r w' => r = .returned (.agg (u8s (sumSpec K0 H0 0 s.data.toList)).toArray) ∧ Below w.heap.size w w' := by
  obtain ⟨ov, HO⟩ : ∃ ov, Hid (ov = sumSpec K0 H0 0 s.data.toList) := ⟨_, rfl⟩
  have hol : Hid ((u8s ov).length = 32) := by show _ = _; rw [u8s_length, HO.out]; exact sumSpec_length H0 W8_H0 _ _
  go_enter Tryd.func13, Tryd.ntmps13
  go_wp2_with (first | (refine wpList_allocR rfl 24 rfl 32 (.int .u8 0) arr32b ?_; go_simp) | (refine wpList_load_mid rfl 69 (.global 0) rfl 0 0 rfl (u32s H0) _ (hG.alloc _).range under8w rfl size8w ?_; go_simp) | (go_at_call 34; refine (prog_sum H0 _ _ _ (hG.alloc _) W8_H0 (by omega) (by omega)).mono ?_; rintro _ w1 ⟨rfl, hb1⟩; have a2 : Row w1 w.heap.size (zrow 32 (.int .u8 0)) 24 := (Row.made w _ _).below hb1 (by simp); have aw : Below w.heap.size w w1 := ((Below.refl _ _).alloc (Nat.le_refl _) _).trans (hb1.mono (by simp)); clear hb1; rw [← HO.out]) | (refine wpList_storeR rfl 24 _ _ rfl w.heap.size rfl (u8s ov) rfl 24 (zrow 32 (.int .u8 0)) 32 (.int .u8 0) a2 arr32b hol.out (zrow_length _ _) (u8s_one _) ?_; go_simp))
  refine bodyPost_ret (v := .agg (u8s ov).toArray) (results_row Tryd.results13 _ w.heap.size 24 (u8s ov) 32 (.int .u8 0) rfl (Row.setRow a2 _) arr32b hol.out) rfl ⟨by rw [HO.out], below_setRow aw (Nat.le_refl _) _⟩

theorem fieldOf_B (l : List UInt8) (n : Nat) (h : l.length < 256) : ∀ x ∈ fieldOf n l, isB x := by
  intro x hx
  rcases List.mem_cons.1 hx with rfl | hx
  · unfold isB; omega
  · exact blk_B _ _ x hx
theorem fieldOf_tail (n : Nat) (l : List UInt8) : (fieldOf n l).tail = blk (n - 1) l := rfl
theorem size_list (s : ByteArray) : s.size = s.data.toList.length := by rw [Array.length_toList]; rfl

set_option maxRecDepth 100000 in
set_option maxHeartbeats 1000000 in
theorem prog_Seal_no (s t : ByteArray) (w : World) (hs : ¬ (1 ≤ s.size ∧ s.size ≤ 20)) :
    Calls Tryd.prog 12 #[.string s, .string t] w fun r w' => r = .returned (.tuple #[.agg (zrow 32 (.int .u8 0)).toArray, .int .i64 3]) ∧ Below w.heap.size w w' := by
  rcases Nat.lt_or_ge 20 s.size with h20 | h20
  · go_enter Tryd.func12, Tryd.ntmps12
    go_wp2_with (first | (refine wpList_allocR rfl 24 rfl 32 (.int .u8 0) arr32b ?_; go_simp) | (go_at_call 31; refine (prog_keyOf_no _ _ h20).mono ?_; rintro _ w1 ⟨rfl, hb1⟩; have a2 : Row w1 w.heap.size (zrow 32 (.int .u8 0)) 24 := (Row.made w _ _).below hb1 (by simp); have aw : Below w.heap.size w w1 := ((Below.refl _ _).alloc (Nat.le_refl _) _).trans (hb1.mono (by simp)); clear hb1) | (refine wpList_allocR rfl 63 rfl 21 (.int .u8 0) arr21b ?_; go_simp) | (refine wpList_storeMA rfl 63 _ _ rfl _ rfl rfl (zrow 21 (.int .u8 0)) rfl 63 _ 21 (.int .u8 0) arr21b (zrow_length _ _) (zrow_length _ _) (by rw [zrow_u8]; exact u8s_one _) ?_; intro w3 hr5 hb3; have c2 := a2.below hb3 a2.lt; have cw := aw.trans (hb3.mono (Nat.le_of_lt a2.lt)); go_simp) | (refine wpList_buildZ rfl 24 rfl 32 (.int .u8 0) arr32b elem32b ?_; go_simp) | (refine wpList_storeR rfl 24 _ _ rfl w.heap.size rfl (zrow 32 (.int .u8 0)) rfl 24 (zrow 32 (.int .u8 0)) 32 (.int .u8 0) c2 arr32b (zrow_length _ _) (zrow_length _ _) (by rw [zrow_u8]; exact u8s_one _) ?_; go_simp))
    refine bodyPost_ret (v := .tuple #[.agg (zrow 32 (.int .u8 0)).toArray, .int .i64 3]) (results_row2 Tryd.results12 _ _ w.heap.size 24 (zrow 32 (.int .u8 0)) 32 (.int .u8 0) (.int .i64 3) rfl rfl (Row.setRow c2 _) arr32b (zrow_length _ _)) rfl ⟨rfl, below_setRow cw (Nat.le_refl _) _⟩
  · have hz : s.size = 0 := by omega
    obtain ⟨kf, HK⟩ : ∃ kf, Hid (kf = fieldOf 21 s.data.toList) := ⟨_, rfl⟩
    have hkl : Hid ((u8s kf).length = 21) := by show _ = _; rw [u8s_length, HK.out, fieldOf_length _ _ (by omega)]
    have hk0 : Hid ((u8s kf)[0]? = some (.int .u8 0)) := by show _ = _; rw [HK.out]; show some (Value.int .u8 (s.data.toList.length : Int)) = _; rw [← size_list, hz]; rfl
    go_enter Tryd.func12, Tryd.ntmps12
    go_wp2_with (first | (refine wpList_allocR rfl 24 rfl 32 (.int .u8 0) arr32b ?_; go_simp) | (go_at_call 31; refine (prog_keyOf_yes _ _ h20).mono ?_; rintro _ w1 ⟨rfl, hb1⟩; have a2 : Row w1 w.heap.size (zrow 32 (.int .u8 0)) 24 := (Row.made w _ _).below hb1 (by simp); have aw : Below w.heap.size w w1 := ((Below.refl _ _).alloc (Nat.le_refl _) _).trans (hb1.mono (by simp)); clear hb1; rw [← HK.out]) | (refine wpList_allocR rfl 63 rfl 21 (.int .u8 0) arr21b ?_; go_simp) | (refine wpList_storeMA rfl 63 _ _ rfl _ rfl rfl (u8s kf) rfl 63 _ 21 (.int .u8 0) arr21b hkl.out (zrow_length _ _) (u8s_one _) ?_; intro w3 hr5 hb3; have c2 := a2.below hb3 a2.lt; have cw := aw.trans (hb3.mono (Nat.le_of_lt a2.lt)); go_simp) | (go_at_call 32; refine (prog_none_yes w3 _ 0 (by rw [hr5.cell]; exact hk0.out)).mono ?_; rintro _ _ ⟨rfl, rfl⟩) | (refine wpList_buildZ rfl 24 rfl 32 (.int .u8 0) arr32b elem32b ?_; go_simp) | (refine wpList_storeR rfl 24 _ _ rfl w.heap.size rfl (zrow 32 (.int .u8 0)) rfl 24 (zrow 32 (.int .u8 0)) 32 (.int .u8 0) c2 arr32b (zrow_length _ _) (zrow_length _ _) (by rw [zrow_u8]; exact u8s_one _) ?_; go_simp))
    refine bodyPost_ret (v := .tuple #[.agg (zrow 32 (.int .u8 0)).toArray, .int .i64 3]) (results_row2 Tryd.results12 _ _ w.heap.size 24 (zrow 32 (.int .u8 0)) 32 (.int .u8 0) (.int .i64 3) rfl rfl (Row.setRow c2 _) arr32b (zrow_length _ _)) rfl ⟨rfl, below_setRow cw (Nat.le_refl _) _⟩

set_option maxRecDepth 100000 in
set_option maxHeartbeats 1000000 in
theorem prog_Seal_yes (s t : ByteArray) (w : World) (hG : Glob w) (h1 : 1 ≤ s.size) (h2 : s.size ≤ 20) (ht : t.size < 900000) :
    Calls Tryd.prog 12 #[.string s, .string t] w fun r w' => r = .returned (.tuple #[.agg (u8s (sealSpec (blk 20 s.data.toList) t.data.toList)).toArray, .int .i64 0]) ∧ Below w.heap.size w w' := by
  obtain ⟨kf, HK⟩ : ∃ kf, Hid (kf = fieldOf 21 s.data.toList) := ⟨_, rfl⟩
  have hkl : Hid ((u8s kf).length = 21) := by show _ = _; rw [u8s_length, HK.out, fieldOf_length _ _ (by omega)]
  have hkB : ∀ x ∈ kf, isB x := by rw [HK.out]; exact fieldOf_B _ _ (by rw [← size_list]; omega)
  have hk0 : Hid ((u8s kf)[0]? = some (.int .u8 (s.size : Int))) := by show _ = _; rw [HK.out, size_list]; rfl
  have hkt : Hid (kf.tail = blk 20 s.data.toList) := by show _ = _; rw [HK.out]; rfl
  have hn0 : ¬ (s.size : Int) = 0 := by omega
  obtain ⟨kn, hkn⟩ : ∃ x : Int, Hid (x = (s.size : Int)) := ⟨_, rfl⟩
  rw [← hkn.out] at hn0 hk0
  obtain ⟨ov, HO⟩ : ∃ ov, Hid (ov = sealSpec kf.tail t.data.toList) := ⟨_, rfl⟩
  have hol : Hid ((u8s ov).length = 32) := by show _ = _; rw [u8s_length, HO.out]; exact sumSpec_length _ (blockOn_w8 W8_H0) _ _
  go_enter Tryd.func12, Tryd.ntmps12
  go_wp2_with (first | (refine wpList_allocR rfl 24 rfl 32 (.int .u8 0) arr32b ?_; go_simp) | (go_at_call 31; refine (prog_keyOf_yes _ _ h2).mono ?_; rintro _ w1 ⟨rfl, hb1⟩; have a2 : Row w1 w.heap.size (zrow 32 (.int .u8 0)) 24 := (Row.made w _ _).below hb1 (by simp); have aw : Below w.heap.size w w1 := ((Below.refl _ _).alloc (Nat.le_refl _) _).trans (hb1.mono (by simp)); clear hb1; rw [← HK.out]) | (refine wpList_allocR rfl 63 rfl 21 (.int .u8 0) arr21b ?_; go_simp) | (refine wpList_storeMA rfl 63 _ _ rfl _ rfl rfl (u8s kf) rfl 63 _ 21 (.int .u8 0) arr21b hkl.out (zrow_length _ _) (u8s_one _) ?_; intro w3 hr5 hb3; have c2 := a2.below hb3 a2.lt; have cw := aw.trans (hb3.mono (Nat.le_of_lt a2.lt)); go_simp) | (go_at_call 32; refine (prog_none_no w3 _ 0 _ hn0 (by rw [hr5.cell]; exact hk0.out)).mono ?_; rintro _ _ ⟨rfl, rfl⟩) | (refine wpList_loadR rfl 63 _ rfl w1.heap.size rfl 63 (u8s kf) 21 (.int .u8 0) hr5 arr21b hkl.out ?_; go_simp) | (go_at_call 33; refine (prog_sealBy kf _ _ (hG.below cw (Nat.le_refl _)) (by rw [← u8s_length]; exact hkl.out) hkB ht).mono ?_; rintro _ w4 ⟨rfl, hb4⟩; have d2 := c2.below hb4 c2.lt; have dw := cw.trans (hb4.mono (Nat.le_of_lt c2.lt)); clear hb4; rw [← HO.out]) | (refine wpList_storeR rfl 24 _ _ rfl w.heap.size rfl (u8s ov) rfl 24 (zrow 32 (.int .u8 0)) 32 (.int .u8 0) d2 arr32b hol.out (zrow_length _ _) (u8s_one _) ?_; go_simp))
  refine bodyPost_ret (v := .tuple #[.agg (u8s ov).toArray, .int .i64 0]) (results_row2 Tryd.results12 _ _ w.heap.size 24 (u8s ov) 32 (.int .u8 0) (.int .i64 0) rfl rfl (Row.setRow d2 _) arr32b hol.out) rfl ⟨by rw [HO.out, hkt.out], below_setRow dw (Nat.le_refl _) _⟩

set_option maxRecDepth 100000 in
set_option maxHeartbeats 1000000 in
theorem prog_Code_no (s : ByteArray) (n : Int) (w : World) (hs : ¬ (1 ≤ s.size ∧ s.size ≤ 20)) :
    Calls Tryd.prog 14 #[.string s, .int .i64 n] w fun r w' => r = .returned (.tuple #[.string ⟨#[]⟩, .int .i64 3]) ∧ Below w.heap.size w w' := by
  rcases Nat.lt_or_ge 20 s.size with h20 | h20
  · go_enter Tryd.func14, Tryd.ntmps14
    go_wp2_with (first | (go_at_call 31; refine (prog_keyOf_no _ _ h20).mono ?_; rintro _ w1 ⟨rfl, hb1⟩) | (refine wpList_allocR rfl 63 rfl 21 (.int .u8 0) arr21b ?_; go_simp) | (refine wpList_storeMA rfl 63 _ _ rfl _ rfl rfl (zrow 21 (.int .u8 0)) rfl 63 _ 21 (.int .u8 0) arr21b (zrow_length _ _) (zrow_length _ _) (by rw [zrow_u8]; exact u8s_one _) ?_; intro w3 hr5 hb3; go_simp))
    go_ret2
    exact ⟨rfl, hb1.trans (hb3.mono hb1.size)⟩
  · have hz : s.size = 0 := by omega
    obtain ⟨kf, HK⟩ : ∃ kf, Hid (kf = fieldOf 21 s.data.toList) := ⟨_, rfl⟩
    have hkl : Hid ((u8s kf).length = 21) := by show _ = _; rw [u8s_length, HK.out, fieldOf_length _ _ (by omega)]
    have hk0 : Hid ((u8s kf)[0]? = some (.int .u8 0)) := by show _ = _; rw [HK.out]; show some (Value.int .u8 (s.data.toList.length : Int)) = _; rw [← size_list, hz]; rfl
    go_enter Tryd.func14, Tryd.ntmps14
    go_wp2_with (first | (go_at_call 31; refine (prog_keyOf_yes _ _ h20).mono ?_; rintro _ w1 ⟨rfl, hb1⟩; rw [← HK.out]) | (refine wpList_allocR rfl 63 rfl 21 (.int .u8 0) arr21b ?_; go_simp) | (refine wpList_storeMA rfl 63 _ _ rfl _ rfl rfl (u8s kf) rfl 63 _ 21 (.int .u8 0) arr21b hkl.out (zrow_length _ _) (u8s_one _) ?_; intro w3 hr5 hb3; go_simp) | (go_at_call 32; refine (prog_none_yes w3 _ 0 (by rw [hr5.cell]; exact hk0.out)).mono ?_; rintro _ _ ⟨rfl, rfl⟩))
    go_ret2
    exact ⟨rfl, hb1.trans (hb3.mono hb1.size)⟩

set_option maxRecDepth 100000 in
set_option maxHeartbeats 1000000 in
theorem prog_Code_neg (s : ByteArray) (n : Int) (w : World) (h1 : 1 ≤ s.size) (h2 : s.size ≤ 20) (hn : n < 0) :
    Calls Tryd.prog 14 #[.string s, .int .i64 n] w fun r w' => r = .returned (.tuple #[.string ⟨#[]⟩, .int .i64 3]) ∧ Below w.heap.size w w' := by
  obtain ⟨kf, HK⟩ : ∃ kf, Hid (kf = fieldOf 21 s.data.toList) := ⟨_, rfl⟩
  have hkl : Hid ((u8s kf).length = 21) := by show _ = _; rw [u8s_length, HK.out, fieldOf_length _ _ (by omega)]
  have hk0 : Hid ((u8s kf)[0]? = some (.int .u8 (s.size : Int))) := by show _ = _; rw [HK.out, size_list]; rfl
  have hn0 : ¬ (s.size : Int) = 0 := by omega
  obtain ⟨kn, hkn⟩ : ∃ x : Int, Hid (x = (s.size : Int)) := ⟨_, rfl⟩
  rw [← hkn.out] at hn0 hk0
  go_enter Tryd.func14, Tryd.ntmps14
  go_wp2_with (first | (go_at_call 31; refine (prog_keyOf_yes _ _ h2).mono ?_; rintro _ w1 ⟨rfl, hb1⟩; rw [← HK.out]) | (refine wpList_allocR rfl 63 rfl 21 (.int .u8 0) arr21b ?_; go_simp) | (refine wpList_storeMA rfl 63 _ _ rfl _ rfl rfl (u8s kf) rfl 63 _ 21 (.int .u8 0) arr21b hkl.out (zrow_length _ _) (u8s_one _) ?_; intro w3 hr5 hb3; go_simp) | (go_at_call 32; refine (prog_none_no w3 _ 0 _ hn0 (by rw [hr5.cell]; exact hk0.out)).mono ?_; rintro _ _ ⟨rfl, rfl⟩))
  go_ret2
  exact ⟨rfl, hb1.trans (hb3.mono hb1.size)⟩

theorem keep_callC {w W wx : World} {kb iv : List Int} {g h : Nat} (hb : Below W.heap.size W wx)
    (hh : W.rangeAt g 0 (u8s kb) ∧ W.rangeAt h 0 (u8s iv) ∧ Below w.heap.size w W ∧ g < W.heap.size ∧ h < W.heap.size) :
    wx.rangeAt g 0 (u8s kb) ∧ wx.rangeAt h 0 (u8s iv) ∧ Below w.heap.size w wx ∧ g < wx.heap.size ∧ h < wx.heap.size :=
  ⟨range_below hh.1 hb hh.2.2.2.1, range_below hh.2.1 hb hh.2.2.2.2, hh.2.2.1.trans (hb.mono hh.2.2.1.size), Nat.lt_of_lt_of_le hh.2.2.2.1 hb.size, Nat.lt_of_lt_of_le hh.2.2.2.2 hb.size⟩

set_option maxRecDepth 100000 in
set_option maxHeartbeats 1000000 in
theorem prog_Code_yes (s : ByteArray) (n : Int) (w : World) (hG : Glob w) (h1 : 1 ≤ s.size) (h2 : s.size ≤ 20) (hn : 0 ≤ n) (hn1 : n ≤ 9223372036854775807) :
    Calls Tryd.prog 14 #[.string s, .int .i64 n] w fun r w' => r = .returned (.tuple #[.string (strOfNums (codeSpec (blk 20 s.data.toList) n)), .int .i64 0]) ∧ Below w.heap.size w w' := by
  obtain ⟨kf, HK⟩ : ∃ kf, Hid (kf = fieldOf 21 s.data.toList) := ⟨_, rfl⟩
  have hkl : Hid ((u8s kf).length = 21) := by show _ = _; rw [u8s_length, HK.out, fieldOf_length _ _ (by omega)]
  have hkB : ∀ x ∈ kf, isB x := by rw [HK.out]; exact fieldOf_B _ _ (by rw [← size_list]; omega)
  have hk0 : Hid ((u8s kf)[0]? = some (.int .u8 (s.size : Int))) := by show _ = _; rw [HK.out, size_list]; rfl
  have hkt : Hid (kf.tail = blk 20 s.data.toList) := by show _ = _; rw [HK.out]; rfl
  have hn0 : ¬ (s.size : Int) = 0 := by omega
  obtain ⟨kn, hkn⟩ : ∃ x : Int, Hid (x = (s.size : Int)) := ⟨_, rfl⟩
  rw [← hkn.out] at hn0 hk0
  have hneg : ¬ n < 0 := by omega
  obtain ⟨e8, HE⟩ : ∃ e8, Hid (e8 = eightTo n 8) := ⟨_, rfl⟩
  have he8 : Hid ((u8s e8).length = 8) := by show _ = _; rw [HE.out, u8s_length, eightTo_length]
  go_enter Tryd.func14, Tryd.ntmps14
  go_wp2_with (first | (go_at_call 31; refine (prog_keyOf_yes _ _ h2).mono ?_; rintro _ w1 ⟨rfl, hb1⟩; rw [← HK.out]) | (refine wpList_allocR rfl 63 rfl 21 (.int .u8 0) arr21b ?_; go_simp) | (refine wpList_storeMA rfl 63 _ _ rfl _ rfl rfl (u8s kf) rfl 63 _ 21 (.int .u8 0) arr21b hkl.out (zrow_length _ _) (u8s_one _) ?_; intro w3 hr5 hb3; have cw := hb1.trans (hb3.mono hb1.size); clear hb1 hb3; go_simp) | (go_at_call 32; refine (prog_none_no w3 _ 0 _ hn0 (by rw [hr5.cell]; exact hk0.out)).mono ?_; rintro _ _ ⟨rfl, rfl⟩) | (go_at_call 35; refine (prog_eight _ _ (by omega) (by omega)).mono ?_; rintro _ w4 ⟨rfl, hb4⟩; have d5 := hr5.below hb4 hr5.lt; have dw := cw.trans (hb4.mono cw.size); clear hb4; rw [← HE.out]) | (refine wpList_allocR rfl 71 rfl 8 (.int .u8 0) arr8b ?_; go_simp) | (refine wpList_storeMA rfl 71 _ _ rfl _ rfl rfl (u8s e8) rfl 71 _ 8 (.int .u8 0) arr8b he8.out (zrow_length _ _) (u8s_one _) ?_; intro w6 hr6 hb6; have e5 := d5.below hb6 d5.lt; have ew := dw.trans (hb6.mono dw.size); clear hb6; go_simp))
  have hS0 : w6.drew.rangeAt w1.heap.size 0 (u8s kf) ∧ w6.drew.rangeAt w4.heap.size 0 (u8s e8) ∧ Below w.heap.size w w6.drew ∧ w1.heap.size < w6.drew.heap.size ∧ w4.heap.size < w6.drew.heap.size := ⟨e5.range, hr6.range, ew.drew, e5.lt, hr6.lt⟩
  have hi79 : (Tryd.prog.info? 63).map (·.size) = some (u8s kf).length := by rw [hkl.out]; exact arr21b.size
  have hu79 := under21b
  have hlk : (u8s kf).length = 21 := hkl.out
  have hok := u8s_one kf
  have hconv : ∀ w', w'.rangeAt w4.heap.size 0 (u8s e8) → (convert 28 9 (.slice (some ⟨w4.heap.size, 0, none⟩) 8 8)).run Tryd.prog w' = .ok (.string (strOfNums e8)) w' := fun w' h => run_convR w' _ e8 8 8 (by rw [← u8s_length]; exact he8.out) h
  have hsz : (strOfNums e8).size = 8 := by rw [strOfNums_size, ← u8s_length]; exact he8.out
  clear hr6 e5 ew d5 dw hr5 cw
  go_region_held3 (fun w' => w'.rangeAt w1.heap.size 0 (u8s kf) ∧ w'.rangeAt w4.heap.size 0 (u8s e8) ∧ Below w.heap.size w w' ∧ w1.heap.size < w'.heap.size ∧ w4.heap.size < w'.heap.size) (first | exact hS0 | exact keep_callC hbx (by assumption)) (first | (go_at_call 36; refine (prog_codeBy kf _ _ ?_ (by rw [← u8s_length]; exact hkl.out) hkB (by omega)).mono ?_; (go_split_ands; exact hG.below (by assumption) (Nat.le_refl _)); rintro _ wx ⟨rfl, hbx⟩; rw [toBytes_str]))
  go_wp2
  go_ret2
  refine ⟨?_, (keep_callC hbx hS0).2.2.1⟩
  rw [hkt.out, HE.out]; rfl
end Go.Proofs.YtaokemapkgggoaaDoor
