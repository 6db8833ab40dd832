import Derived.Test.YtaokemapkgggoaaGreatDoorRefCode
import Derived.Test.YtaokemapkgggoaaGreatDoorProgCodeBy
namespace Go.Proofs.YtaokemapkgggoaaGreatDoor
open Go.RowKit

/-- how many bytes 0 stand behind the 80 -/
def padN (n : Nat) : Nat := (119 - n % 64) % 64
/-- the bytes that are turned: those that came, 80, bytes 0, the number of bits -/
def padG (n : Int) (l : List UInt8) : List UInt8 := l ++ (128 :: List.replicate (padN l.length) 0) ++ toBytes (eightTo n 8)
def padded (l : List UInt8) : List UInt8 := l ++ (128 :: List.replicate (padN l.length) 0) ++ toBytes (eightTo (8 * l.length) 8)
def sumSpecRef (l : List UInt8) : List Int := (foldB K0 H0 (padded l) ((padded l).length / 64)).flatMap four

theorem blk_append {n : Nat} {l : List UInt8} (m : List UInt8) (h : n ≤ l.length) : blk n (l ++ m) = blk n l := by
  unfold blk
  rw [List.take_append_of_le_length h]
theorem foldB_append {K h : List Int} {l : List UInt8} (m : List UInt8) : ∀ k, 64 * k ≤ l.length → foldB K h (l ++ m) k = foldB K h l k
  | 0, _ => rfl
  | k + 1, hk => by
    show blockOn K (foldB K h (l ++ m) k) _ = blockOn K (foldB K h l k) _
    rw [foldB_append m k (by omega), List.drop_append_of_le_length (by omega), blk_append _ (by rw [List.length_drop]; omega)]
theorem foldB_split {K h : List Int} {a : List UInt8} (b : List UInt8) (q : Nat) (ha : a.length = 64 * q) : ∀ k, foldB K h (a ++ b) (q + k) = foldB K (foldB K h a q) b k
  | 0 => foldB_append b q (by omega)
  | k + 1 => by
    show blockOn K (foldB K h (a ++ b) (q + k)) (blk 64 ((a ++ b).drop (64 * (q + k)))) = blockOn K (foldB K (foldB K h a q) b k) (blk 64 (b.drop (64 * k)))
    rw [foldB_split b q ha k, show 64 * (q + k) = a.length + 64 * k by omega, List.drop_append, List.drop_eq_nil_of_le (by omega), List.nil_append, Nat.add_sub_cancel_left]
theorem foldB_take {K h : List Int} (l : List UInt8) (q : Nat) (hq : 64 * q ≤ l.length) : foldB K h (l.take (64 * q)) q = foldB K h l q := by
  conv => rhs; rw [← List.take_append_drop (64 * q) l]
  rw [foldB_append _ q (by rw [List.length_take]; omega)]
theorem blk_whole {n : Nat} {l : List UInt8} (h : l.length = n) : blk n l = bytesI l := by
  unfold blk
  rw [List.take_of_length_le (by omega), h, Nat.sub_self]
  simp
theorem bytesI_toBytes {xs : List Int} (h : ∀ x ∈ xs, isB x) : bytesI (toBytes xs) = xs := by
  rw [bytesI, toBytes, List.map_map]
  conv => rhs; rw [← List.map_id xs]
  refine List.map_congr_left fun x hx => ?_
  have := h x hx
  unfold isB at this
  simp only [Function.comp, id]
  rw [UInt8.toNat_ofNat']
  omega
theorem bytesI_append (a b : List UInt8) : bytesI (a ++ b) = bytesI a ++ bytesI b := by simp [bytesI]
theorem toBytes_length (xs : List Int) : (toBytes xs).length = xs.length := by simp [toBytes]
theorem bytesI_length (l : List UInt8) : (bytesI l).length = l.length := by simp [bytesI]
theorem marked_eq {r : List UInt8} (h : r.length < 64) : marked r = bytesI r ++ (128 :: List.replicate (63 - r.length) 0) := by
  unfold marked blk
  rw [List.take_of_length_le (by omega), List.set_append_right _ _ (by rw [bytesI_length]; omega), bytesI_length, Nat.sub_self, show 64 - r.length = (63 - r.length) + 1 by omega, List.replicate_succ, List.set_cons_zero]
theorem bytesI_zeros (n : Nat) : bytesI (List.replicate n 0) = List.replicate n 0 := by simp [bytesI]

theorem tail_eq (K h : List Int) (n : Int) (r : List UInt8) (hr : r.length < 64) : foldB K h (padG n r) ((padG n r).length / 64) = tailOn K h r n := by
  have he : (toBytes (eightTo n 8)).length = 8 := by rw [toBytes_length, eightTo_length]
  have hlen : (padG n r).length = r.length + 1 + padN r.length + 8 := by
    unfold padG
    rw [List.length_append, List.length_append, List.length_cons, List.length_replicate, he]
    omega
  unfold tailOn
  by_cases h56 : 56 ≤ r.length
  · have hp : padN r.length = (63 - r.length) + 56 := by unfold padN; omega
    rw [if_pos h56, hlen, hp, show (r.length + 1 + (63 - r.length + 56) + 8) / 64 = 1 + 1 by omega]
    have hs : padG n r = (r ++ (128 :: List.replicate (63 - r.length) 0)) ++ (List.replicate 56 0 ++ toBytes (eightTo n 8)) := by
      unfold padG
      rw [hp, ← List.replicate_append_replicate]
      simp
    rw [hs, foldB_split _ 1 (by simp; omega) 1]
    show blockOn K (blockOn K h (blk 64 (List.drop 0 _))) (blk 64 (List.drop 0 _)) = _
    rw [List.drop_zero, List.drop_zero, blk_whole (by simp; omega), blk_whole (by simp [he]), marked_eq hr, bytesI_append, bytesI_append, bytesI_zeros, bytesI_toBytes (eightTo_B n 8)]
    congr 3
    show _ :: bytesI _ = _
    rw [bytesI_zeros]
    rfl
  · have hp : padN r.length = 55 - r.length := by unfold padN; omega
    rw [if_neg h56, hlen, hp, show (r.length + 1 + (55 - r.length) + 8) / 64 = 1 by omega]
    show blockOn K h (blk 64 (List.drop 0 _)) = _
    rw [List.drop_zero, blk_whole (by rw [hlen, hp]; omega), marked_eq hr]
    congr 1
    unfold padG
    rw [bytesI_append, bytesI_append, bytesI_toBytes (eightTo_B n 8), hp]
    congr 1
    rw [List.take_append, List.take_of_length_le (by rw [bytesI_length]; omega), bytesI_length, show 56 - r.length = (55 - r.length) + 1 by omega, List.take_succ_cons, List.take_replicate, show min (55 - r.length) (63 - r.length) = 55 - r.length by omega]
    congr 1
    show _ :: bytesI _ = _
    rw [bytesI_zeros]
    rfl

theorem padG_tail (n : Int) (l : List UInt8) : padG n l = l.take (64 * (l.length / 64)) ++ padG n (l.drop (64 * (l.length / 64))) := by
  have h1 : padN (l.drop (64 * (l.length / 64))).length = padN l.length := by
    rw [List.length_drop]
    unfold padN
    rw [show (l.length - 64 * (l.length / 64)) % 64 = l.length % 64 by omega]
  unfold padG
  rw [h1, ← List.append_assoc, ← List.append_assoc, List.take_append_drop]
theorem sum_eq (h : List Int) (n : Int) (l : List UInt8) : foldB K0 h (padG n l) ((padG n l).length / 64) = tailOn K0 (foldB K0 h l (l.length / 64)) (l.drop (64 * (l.length / 64))) n := by
  have hq : 64 * (l.length / 64) ≤ l.length := Nat.mul_div_le _ _
  have ht : (l.take (64 * (l.length / 64))).length = 64 * (l.length / 64) := by rw [List.length_take]; omega
  rw [← tail_eq K0 (foldB K0 h l (l.length / 64)) n (l.drop (64 * (l.length / 64))) (by rw [List.length_drop]; omega)]
  rw [padG_tail, List.length_append, ht, Nat.mul_add_div (by omega), foldB_split _ _ ht, foldB_take _ _ hq]
theorem sumSpecRef_eq (l : List UInt8) : sumSpecRef l = sumSpec K0 H0 0 l := by
  unfold sumSpecRef sumSpec
  have h := sum_eq H0 (8 * l.length) l
  unfold padG at h
  unfold padded
  rw [h, show (8 * (l.length : Int)) = (0 + l.length) * 8 by omega]
theorem foldB_one (K h : List Int) {b : List Int} (hb : b.length = 64) (hB : ∀ x ∈ b, isB x) : foldB K h (toBytes b) 1 = blockOn K h b := by
  show blockOn K h (blk 64 (List.drop 0 _)) = _
  rw [List.drop_zero, blk_whole (by rw [toBytes_length, hb]), bytesI_toBytes hB]
theorem sumSpecRef_behind {b : List Int} (hb : b.length = 64) (hB : ∀ x ∈ b, isB x) (l : List UInt8) : sumSpecRef (toBytes b ++ l) = sumSpec K0 (blockOn K0 H0 b) 64 l := by
  have hl : (toBytes b).length = 64 * 1 := by rw [toBytes_length, hb]
  have hp : padded (toBytes b ++ l) = toBytes b ++ padG ((64 + l.length) * 8) l := by
    unfold padded padG
    rw [List.length_append, hl, show padN (64 * 1 + l.length) = padN l.length by unfold padN; omega, show (8 * ((64 * 1 + l.length : Nat) : Int)) = (64 + l.length) * 8 by omega]
    simp
  unfold sumSpecRef sumSpec
  rw [hp, List.length_append, hl, Nat.mul_add_div (by omega), foldB_split _ 1 hl, sum_eq]
  rw [foldB_one _ _ hb hB]

theorem sumRef_length (l : List UInt8) : (sumSpecRef l).length = 32 := by rw [sumSpecRef_eq]; exact sumSpec_length H0 W8_H0 _ _
theorem sumRef_B (l : List UInt8) : ∀ x ∈ sumSpecRef l, isB x := by rw [sumSpecRef_eq]; exact sumSpec_B H0 W8_H0 _ _
theorem refSeal_eq {k : List UInt8} (hk : k.length ≤ 20) (t : List UInt8) : refSeal sumSpecRef k t = sealSpec (blk 20 k) t := by
  have hm : ∀ m : Int, isB m → ∀ x ∈ maskK (blk 20 k) m, isB x := fun m h => maskK_B (blk_B _ _) h
  have hl : ∀ m : Int, (maskK (blk 20 k) m).length = 64 := fun m => by simp [maskK, blk_length]
  unfold refSeal sealSpec innerSpec
  rw [refMask_eq k 54 hk, refMask_eq k 92 hk, sumSpecRef_behind (hl _) (hm _ (by unfold isB; omega)), sumSpecRef_behind (hl _) (hm _ (by unfold isB; omega))]
theorem eightL_eq (n : Int) : eightL n 8 = eightTo n 8 := by
  simp [eightL, eightTo, List.range, List.range.loop]
theorem digL_eq (x : Int) : digL x 6 = digTo (x % 1000000) 6 := by
  simp only [digL, digTo, List.range, List.range.loop, List.map]
  simp
  omega
theorem refCode_eq {k : List UInt8} (hk : k.length ≤ 20) (n : Int) : digL (refWord (refSeal sumSpecRef k (toBytes (eightL n 8)))) 6 = codeSpec (blk 20 k) n := by
  rw [refSeal_eq hk, eightL_eq, digL_eq]
  rfl
end Go.Proofs.YtaokemapkgggoaaGreatDoor
