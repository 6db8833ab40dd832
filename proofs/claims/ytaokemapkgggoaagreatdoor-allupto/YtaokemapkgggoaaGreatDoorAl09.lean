import Derived.Test.YtaokemapkgggoaaGreatDoorAl08
import Derived.BigQuiet
namespace Go.Proofs.YtaokemapkgggoaaGreatDoor
open Go.RowKit

/-- the number that a code is taken out of -/
def refWord (sv : List Int) : Int :=
  word4 (sv.getD (sv.getD 31 0 % 16).toNat 0 % 128) (sv.getD ((sv.getD 31 0 % 16).toNat + 1) 0) (sv.getD ((sv.getD 31 0 % 16).toNat + 2) 0) (sv.getD ((sv.getD 31 0 % 16).toNat + 3) 0)
def digL (x : Int) : Nat → List Int
  | 0 => []
  | i + 1 => (48 + x / 10 ^ i % 10) :: digL x i
theorem digL_length (n : Int) (i : Nat) : (digL n i).length = i := by
  induction i with
  | zero => rfl
  | succ i ih => simp [digL, ih]
theorem dig_one : ∀ d : Nat, d < 10 → (⟨#[48, 49, 50, 51, 52, 53, 54, 55, 56, 57]⟩ : ByteArray).extract d (d + 1) = strOfNums [48 + (d : Int)]
  | 0, _ => rfl
  | 1, _ => rfl
  | 2, _ => rfl
  | 3, _ => rfl
  | 4, _ => rfl
  | 5, _ => rfl
  | 6, _ => rfl
  | 7, _ => rfl
  | 8, _ => rfl
  | 9, _ => rfl
  | _ + 10, h => absurd h (by omega)
theorem dig_str {d : Int} (h0 : 0 ≤ d) (h1 : d < 10) (dl : List Int) : (⟨#[48, 49, 50, 51, 52, 53, 54, 55, 56, 57]⟩ : ByteArray).extract d.toNat (d + 1).toNat ++ strOfNums dl = strOfNums ((48 + d) :: dl) := by
  have h2 : (d + 1).toNat = d.toNat + 1 := by omega
  rw [h2, dig_one d.toNat (by omega), Int.toNat_of_nonneg h0]
  apply ByteArray.ext
  rw [ByteArray.data_append]
  simp [strOfNums]
theorem div10 (n : Int) (i : Nat) : n / 10 ^ i / 10 = n / 10 ^ (i + 1) := by
  rw [Int.ediv_ediv_of_nonneg (Int.pow_nonneg (by omega)), Int.pow_succ]
theorem str_at {sv : List Int} (hb : ∀ x ∈ sv, isB x) {s : ByteArray} (hs : s = strOfNums sv) (i : Nat) (h : i < s.size) : ((s[i]'h).toNat : Int) = sv.getD i 0 := by
  subst hs
  rw [byte_at h]
  have h1 : bytesI (strOfNums sv).data.toList = sv := by
    show (toBytes sv).map (fun b => (b.toNat : Int)) = sv
    rw [toBytes, List.map_map]
    conv => rhs; rw [← List.map_id sv]
    refine List.map_congr_left fun x hx => ?_
    have := hb x hx
    unfold isB at this
    simp only [Function.comp, id]
    rw [UInt8.toNat_ofNat']
    omega
  rw [h1]

set_option maxRecDepth 100000 in
set_option maxHeartbeats 4000000 in
theorem ref_code {spec : List UInt8 → List Int} (hsum : SumSaid spec) (hl : ∀ l, (spec l).length = 32) (hbs : ∀ l, ∀ x ∈ spec l, isB x) (k t : ByteArray) (g : Nat) (w : World) (hS : Summ w g) (ht : t.size < 90000) :
    Calls Tryz.prog 19 #[.pointer (some ⟨g, 0, none⟩), .string k, .string t] w fun r w' => r = .returned (.string (strOfNums (digL (refWord (refSeal spec k.data.toList t.data.toList)) 6))) ∧ Below w.heap.size w w' := by
  obtain ⟨sv, HS⟩ : ∃ sv, Hid (sv = refSeal spec k.data.toList t.data.toList) := ⟨_, rfl⟩
  have hsl : sv.length = 32 := by rw [HS.out]; exact hl _
  have hsb : ∀ x ∈ sv, isB x := by rw [HS.out]; exact hbs _
  obtain ⟨m, HM⟩ : ∃ m, Hid (m = strOfNums sv) := ⟨_, rfl⟩
  have hm : m.size = 32 := by rw [HM.out, strOfNums_size, hsl]
  obtain ⟨X, HX⟩ : ∃ X, Hid (X = refWord sv) := ⟨_, rfl⟩
  rw [← HS.out, ← HX.out]
  have hX := HX.out
  unfold refWord at hX
  have a31 := str_at hsb HM.out 31 (by omega)
  obtain ⟨b0, b1⟩ := getD_isB hsb 31
  obtain ⟨p, HP⟩ : ∃ p : Nat, Hid ((p : Int) = sv.getD 31 0 % 16) := ⟨(sv.getD 31 0 % 16).toNat, by show _ = _; omega⟩
  have hp : p < 16 := by have := HP.out; omega
  rw [← HP.out, Int.toNat_natCast] at hX
  have e0 := str_at hsb HM.out p (by omega)
  have e1 := str_at hsb HM.out (p + 1) (by omega)
  have e2 := str_at hsb HM.out (p + 2) (by omega)
  have e3 := str_at hsb HM.out (p + 3) (by omega)
  obtain ⟨c00, c01⟩ := getD_isB hsb p
  obtain ⟨c10, c11⟩ := getD_isB hsb (p + 1)
  obtain ⟨c20, c21⟩ := getD_isB hsb (p + 2)
  obtain ⟨c30, c31⟩ := getD_isB hsb (p + 3)
  generalize sv.getD 31 0 = y at *
  generalize sv.getD p 0 = y0 at *
  generalize sv.getD (p + 1) 0 = y1 at *
  generalize sv.getD (p + 2) 0 = y2 at *
  generalize sv.getD (p + 3) 0 = y3 at *
  have hX0 : 0 ≤ X := by rw [hX]; unfold word4; omega
  have hX1 : X < 2147483648 := by rw [hX]; unfold word4; omega
  have HX' : Hid (X = word4 (y0 % 128) y1 y2 y3) := hX
  clear hX HX
  have t0 : y.tmod 16 = p := by rw [Int.tmod_eq_emod_of_nonneg b0, HP.out]
  have t1 : y0.tmod 128 = y0 % 128 := Int.tmod_eq_emod_of_nonneg c00
  have hp' : (p : Int) < 16 := by omega
  have n1 : ((p : Int) + 1).toNat = p + 1 := by omega
  have n2 : ((p : Int) + 2).toNat = p + 2 := by omega
  have n3 : ((p : Int) + 3).toNat = p + 3 := by omega
  have m0 : (p : Int) < 32 := by omega
  have m1 : (p : Int) + 1 < 32 := by omega
  have m2 : (p : Int) + 2 < 32 := by omega
  have m3 : (p : Int) + 3 < 32 := by omega
  have l0 : (0 : Int) ≤ p := by omega
  have l1 : (0 : Int) ≤ p + 1 := by omega
  have l2 : (0 : Int) ≤ p + 2 := by omega
  have l3 : (0 : Int) ≤ p + 3 := by omega
  have w0 := wrap_id (p : Int) (by omega) (by omega)
  have w1 := wrap_id ((p : Int) + 1) (by omega) (by omega)
  have w2 := wrap_id ((p : Int) + 2) (by omega) (by omega)
  have w3 := wrap_id ((p : Int) + 3) (by omega) (by omega)
  have v0 := wrap_id (y0 % 128) (by omega) (by omega)
  have v1 := wrap_id y1 (by omega) (by omega)
  have v2 := wrap_id y2 (by omega) (by omega)
  have v3 := wrap_id y3 (by omega) (by omega)
  have j4 := wrap_id ((y0 % 128) * 256) (by omega) (by omega)
  have j5 := wrap_id ((y0 % 128) * 256 + y1) (by omega) (by omega)
  have j6 := wrap_id (((y0 % 128) * 256 + y1) * 256) (by omega) (by omega)
  have j7 := wrap_id (((y0 % 128) * 256 + y1) * 256 + y2) (by omega) (by omega)
  have j8 := wrap_id ((((y0 % 128) * 256 + y1) * 256 + y2) * 256) (by omega) (by omega)
  have j9 := wrap_id ((((y0 % 128) * 256 + y1) * 256 + y2) * 256 + y3) (by omega) (by omega)
  clear HP
  go_enter Tryz.func19, Tryz.ntmps19
  go_wp2_with fail
  refine (ref_seal hsum hl k t g _ hS ht).mono ?_
  rintro _ wz ⟨rfl, hB⟩
  rw [← HS.out, ← HM.out]
  clear HS HM hS hsl hsb
  go_wp2
  go_quiet (fail)
  rw [show (((y0 % 128) * 256 + y1) * 256 + y2) * 256 + y3 = X from HX'.out.symm]
  clear a31 e0 e1 e2 e3 t0 t1 n1 n2 n3 w0 w1 w2 w3 v0 v1 v2 v3 j4 j5 j6 j7 j8 j9 m0 m1 m2 m3 l0 l1 l2 l3
  have hB1 : Below w.heap.size w (wz.drewN nq) := ⟨hB.os, hB.tape, hB.output, hB.size, hB.block⟩
  generalize wz.drewN nq = wy at *
  clear hB c00 c01 c10 c11 c20 c21 c30 c31 b0 b1 hp hp' hm
  go_wp2
  go_loopw [9, 10, 11] (fun xv ov c wr => ∃ i : Nat, i ≤ 6 ∧ c = .int .i64 i ∧ xv = .int .i64 (X / 10 ^ i) ∧ ov = .string (strOfNums (digL X i)) ∧ Below w.heap.size w wr) (fun _ _ c _ => 6 - (intOf c).toNat)
  case atStart => exact ⟨0, by omega, rfl, by simp, rfl, hB1⟩
  case round =>
    obtain ⟨i, hi, rfl, rfl, rfl, hB⟩ := hrel
    by_cases hlt : i < 6
    · have hq0 : 0 ≤ X / 10 ^ i := Int.ediv_nonneg hX0 (Int.pow_nonneg (by omega))
      have hq1 : X / 10 ^ i ≤ X := Int.ediv_le_self _ hX0
      have HD : Hid _ := div10 X i
      have HE : Hid (digL X (i + 1) = (48 + X / 10 ^ i % 10) :: digL X i) := rfl
      obtain ⟨dl, HDl⟩ : ∃ dl, Hid (dl = digL X i) := ⟨_, rfl⟩
      rw [← HDl.out] at HE
      rw [← HDl.out]
      generalize X / 10 ^ i = q at *
      have t1 : q.tmod 10 = q % 10 := Int.tmod_eq_emod_of_nonneg hq0
      have t2 : q.tdiv 10 = q / 10 := Int.tdiv_eq_ediv_of_nonneg hq0
      have z2 : (strOfNums dl).size = i := by rw [strOfNums_size, HDl.out, digL_length]
      have d0 : 0 ≤ q % 10 := by omega
      have d1 : q % 10 < 10 := by omega
      have d2 : q % 10 + 1 ≤ 10 := by omega
      have d3 : 0 ≤ q % 10 + 1 := by omega
      go_wp2
      refine ⟨⟨i + 1, by omega, by go_num, by rw [HD.out], ?_, hB⟩, by simp [intOf]; omega⟩
      rw [HE.out, dig_str d0 d1]
    · have hi6 : i = 6 := by omega
      have e6 : Hid (digL X i = digL X 6) := by show _ = _; rw [hi6]
      rw [e6.out]
      clear hi6
      go_wp2
      go_ret
      exact ⟨rfl, hB⟩
end Go.Proofs.YtaokemapkgggoaaGreatDoor

namespace Go.Proofs.YtaokemapkgggoaaGreatDoor
open Go.RowKit

/-- how many bytes 0 stand behind the 80 -/
def padN (n : Nat) : Nat := (119 - n % 64) % 64
/-- the bytes that are turned: those that came, 80, bytes 0, the number of bits -/
def padG (n : Int) (l : List UInt8) : List UInt8 := l ++ (128 :: List.replicate (padN l.length) 0) ++ toBytes (eightTo n 8)
def padded (l : List UInt8) : List UInt8 := l ++ (128 :: List.replicate (padN l.length) 0) ++ toBytes (eightTo (8 * l.length) 8)
def sumSpecRef (l : List UInt8) : List Int := (foldB K0 H0 (padded l) ((padded l).length / 64)).flatMap four

theorem blk_append {n : Nat} {l : List UInt8} (m : List UInt8) (h : n ≤ l.length) : blk n (l ++ m) = blk n l := by
  unfold blk
  rw [List.take_append_of_le_length h]
theorem foldB_append {K h : List Int} {l : List UInt8} (m : List UInt8) : ∀ k, 64 * k ≤ l.length → foldB K h (l ++ m) k = foldB K h l k
  | 0, _ => rfl
  | k + 1, hk => by
    show blockOn K (foldB K h (l ++ m) k) _ = blockOn K (foldB K h l k) _
    rw [foldB_append m k (by omega), List.drop_append_of_le_length (by omega), blk_append _ (by rw [List.length_drop]; omega)]
theorem foldB_split {K h : List Int} {a : List UInt8} (b : List UInt8) (q : Nat) (ha : a.length = 64 * q) : ∀ k, foldB K h (a ++ b) (q + k) = foldB K (foldB K h a q) b k
  | 0 => foldB_append b q (by omega)
  | k + 1 => by
    show blockOn K (foldB K h (a ++ b) (q + k)) (blk 64 ((a ++ b).drop (64 * (q + k)))) = blockOn K (foldB K (foldB K h a q) b k) (blk 64 (b.drop (64 * k)))
    rw [foldB_split b q ha k, show 64 * (q + k) = a.length + 64 * k by omega, List.drop_append, List.drop_eq_nil_of_le (by omega), List.nil_append, Nat.add_sub_cancel_left]
theorem foldB_take {K h : List Int} (l : List UInt8) (q : Nat) (hq : 64 * q ≤ l.length) : foldB K h (l.take (64 * q)) q = foldB K h l q := by
  conv => rhs; rw [← List.take_append_drop (64 * q) l]
  rw [foldB_append _ q (by rw [List.length_take]; omega)]
theorem blk_whole {n : Nat} {l : List UInt8} (h : l.length = n) : blk n l = bytesI l := by
  unfold blk
  rw [List.take_of_length_le (by omega), h, Nat.sub_self]
  simp
theorem bytesI_toBytes {xs : List Int} (h : ∀ x ∈ xs, isB x) : bytesI (toBytes xs) = xs := by
  rw [bytesI, toBytes, List.map_map]
  conv => rhs; rw [← List.map_id xs]
  refine List.map_congr_left fun x hx => ?_
  have := h x hx
  unfold isB at this
  simp only [Function.comp, id]
  rw [UInt8.toNat_ofNat']
  omega
theorem bytesI_append (a b : List UInt8) : bytesI (a ++ b) = bytesI a ++ bytesI b := by simp [bytesI]
theorem toBytes_length (xs : List Int) : (toBytes xs).length = xs.length := by simp [toBytes]
theorem bytesI_length (l : List UInt8) : (bytesI l).length = l.length := by simp [bytesI]
theorem marked_eq {r : List UInt8} (h : r.length < 64) : marked r = bytesI r ++ (128 :: List.replicate (63 - r.length) 0) := by
  unfold marked blk
  rw [List.take_of_length_le (by omega), List.set_append_right _ _ (by rw [bytesI_length]; omega), bytesI_length, Nat.sub_self, show 64 - r.length = (63 - r.length) + 1 by omega, List.replicate_succ, List.set_cons_zero]
theorem bytesI_zeros (n : Nat) : bytesI (List.replicate n 0) = List.replicate n 0 := by simp [bytesI]

theorem tail_eq (K h : List Int) (n : Int) (r : List UInt8) (hr : r.length < 64) : foldB K h (padG n r) ((padG n r).length / 64) = tailOn K h r n := by
  have he : (toBytes (eightTo n 8)).length = 8 := by rw [toBytes_length, eightTo_length]
  have hlen : (padG n r).length = r.length + 1 + padN r.length + 8 := by
    unfold padG
    rw [List.length_append, List.length_append, List.length_cons, List.length_replicate, he]
    omega
  unfold tailOn
  by_cases h56 : 56 ≤ r.length
  · have hp : padN r.length = (63 - r.length) + 56 := by unfold padN; omega
    rw [if_pos h56, hlen, hp, show (r.length + 1 + (63 - r.length + 56) + 8) / 64 = 1 + 1 by omega]
    have hs : padG n r = (r ++ (128 :: List.replicate (63 - r.length) 0)) ++ (List.replicate 56 0 ++ toBytes (eightTo n 8)) := by
      unfold padG
      rw [hp, ← List.replicate_append_replicate]
      simp
    rw [hs, foldB_split _ 1 (by simp; omega) 1]
    show blockOn K (blockOn K h (blk 64 (List.drop 0 _))) (blk 64 (List.drop 0 _)) = _
    rw [List.drop_zero, List.drop_zero, blk_whole (by simp; omega), blk_whole (by simp [he]), marked_eq hr, bytesI_append, bytesI_append, bytesI_zeros, bytesI_toBytes (eightTo_B n 8)]
    congr 3
    show _ :: bytesI _ = _
    rw [bytesI_zeros]
    rfl
  · have hp : padN r.length = 55 - r.length := by unfold padN; omega
    rw [if_neg h56, hlen, hp, show (r.length + 1 + (55 - r.length) + 8) / 64 = 1 by omega]
    show blockOn K h (blk 64 (List.drop 0 _)) = _
    rw [List.drop_zero, blk_whole (by rw [hlen, hp]; omega), marked_eq hr]
    congr 1
    unfold padG
    rw [bytesI_append, bytesI_append, bytesI_toBytes (eightTo_B n 8), hp]
    congr 1
    rw [List.take_append, List.take_of_length_le (by rw [bytesI_length]; omega), bytesI_length, show 56 - r.length = (55 - r.length) + 1 by omega, List.take_succ_cons, List.take_replicate, show min (55 - r.length) (63 - r.length) = 55 - r.length by omega]
    congr 1
    show _ :: bytesI _ = _
    rw [bytesI_zeros]
    rfl

theorem padG_tail (n : Int) (l : List UInt8) : padG n l = l.take (64 * (l.length / 64)) ++ padG n (l.drop (64 * (l.length / 64))) := by
  have h1 : padN (l.drop (64 * (l.length / 64))).length = padN l.length := by
    rw [List.length_drop]
    unfold padN
    rw [show (l.length - 64 * (l.length / 64)) % 64 = l.length % 64 by omega]
  unfold padG
  rw [h1, ← List.append_assoc, ← List.append_assoc, List.take_append_drop]
theorem sum_eq (h : List Int) (n : Int) (l : List UInt8) : foldB K0 h (padG n l) ((padG n l).length / 64) = tailOn K0 (foldB K0 h l (l.length / 64)) (l.drop (64 * (l.length / 64))) n := by
  have hq : 64 * (l.length / 64) ≤ l.length := Nat.mul_div_le _ _
  have ht : (l.take (64 * (l.length / 64))).length = 64 * (l.length / 64) := by rw [List.length_take]; omega
  rw [← tail_eq K0 (foldB K0 h l (l.length / 64)) n (l.drop (64 * (l.length / 64))) (by rw [List.length_drop]; omega)]
  rw [padG_tail, List.length_append, ht, Nat.mul_add_div (by omega), foldB_split _ _ ht, foldB_take _ _ hq]
theorem sumSpecRef_eq (l : List UInt8) : sumSpecRef l = sumSpec K0 H0 0 l := by
  unfold sumSpecRef sumSpec
  have h := sum_eq H0 (8 * l.length) l
  unfold padG at h
  unfold padded
  rw [h, show (8 * (l.length : Int)) = (0 + l.length) * 8 by omega]
theorem foldB_one (K h : List Int) {b : List Int} (hb : b.length = 64) (hB : ∀ x ∈ b, isB x) : foldB K h (toBytes b) 1 = blockOn K h b := by
  show blockOn K h (blk 64 (List.drop 0 _)) = _
  rw [List.drop_zero, blk_whole (by rw [toBytes_length, hb]), bytesI_toBytes hB]
theorem sumSpecRef_behind {b : List Int} (hb : b.length = 64) (hB : ∀ x ∈ b, isB x) (l : List UInt8) : sumSpecRef (toBytes b ++ l) = sumSpec K0 (blockOn K0 H0 b) 64 l := by
  have hl : (toBytes b).length = 64 * 1 := by rw [toBytes_length, hb]
  have hp : padded (toBytes b ++ l) = toBytes b ++ padG ((64 + l.length) * 8) l := by
    unfold padded padG
    rw [List.length_append, hl, show padN (64 * 1 + l.length) = padN l.length by unfold padN; omega, show (8 * ((64 * 1 + l.length : Nat) : Int)) = (64 + l.length) * 8 by omega]
    simp
  unfold sumSpecRef sumSpec
  rw [hp, List.length_append, hl, Nat.mul_add_div (by omega), foldB_split _ 1 hl, sum_eq]
  rw [foldB_one _ _ hb hB]

theorem sumRef_length (l : List UInt8) : (sumSpecRef l).length = 32 := by rw [sumSpecRef_eq]; exact sumSpec_length H0 W8_H0 _ _
theorem sumRef_B (l : List UInt8) : ∀ x ∈ sumSpecRef l, isB x := by rw [sumSpecRef_eq]; exact sumSpec_B H0 W8_H0 _ _
theorem refSeal_eq {k : List UInt8} (hk : k.length ≤ 20) (t : List UInt8) : refSeal sumSpecRef k t = sealSpec (blk 20 k) t := by
  have hm : ∀ m : Int, isB m → ∀ x ∈ maskK (blk 20 k) m, isB x := fun m h => maskK_B (blk_B _ _) h
  have hl : ∀ m : Int, (maskK (blk 20 k) m).length = 64 := fun m => by simp [maskK, blk_length]
  unfold refSeal sealSpec innerSpec
  rw [refMask_eq k 54 hk, refMask_eq k 92 hk, sumSpecRef_behind (hl _) (hm _ (by unfold isB; omega)), sumSpecRef_behind (hl _) (hm _ (by unfold isB; omega))]
theorem eightL_eq (n : Int) : eightL n 8 = eightTo n 8 := by
  simp [eightL, eightTo, List.range, List.range.loop]
theorem digL_eq (x : Int) : digL x 6 = digTo (x % 1000000) 6 := by
  simp only [digL, digTo, List.range, List.range.loop, List.map]
  simp
  omega
theorem refCode_eq {k : List UInt8} (hk : k.length ≤ 20) (n : Int) : digL (refWord (refSeal sumSpecRef k (toBytes (eightL n 8)))) 6 = codeSpec (blk 20 k) n := by
  rw [refSeal_eq hk, eightL_eq, digL_eq]
  rfl
end Go.Proofs.YtaokemapkgggoaaGreatDoor

/-
  The device, as plain functions on lists of bytes: images, frames, answers, commands.
-/
namespace Go.Proofs.YtaokemapkgggoaaGreatDoor
open Go.RowKit

/-- a text of some bytes -/
def str (l : List UInt8) : ByteArray := ⟨l.toArray⟩
theorem str_list (l : List UInt8) : (str l).data.toList = l := by simp [str]
theorem list_str (s : ByteArray) : str s.data.toList = s := by apply ByteArray.ext; simp [str]
theorem str_size (l : List UInt8) : (str l).size = l.length := by rw [size_list', str_list]
  where size_list' (s : ByteArray) : s.size = s.data.toList.length := by rw [Array.length_toList]; rfl
theorem str_append (a b : List UInt8) : str a ++ str b = str (a ++ b) := by
  apply ByteArray.ext; rw [ByteArray.data_append]; simp [str]
theorem strOfNums_str (xs : List Int) : strOfNums xs = str (toBytes xs) := rfl
theorem ret_bytes {a b : ByteArray} (h : a = b) : Ending.returned (.string a) = .returned (.string b) := by rw [h]

/-- a number as a byte -/
def b8 (x : Int) : UInt8 := UInt8.ofNat (x % 256).toNat
theorem b8_toNat (x : Int) : ((b8 x).toNat : Int) = x % 256 := by
  have h : (x % 256).toNat < 256 := by omega
  simp only [b8, UInt8.toNat_ofNat']
  rw [Nat.mod_eq_of_lt (by simpa using h)]
  omega
theorem b8_of (b : UInt8) : b8 (b.toNat : Int) = b := by
  apply UInt8.toNat_inj.1
  have h := b8_toNat (b.toNat : Int)
  have hb := b.toNat_lt
  omega
theorem b8_mod (x : Int) : b8 (x % 256) = b8 x := by unfold b8; rw [Int.emod_emod_of_dvd x (by decide)]
theorem toBytes_b8 {x : Int} (h : 0 ≤ x) (h1 : x < 256) : UInt8.ofNat x.toNat = b8 x := by
  unfold b8; rw [show x % 256 = x by omega]

/-- the sum of some bytes -/
def sumB : List UInt8 → Int
  | [] => 0
  | b :: l => b.toNat + sumB l
theorem sumB_append (a b : List UInt8) : sumB (a ++ b) = sumB a + sumB b := by
  induction a with
  | nil => simp [sumB]
  | cons x a ih => simp only [List.cons_append, sumB, ih]; omega
theorem sumB_nonneg (l : List UInt8) : 0 ≤ sumB l := by
  induction l with
  | nil => simp [sumB]
  | cons x a ih => simp only [sumB]; omega
theorem sumB_le (l : List UInt8) : sumB l ≤ 255 * l.length := by
  induction l with
  | nil => simp [sumB]
  | cons x a ih => simp only [sumB, List.length_cons]; have := x.toNat_lt; omega
theorem sumB_take_succ (l : List UInt8) (i : Nat) (h : i < l.length) : sumB (l.take (i + 1)) = sumB (l.take i) + (bytesI l).getD i 0 := by
  rw [List.take_succ_eq_append_getElem h, sumB_append]
  simp [sumB, bytesI, List.getD, h]

/-- a text with bytes 0 up to a length -/
def padTo (n : Nat) (l : List UInt8) : List UInt8 := l ++ List.replicate (n - l.length) 0
theorem padTo_length (n : Nat) (l : List UInt8) (h : l.length ≤ n) : (padTo n l).length = n := by simp [padTo]; omega

/-- an image: its number, tries, PIN, keys -/
structure Kep where
  num : Int
  tries : Int
  pin : ByteArray
  k0 : ByteArray
  k1 : ByteArray
  k2 : ByteArray
  k3 : ByteArray

def keyPart (k : List UInt8) : List UInt8 := b8 k.length :: padTo 20 k
/-- the bytes of an image between the mark and the sum, whatever stands in it -/
def Kep.head (k : Kep) : List UInt8 :=
  [b8 (k.num.tdiv 16777216), b8 ((k.num.tdiv 65536).tmod 256), b8 ((k.num.tdiv 256).tmod 256), b8 (k.num.tmod 256), b8 k.tries, b8 k.pin.size] ++ padTo 8 k.pin.data.toList
def Kep.body (k : Kep) : List UInt8 := k.head ++ keyPart k.k0.data.toList ++ keyPart k.k1.data.toList ++ keyPart k.k2.data.toList ++ keyPart k.k3.data.toList
def closed (t : List UInt8) : List UInt8 := 167 :: (t ++ [b8 (1 + sumB t)])
def Kep.img (k : Kep) : List UInt8 := closed k.body

/-- what an answer is -/
def told (st : Int) (p : List UInt8) : List UInt8 := [165, b8 p.length, b8 st] ++ p ++ [b8 (p.length + st + 1 + sumB p)]
end Go.Proofs.YtaokemapkgggoaaGreatDoor
