import Derived.Test.YtaokemapkgggoaaGreatDoorRefSeal
import Derived.BigQuiet
namespace Go.Proofs.YtaokemapkgggoaaGreatDoor
open Go.RowKit

/-- the number that a code is taken out of -/
def refWord (sv : List Int) : Int :=
  word4 (sv.getD (sv.getD 31 0 % 16).toNat 0 % 128) (sv.getD ((sv.getD 31 0 % 16).toNat + 1) 0) (sv.getD ((sv.getD 31 0 % 16).toNat + 2) 0) (sv.getD ((sv.getD 31 0 % 16).toNat + 3) 0)
def digL (x : Int) : Nat → List Int
  | 0 => []
  | i + 1 => (48 + x / 10 ^ i % 10) :: digL x i
theorem digL_length (n : Int) (i : Nat) : (digL n i).length = i := by
  induction i with
  | zero => rfl
  | succ i ih => simp [digL, ih]
theorem dig_one : ∀ d : Nat, d < 10 → (⟨#[48, 49, 50, 51, 52, 53, 54, 55, 56, 57]⟩ : ByteArray).extract d (d + 1) = strOfNums [48 + (d : Int)]
  | 0, _ => rfl
  | 1, _ => rfl
  | 2, _ => rfl
  | 3, _ => rfl
  | 4, _ => rfl
  | 5, _ => rfl
  | 6, _ => rfl
  | 7, _ => rfl
  | 8, _ => rfl
  | 9, _ => rfl
  | _ + 10, h => absurd h (by omega)
theorem dig_str {d : Int} (h0 : 0 ≤ d) (h1 : d < 10) (dl : List Int) : (⟨#[48, 49, 50, 51, 52, 53, 54, 55, 56, 57]⟩ : ByteArray).extract d.toNat (d + 1).toNat ++ strOfNums dl = strOfNums ((48 + d) :: dl) := by
  have h2 : (d + 1).toNat = d.toNat + 1 := by omega
  rw [h2, dig_one d.toNat (by omega), Int.toNat_of_nonneg h0]
  apply ByteArray.ext
  rw [ByteArray.data_append]
  simp [strOfNums]
theorem div10 (n : Int) (i : Nat) : n / 10 ^ i / 10 = n / 10 ^ (i + 1) := by
  rw [Int.ediv_ediv_of_nonneg (Int.pow_nonneg (by omega)), Int.pow_succ]
theorem str_at {sv : List Int} (hb : ∀ x ∈ sv, isB x) {s : ByteArray} (hs : s = strOfNums sv) (i : Nat) (h : i < s.size) : ((s[i]'h).toNat : Int) = sv.getD i 0 := by
  subst hs
  rw [byte_at h]
  have h1 : bytesI (strOfNums sv).data.toList = sv := by
    show (toBytes sv).map (fun b => (b.toNat : Int)) = sv
    rw [toBytes, List.map_map]
    conv => rhs; rw [← List.map_id sv]
    refine List.map_congr_left fun x hx => ?_
    have := hb x hx
    unfold isB at this
    simp only [Function.comp, id]
    rw [UInt8.toNat_ofNat']
    omega
  rw [h1]

set_option maxRecDepth 100000 in
set_option maxHeartbeats 4000000 in
theorem ref_code {spec : List UInt8 → List Int} (hsum : SumSaid spec) (hl : ∀ l, (spec l).length = 32) (hbs : ∀ l, ∀ x ∈ spec l, isB x) (k t : ByteArray) (g : Nat) (w : World) (hS : Summ w g) (ht : t.size < 90000) :
    Calls Tryz.prog 19 #[.pointer (some ⟨g, 0, none⟩), .string k, .string t] w fun r w' => r = .returned (.string (strOfNums (digL (refWord (refSeal spec k.data.toList t.data.toList)) 6))) ∧ Below w.heap.size w w' := by
  obtain ⟨sv, HS⟩ : ∃ sv, Hid (sv = refSeal spec k.data.toList t.data.toList) := ⟨_, rfl⟩
  have hsl : sv.length = 32 := by rw [HS.out]; exact hl _
  have hsb : ∀ x ∈ sv, isB x := by rw [HS.out]; exact hbs _
  obtain ⟨m, HM⟩ : ∃ m, Hid (m = strOfNums sv) := ⟨_, rfl⟩
  have hm : m.size = 32 := by rw [HM.out, strOfNums_size, hsl]
  obtain ⟨X, HX⟩ : ∃ X, Hid (X = refWord sv) := ⟨_, rfl⟩
  rw [← HS.out, ← HX.out]
  have hX := HX.out
  unfold refWord at hX
  have a31 := str_at hsb HM.out 31 (by omega)
  obtain ⟨b0, b1⟩ := getD_isB hsb 31
  obtain ⟨p, HP⟩ : ∃ p : Nat, Hid ((p : Int) = sv.getD 31 0 % 16) := ⟨(sv.getD 31 0 % 16).toNat, by show _ = _; omega⟩
  have hp : p < 16 := by have := HP.out; omega
  rw [← HP.out, Int.toNat_natCast] at hX
  have e0 := str_at hsb HM.out p (by omega)
  have e1 := str_at hsb HM.out (p + 1) (by omega)
  have e2 := str_at hsb HM.out (p + 2) (by omega)
  have e3 := str_at hsb HM.out (p + 3) (by omega)
  obtain ⟨c00, c01⟩ := getD_isB hsb p
  obtain ⟨c10, c11⟩ := getD_isB hsb (p + 1)
  obtain ⟨c20, c21⟩ := getD_isB hsb (p + 2)
  obtain ⟨c30, c31⟩ := getD_isB hsb (p + 3)
  generalize sv.getD 31 0 = y at *
  generalize sv.getD p 0 = y0 at *
  generalize sv.getD (p + 1) 0 = y1 at *
  generalize sv.getD (p + 2) 0 = y2 at *
  generalize sv.getD (p + 3) 0 = y3 at *
  have hX0 : 0 ≤ X := by rw [hX]; unfold word4; omega
  have hX1 : X < 2147483648 := by rw [hX]; unfold word4; omega
  have HX' : Hid (X = word4 (y0 % 128) y1 y2 y3) := hX
  clear hX HX
  have t0 : y.tmod 16 = p := by rw [Int.tmod_eq_emod_of_nonneg b0, HP.out]
  have t1 : y0.tmod 128 = y0 % 128 := Int.tmod_eq_emod_of_nonneg c00
  have hp' : (p : Int) < 16 := by omega
  have n1 : ((p : Int) + 1).toNat = p + 1 := by omega
  have n2 : ((p : Int) + 2).toNat = p + 2 := by omega
  have n3 : ((p : Int) + 3).toNat = p + 3 := by omega
  have m0 : (p : Int) < 32 := by omega
  have m1 : (p : Int) + 1 < 32 := by omega
  have m2 : (p : Int) + 2 < 32 := by omega
  have m3 : (p : Int) + 3 < 32 := by omega
  have l0 : (0 : Int) ≤ p := by omega
  have l1 : (0 : Int) ≤ p + 1 := by omega
  have l2 : (0 : Int) ≤ p + 2 := by omega
  have l3 : (0 : Int) ≤ p + 3 := by omega
  have w0 := wrap_id (p : Int) (by omega) (by omega)
  have w1 := wrap_id ((p : Int) + 1) (by omega) (by omega)
  have w2 := wrap_id ((p : Int) + 2) (by omega) (by omega)
  have w3 := wrap_id ((p : Int) + 3) (by omega) (by omega)
  have v0 := wrap_id (y0 % 128) (by omega) (by omega)
  have v1 := wrap_id y1 (by omega) (by omega)
  have v2 := wrap_id y2 (by omega) (by omega)
  have v3 := wrap_id y3 (by omega) (by omega)
  have j4 := wrap_id ((y0 % 128) * 256) (by omega) (by omega)
  have j5 := wrap_id ((y0 % 128) * 256 + y1) (by omega) (by omega)
  have j6 := wrap_id (((y0 % 128) * 256 + y1) * 256) (by omega) (by omega)
  have j7 := wrap_id (((y0 % 128) * 256 + y1) * 256 + y2) (by omega) (by omega)
  have j8 := wrap_id ((((y0 % 128) * 256 + y1) * 256 + y2) * 256) (by omega) (by omega)
  have j9 := wrap_id ((((y0 % 128) * 256 + y1) * 256 + y2) * 256 + y3) (by omega) (by omega)
  clear HP
  go_enter Tryz.func19, Tryz.ntmps19
  go_wp2_with fail
  refine (ref_seal hsum hl k t g _ hS ht).mono ?_
  rintro _ wz ⟨rfl, hB⟩
  rw [← HS.out, ← HM.out]
  clear HS HM hS hsl hsb
  go_wp2
  go_quiet (fail)
  rw [show (((y0 % 128) * 256 + y1) * 256 + y2) * 256 + y3 = X from HX'.out.symm]
  clear a31 e0 e1 e2 e3 t0 t1 n1 n2 n3 w0 w1 w2 w3 v0 v1 v2 v3 j4 j5 j6 j7 j8 j9 m0 m1 m2 m3 l0 l1 l2 l3
  have hB1 : Below w.heap.size w (wz.drewN nq) := ⟨hB.os, hB.tape, hB.output, hB.size, hB.block⟩
  generalize wz.drewN nq = wy at *
  clear hB c00 c01 c10 c11 c20 c21 c30 c31 b0 b1 hp hp' hm
  go_wp2
  go_loopw [9, 10, 11] (fun xv ov c wr => ∃ i : Nat, i ≤ 6 ∧ c = .int .i64 i ∧ xv = .int .i64 (X / 10 ^ i) ∧ ov = .string (strOfNums (digL X i)) ∧ Below w.heap.size w wr) (fun _ _ c _ => 6 - (intOf c).toNat)
  case atStart => exact ⟨0, by omega, rfl, by simp, rfl, hB1⟩
  case round =>
    obtain ⟨i, hi, rfl, rfl, rfl, hB⟩ := hrel
    by_cases hlt : i < 6
    · have hq0 : 0 ≤ X / 10 ^ i := Int.ediv_nonneg hX0 (Int.pow_nonneg (by omega))
      have hq1 : X / 10 ^ i ≤ X := Int.ediv_le_self _ hX0
      have HD : Hid _ := div10 X i
      have HE : Hid (digL X (i + 1) = (48 + X / 10 ^ i % 10) :: digL X i) := rfl
      obtain ⟨dl, HDl⟩ : ∃ dl, Hid (dl = digL X i) := ⟨_, rfl⟩
      rw [← HDl.out] at HE
      rw [← HDl.out]
      generalize X / 10 ^ i = q at *
      have t1 : q.tmod 10 = q % 10 := Int.tmod_eq_emod_of_nonneg hq0
      have t2 : q.tdiv 10 = q / 10 := Int.tdiv_eq_ediv_of_nonneg hq0
      have z2 : (strOfNums dl).size = i := by rw [strOfNums_size, HDl.out, digL_length]
      have d0 : 0 ≤ q % 10 := by omega
      have d1 : q % 10 < 10 := by omega
      have d2 : q % 10 + 1 ≤ 10 := by omega
      have d3 : 0 ≤ q % 10 + 1 := by omega
      go_wp2
      refine ⟨⟨i + 1, by omega, by go_num, by rw [HD.out], ?_, hB⟩, by simp [intOf]; omega⟩
      rw [HE.out, dig_str d0 d1]
    · have hi6 : i = 6 := by omega
      have e6 : Hid (digL X i = digL X 6) := by show _ = _; rw [hi6]
      rw [e6.out]
      clear hi6
      go_wp2
      go_ret
      exact ⟨rfl, hB⟩
end Go.Proofs.YtaokemapkgggoaaGreatDoor
