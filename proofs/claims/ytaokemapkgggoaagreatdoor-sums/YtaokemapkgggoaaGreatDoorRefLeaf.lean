import Derived.Test.YtaokemapkgggoaaGreatDoorRows
import Derived.Test.YtaokemapkgggoaaGreatDoorSpec
import Derived.WalkKit
import Derived.WalkSpells
import Derived.WalkLawsBesides
import Derived.Deep.QuietTactic
import Derived.BigQuiet
namespace Go.Proofs.YtaokemapkgggoaaGreatDoor
open Go.RowKit

theorem ret_int {k : IntKind} {a b : Int} (h : a = b) : Ending.returned (.int k a) = .returned (.int k b) := by rw [h]

theorem i64_xor_w {a b : Int} (ha : isW a) (hb : isW b) : bits .xor .i64 a b = xr a b := by
  unfold isW at ha hb
  obtain ⟨x, rfl⟩ := Int.eq_ofNat_of_zero_le ha.1
  obtain ⟨y, rfl⟩ := Int.eq_ofNat_of_zero_le hb.1
  have hx : x < 4294967296 := by omega
  have hy : y < 4294967296 := by omega
  show IntKind.i64.wrap ((BitVec.ofInt 64 (x : Int) ^^^ BitVec.ofInt 64 (y : Int)).toNat : Int) = ((x ^^^ y : Nat) : Int)
  rw [BitVec.toNat_xor, ofInt_u64 x (by omega), ofInt_u64 y (by omega)]
  have h := @Nat.xor_lt_two_pow x y 32 (by omega) (by omega)
  simp only [IntKind.wrap, IntKind.bits, IntKind.signed]
  simp
  omega
theorem i64_and_w {a b : Int} (ha : isW a) (hb : isW b) : bits .and .i64 a b = an a b := by
  unfold isW at ha hb
  obtain ⟨x, rfl⟩ := Int.eq_ofNat_of_zero_le ha.1
  obtain ⟨y, rfl⟩ := Int.eq_ofNat_of_zero_le hb.1
  have hx : x < 4294967296 := by omega
  have hy : y < 4294967296 := by omega
  show IntKind.i64.wrap ((BitVec.ofInt 64 (x : Int) &&& BitVec.ofInt 64 (y : Int)).toNat : Int) = ((x &&& y : Nat) : Int)
  rw [BitVec.toNat_and, ofInt_u64 x (by omega), ofInt_u64 y (by omega)]
  have h : x &&& y ≤ y := Nat.and_le_right
  simp only [IntKind.wrap, IntKind.bits, IntKind.signed]
  simp
  omega

set_option maxHeartbeats 400000 in
theorem ref_xor (a b : Int) (w : World) (ha : isW a) (hb : isW b) :
    Calls Tryz.prog 40 #[.int .i64 a, .int .i64 b] w fun e w' => e = .returned (.int .i64 (xr a b)) ∧ w' = w := by
  have h := i64_xor_w ha hb
  have H : Hid (bits .xor .i64 a b = xr a b) := h
  clear h
  go_enter Tryz.func40, Tryz.ntmps40
  go_wp2
  go_ret
  exact ⟨ret_int H.out, rfl⟩
set_option maxHeartbeats 400000 in
theorem ref_and (a b : Int) (w : World) (ha : isW a) (hb : isW b) :
    Calls Tryz.prog 43 #[.int .i64 a, .int .i64 b] w fun e w' => e = .returned (.int .i64 (an a b)) ∧ w' = w := by
  have h := i64_and_w ha hb
  have H : Hid (bits .and .i64 a b = an a b) := h
  clear h
  go_enter Tryz.func43, Tryz.ntmps43
  go_wp2
  go_ret
  exact ⟨ret_int H.out, rfl⟩

theorem pow_bd (k : Nat) (h : k ≤ 31) : 1 ≤ (2 : Int) ^ k ∧ (2 : Int) ^ k ≤ 2147483648 := by
  have h1 : (2 : Nat) ^ k ≤ 2 ^ 31 := Nat.pow_le_pow_right (by omega) h
  have h2 : 0 < (2 : Nat) ^ k := Nat.pow_pos (by omega)
  have e : ((2 ^ k : Nat) : Int) = (2 : Int) ^ k := by simp
  rw [← e]
  have h3 : (2 : Nat) ^ 31 = 2147483648 := by decide
  omega

theorem half_pow (x : Int) (k : Nat) : x / 2 ^ k / 2 = x / 2 ^ (k + 1) := by
  rw [Int.ediv_ediv_of_nonneg (Int.pow_nonneg (by omega)), Int.pow_succ]

set_option maxHeartbeats 400000 in
theorem ref_half (x n : Int) (w : World) (hx : isW x) (h0 : 0 ≤ n) (h1 : n ≤ 31) :
    Calls Tryz.prog 42 #[.int .i64 x, .int .i64 n] w fun e w' => e = .returned (.int .i64 (x / 2 ^ n.toNat)) ∧ w' = w := by
  obtain ⟨m, rfl⟩ := Int.eq_ofNat_of_zero_le h0
  rw [Int.toNat_natCast]
  go_enter Tryz.func42, Tryz.ntmps42
  go_wp2
  go_loop [0, 5] (fun y i => ∃ k : Nat, k ≤ m ∧ i = .int .i64 k ∧ y = .int .i64 (x / 2 ^ k)) (fun _ i => m - (intOf i).toNat)
  case atStart => exact ⟨0, Nat.zero_le _, rfl, by simp⟩
  case round =>
    obtain ⟨k, hk, rfl, rfl⟩ := hrel
    have hw := shr_w k hx
    unfold isW at hw
    obtain ⟨hw0, hw1⟩ := hw
    have hp := half_pow x k
    have HP : Hid (x / 2 ^ k / 2 = x / 2 ^ (k + 1)) := hp
    clear hp
    by_cases hlt : k < m
    · go_wp2
      go_round
      case rel => exact ⟨k + 1, by omega, by go_num, by rw [HP.out]⟩
      case measure => simp [intOf]; omega
    · go_wp2
      go_ret
      have : k = m := by omega
      exact ⟨ret_int (by rw [this]), rfl⟩

theorem rr_bits (x : Int) (hx : isW x) (k : Nat) (hk : k ≤ 31) : 0 ≤ x / 2 ^ k ∧ x / 2 ^ k < 4294967296 ∧ 0 ≤ 4294967296 / (2 : Int) ^ k ∧ 4294967296 / (2 : Int) ^ k ≤ 4294967296 ∧
    0 ≤ x % 2 ^ k * (4294967296 / 2 ^ k) ∧ x % 2 ^ k * (4294967296 / 2 ^ k) < 4294967296 ∧ Hid (x / 2 ^ k + x % 2 ^ k * (4294967296 / 2 ^ k) = rr k x) := by
  have hw := shr_w k hx
  have hr := rr_w k (by omega) hx
  have hb := pow_bd k hk
  have h3 : 0 ≤ x % 2 ^ k := Int.emod_nonneg _ (by omega)
  have h4 : 0 ≤ 4294967296 / (2 : Int) ^ k := Int.ediv_nonneg (by omega) (by omega)
  have h5 : 4294967296 / (2 : Int) ^ k ≤ 4294967296 := Int.ediv_le_self _ (by omega)
  have h7 : 0 ≤ x % 2 ^ k * (4294967296 / 2 ^ k) := Int.mul_nonneg h3 h4
  unfold isW rr at *
  exact ⟨hw.1, hw.2, h4, h5, h7, by omega, rfl⟩

set_option maxHeartbeats 400000 in
theorem ref_right (x n : Int) (w : World) (hx : isW x) (h0 : 0 ≤ n) (h1 : n ≤ 31) :
    Calls Tryz.prog 41 #[.int .i64 x, .int .i64 n] w fun e w' => e = .returned (.int .i64 (rr n.toNat x)) ∧ ∃ q, w' = w.drewN q := by
  obtain ⟨m, rfl⟩ := Int.eq_ofNat_of_zero_le h0
  rw [Int.toNat_natCast]
  go_enter Tryz.func41, Tryz.ntmps41
  go_wp2
  go_loop [5, 6] (fun p i => ∃ k : Nat, k ≤ m ∧ i = .int .i64 k ∧ p = .int .i64 (2 ^ k)) (fun _ i => m - (intOf i).toNat)
  case atStart => exact ⟨0, Nat.zero_le _, rfl, by simp⟩
  case round =>
    obtain ⟨k, hk, rfl, rfl⟩ := hrel
    have hb := pow_bd k (by omega)
    obtain ⟨hb0, hb1⟩ := hb
    by_cases hlt : k < m
    · go_wp2
      go_round
      case rel => exact ⟨k + 1, by omega, by go_num, by rw [Int.pow_succ, Int.mul_comm]⟩
      case measure => simp [intOf]; omega
    · have hkm : k = m := by omega
      have hr := rr_bits x hx k (by omega)
      obtain ⟨hr1, hr2, hr3, hr4, hr5, hr6, HR⟩ := hr
      have hx0 := hx.1
      have hx1 := hx.2
      generalize (2 : Int) ^ k = p at *
      go_wp2
      go_quiet (fail)
      go_wp2
      go_ret
      exact ⟨ret_int (by rw [HR.out, hkm]), _, rfl⟩
end Go.Proofs.YtaokemapkgggoaaGreatDoor
