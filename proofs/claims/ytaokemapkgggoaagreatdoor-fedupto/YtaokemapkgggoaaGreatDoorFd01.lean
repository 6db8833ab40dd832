import Derived.Laws.BitsAllLaws
import Derived.Test.YtaokemapkgggoaaGreatDoorRows
import Derived.WalkKit
import Derived.WalkSpells
import Derived.WalkLawsBesides
import Derived.Deep.QuietTactic
import Derived.BigQuiet
/-
  The plain mathematics of the sum, the seal and the code: words are whole numbers from 0 to 2^32 - 1.
-/
namespace Go.Proofs.YtaokemapkgggoaaGreatDoor

def xr (a b : Int) : Int := ((a.toNat ^^^ b.toNat : Nat) : Int)
def an (a b : Int) : Int := ((a.toNat &&& b.toNat : Nat) : Int)
def rr (n : Nat) (x : Int) : Int := x / 2 ^ n + x % 2 ^ n * (4294967296 / 2 ^ n)

/-- a word -/
def isW (x : Int) : Prop := 0 ≤ x ∧ x < 4294967296

theorem xr_w {a b : Int} (ha : isW a) (hb : isW b) : isW (xr a b) := by
  unfold isW xr at *
  have h := @Nat.xor_lt_two_pow a.toNat b.toNat 32 (by omega) (by omega)
  omega
theorem an_w {a b : Int} (hb : isW b) : isW (an a b) := by
  unfold isW an at *
  have h : a.toNat &&& b.toNat ≤ b.toNat := Nat.and_le_right
  omega

theorem rr_w (n : Nat) (hn : n ≤ 32) {x : Int} (hx : isW x) : isW (rr n x) := by
  unfold isW rr at *
  have hp : (2 : Int) ^ n * 2 ^ (32 - n) = 4294967296 := by
    rw [← Int.pow_add, show n + (32 - n) = 32 by omega]; rfl
  have hpos : (0 : Int) < 2 ^ n := Int.pow_pos (by omega)
  have hpos2 : (0 : Int) < 2 ^ (32 - n) := Int.pow_pos (by omega)
  have hq : (4294967296 : Int) / 2 ^ n = 2 ^ (32 - n) := by
    rw [← hp]; exact Int.mul_ediv_cancel_left _ (by omega)
  rw [hq]
  generalize (2 : Int) ^ n = p at *
  generalize (2 : Int) ^ (32 - n) = q at *
  have h1 : 0 ≤ x / p := Int.ediv_nonneg hx.1 (by omega)
  have h2 : x / p < q := Int.ediv_lt_of_lt_mul hpos (by rw [Int.mul_comm, hp]; exact hx.2)
  have h3 : 0 ≤ x % p := Int.emod_nonneg _ (by omega)
  have h4 : x % p < p := Int.emod_lt_of_pos _ hpos
  have h5 : x % p * q ≤ (p - 1) * q := Int.mul_le_mul_of_nonneg_right (by omega) (by omega)
  have h6 : (p - 1) * q = 4294967296 - q := by rw [Int.sub_mul, hp]; omega
  have h7 : 0 ≤ x % p * q := Int.mul_nonneg h3 (by omega)
  omega

theorem shr_w (n : Nat) {x : Int} (hx : isW x) : isW (x / 2 ^ n) := by
  unfold isW at *
  have hpos : (0 : Int) < 2 ^ n := Int.pow_pos (by omega)
  have h1 : 0 ≤ x / 2 ^ n := Int.ediv_nonneg hx.1 (by omega)
  have h2 : x / 2 ^ n ≤ x := Int.ediv_le_self _ hx.1
  omega

def s0 (x : Int) : Int := xr (xr (rr 7 x) (rr 18 x)) (x / 2 ^ 3)
def s1 (x : Int) : Int := xr (xr (rr 17 x) (rr 19 x)) (x / 2 ^ 10)
def bigE (e : Int) : Int := xr (xr (rr 6 e) (rr 11 e)) (rr 25 e)
def bigA (a : Int) : Int := xr (xr (rr 2 a) (rr 13 a)) (rr 22 a)
def choose (e f g : Int) : Int := xr (an e f) (an (4294967295 - e) g)
def most (a b c : Int) : Int := xr (xr (an a b) (an a c)) (an b c)

theorem s0_w {x : Int} (h : isW x) : isW (s0 x) := xr_w (xr_w (rr_w _ (by omega) h) (rr_w _ (by omega) h)) (shr_w _ h)
theorem s1_w {x : Int} (h : isW x) : isW (s1 x) := xr_w (xr_w (rr_w _ (by omega) h) (rr_w _ (by omega) h)) (shr_w _ h)
theorem bigE_w {x : Int} (h : isW x) : isW (bigE x) := xr_w (xr_w (rr_w _ (by omega) h) (rr_w _ (by omega) h)) (rr_w _ (by omega) h)
theorem bigA_w {x : Int} (h : isW x) : isW (bigA x) := xr_w (xr_w (rr_w _ (by omega) h) (rr_w _ (by omega) h)) (rr_w _ (by omega) h)
theorem choose_w {e f g : Int} (hf : isW f) (hg : isW g) : isW (choose e f g) := xr_w (an_w hf) (an_w hg)
theorem most_w {a b c : Int} (hb : isW b) (hc : isW c) : isW (most a b c) := xr_w (xr_w (an_w hb) (an_w hc)) (an_w hc)

theorem mod_w (x : Int) : isW (x % 4294967296) := by unfold isW; omega

/-- the next word of the row W -/
def nextW (x16 x15 x7 x2 : Int) : Int := (s1 x2 + x7 + s0 x15 + x16) % 4294967296
/-- four bytes, the highest first -/
def word4 (a b c d : Int) : Int := ((a * 256 + b) * 256 + c) * 256 + d
theorem word4_w {a b c d : Int} (ha : 0 ≤ a ∧ a < 256) (hb : 0 ≤ b ∧ b < 256) (hc : 0 ≤ c ∧ c < 256) (hd : 0 ≤ d ∧ d < 256) : isW (word4 a b c d) := by
  unfold isW word4; omega

/-- W, its first t words, of 64 bytes -/
def rowW (b : List Int) : Nat → List Int
  | 0 => []
  | t + 1 => rowW b t ++ [if t < 16 then word4 (b.getD (4 * t) 0) (b.getD (4 * t + 1) 0) (b.getD (4 * t + 2) 0) (b.getD (4 * t + 3) 0)
      else nextW ((rowW b t).getD (t - 16) 0) ((rowW b t).getD (t - 15) 0) ((rowW b t).getD (t - 7) 0) ((rowW b t).getD (t - 2) 0)]
theorem rowW_length (b : List Int) (t : Nat) : (rowW b t).length = t := by
  induction t with
  | zero => rfl
  | succ t ih => simp [rowW, ih]

/-- one round -/
def turn1 (k w : Int) : List Int → List Int
  | [a, b, c, d, e, f, g, h] =>
    [(h + bigE e + choose e f g + k + w + bigA a + most a b c) % 4294967296, a, b, c, (d + (h + bigE e + choose e f g + k + w)) % 4294967296, e, f, g]
  | l => l
def rounds (K W v : List Int) : Nat → List Int
  | 0 => v
  | t + 1 => turn1 (K.getD t 0) (W.getD t 0) (rounds K W v t)
/-- one block -/
def blockOn (K h b : List Int) : List Int := List.zipWith (fun x y => (x + y) % 4294967296) h (rounds K (rowW b 64) h 64)

end Go.Proofs.YtaokemapkgggoaaGreatDoor

namespace Go.Proofs.YtaokemapkgggoaaGreatDoor
open Go.RowKit

theorem ret_int {k : IntKind} {a b : Int} (h : a = b) : Ending.returned (.int k a) = .returned (.int k b) := by rw [h]

theorem i64_xor_w {a b : Int} (ha : isW a) (hb : isW b) : bits .xor .i64 a b = xr a b := by
  unfold isW at ha hb
  obtain ⟨x, rfl⟩ := Int.eq_ofNat_of_zero_le ha.1
  obtain ⟨y, rfl⟩ := Int.eq_ofNat_of_zero_le hb.1
  have hx : x < 4294967296 := by omega
  have hy : y < 4294967296 := by omega
  show IntKind.i64.wrap ((BitVec.ofInt 64 (x : Int) ^^^ BitVec.ofInt 64 (y : Int)).toNat : Int) = ((x ^^^ y : Nat) : Int)
  rw [BitVec.toNat_xor, ofInt_u64 x (by omega), ofInt_u64 y (by omega)]
  have h := @Nat.xor_lt_two_pow x y 32 (by omega) (by omega)
  simp only [IntKind.wrap, IntKind.bits, IntKind.signed]
  simp
  omega
theorem i64_and_w {a b : Int} (ha : isW a) (hb : isW b) : bits .and .i64 a b = an a b := by
  unfold isW at ha hb
  obtain ⟨x, rfl⟩ := Int.eq_ofNat_of_zero_le ha.1
  obtain ⟨y, rfl⟩ := Int.eq_ofNat_of_zero_le hb.1
  have hx : x < 4294967296 := by omega
  have hy : y < 4294967296 := by omega
  show IntKind.i64.wrap ((BitVec.ofInt 64 (x : Int) &&& BitVec.ofInt 64 (y : Int)).toNat : Int) = ((x &&& y : Nat) : Int)
  rw [BitVec.toNat_and, ofInt_u64 x (by omega), ofInt_u64 y (by omega)]
  have h : x &&& y ≤ y := Nat.and_le_right
  simp only [IntKind.wrap, IntKind.bits, IntKind.signed]
  simp
  omega

set_option maxHeartbeats 400000 in
theorem ref_xor (a b : Int) (w : World) (ha : isW a) (hb : isW b) :
    Calls Tryz.prog 40 #[.int .i64 a, .int .i64 b] w fun e w' => e = .returned (.int .i64 (xr a b)) ∧ w' = w := by
  have h := i64_xor_w ha hb
  have H : Hid (bits .xor .i64 a b = xr a b) := h
  clear h
  go_enter Tryz.func40, Tryz.ntmps40
  go_wp2
  go_ret
  exact ⟨ret_int H.out, rfl⟩
set_option maxHeartbeats 400000 in
theorem ref_and (a b : Int) (w : World) (ha : isW a) (hb : isW b) :
    Calls Tryz.prog 43 #[.int .i64 a, .int .i64 b] w fun e w' => e = .returned (.int .i64 (an a b)) ∧ w' = w := by
  have h := i64_and_w ha hb
  have H : Hid (bits .and .i64 a b = an a b) := h
  clear h
  go_enter Tryz.func43, Tryz.ntmps43
  go_wp2
  go_ret
  exact ⟨ret_int H.out, rfl⟩

theorem pow_bd (k : Nat) (h : k ≤ 31) : 1 ≤ (2 : Int) ^ k ∧ (2 : Int) ^ k ≤ 2147483648 := by
  have h1 : (2 : Nat) ^ k ≤ 2 ^ 31 := Nat.pow_le_pow_right (by omega) h
  have h2 : 0 < (2 : Nat) ^ k := Nat.pow_pos (by omega)
  have e : ((2 ^ k : Nat) : Int) = (2 : Int) ^ k := by simp
  rw [← e]
  have h3 : (2 : Nat) ^ 31 = 2147483648 := by decide
  omega

theorem half_pow (x : Int) (k : Nat) : x / 2 ^ k / 2 = x / 2 ^ (k + 1) := by
  rw [Int.ediv_ediv_of_nonneg (Int.pow_nonneg (by omega)), Int.pow_succ]

set_option maxHeartbeats 400000 in
theorem ref_half (x n : Int) (w : World) (hx : isW x) (h0 : 0 ≤ n) (h1 : n ≤ 31) :
    Calls Tryz.prog 42 #[.int .i64 x, .int .i64 n] w fun e w' => e = .returned (.int .i64 (x / 2 ^ n.toNat)) ∧ w' = w := by
  obtain ⟨m, rfl⟩ := Int.eq_ofNat_of_zero_le h0
  rw [Int.toNat_natCast]
  go_enter Tryz.func42, Tryz.ntmps42
  go_wp2
  go_loop [0, 5] (fun y i => ∃ k : Nat, k ≤ m ∧ i = .int .i64 k ∧ y = .int .i64 (x / 2 ^ k)) (fun _ i => m - (intOf i).toNat)
  case atStart => exact ⟨0, Nat.zero_le _, rfl, by simp⟩
  case round =>
    obtain ⟨k, hk, rfl, rfl⟩ := hrel
    have hw := shr_w k hx
    unfold isW at hw
    obtain ⟨hw0, hw1⟩ := hw
    have hp := half_pow x k
    have HP : Hid (x / 2 ^ k / 2 = x / 2 ^ (k + 1)) := hp
    clear hp
    by_cases hlt : k < m
    · go_wp2
      go_round
      case rel => exact ⟨k + 1, by omega, by go_num, by rw [HP.out]⟩
      case measure => simp [intOf]; omega
    · go_wp2
      go_ret
      have : k = m := by omega
      exact ⟨ret_int (by rw [this]), rfl⟩

theorem rr_bits (x : Int) (hx : isW x) (k : Nat) (hk : k ≤ 31) : 0 ≤ x / 2 ^ k ∧ x / 2 ^ k < 4294967296 ∧ 0 ≤ 4294967296 / (2 : Int) ^ k ∧ 4294967296 / (2 : Int) ^ k ≤ 4294967296 ∧
    0 ≤ x % 2 ^ k * (4294967296 / 2 ^ k) ∧ x % 2 ^ k * (4294967296 / 2 ^ k) < 4294967296 ∧ Hid (x / 2 ^ k + x % 2 ^ k * (4294967296 / 2 ^ k) = rr k x) := by
  have hw := shr_w k hx
  have hr := rr_w k (by omega) hx
  have hb := pow_bd k hk
  have h3 : 0 ≤ x % 2 ^ k := Int.emod_nonneg _ (by omega)
  have h4 : 0 ≤ 4294967296 / (2 : Int) ^ k := Int.ediv_nonneg (by omega) (by omega)
  have h5 : 4294967296 / (2 : Int) ^ k ≤ 4294967296 := Int.ediv_le_self _ (by omega)
  have h7 : 0 ≤ x % 2 ^ k * (4294967296 / 2 ^ k) := Int.mul_nonneg h3 h4
  unfold isW rr at *
  exact ⟨hw.1, hw.2, h4, h5, h7, by omega, rfl⟩

set_option maxHeartbeats 400000 in
theorem ref_right (x n : Int) (w : World) (hx : isW x) (h0 : 0 ≤ n) (h1 : n ≤ 31) :
    Calls Tryz.prog 41 #[.int .i64 x, .int .i64 n] w fun e w' => e = .returned (.int .i64 (rr n.toNat x)) ∧ ∃ q, w' = w.drewN q := by
  obtain ⟨m, rfl⟩ := Int.eq_ofNat_of_zero_le h0
  rw [Int.toNat_natCast]
  go_enter Tryz.func41, Tryz.ntmps41
  go_wp2
  go_loop [5, 6] (fun p i => ∃ k : Nat, k ≤ m ∧ i = .int .i64 k ∧ p = .int .i64 (2 ^ k)) (fun _ i => m - (intOf i).toNat)
  case atStart => exact ⟨0, Nat.zero_le _, rfl, by simp⟩
  case round =>
    obtain ⟨k, hk, rfl, rfl⟩ := hrel
    have hb := pow_bd k (by omega)
    obtain ⟨hb0, hb1⟩ := hb
    by_cases hlt : k < m
    · go_wp2
      go_round
      case rel => exact ⟨k + 1, by omega, by go_num, by rw [Int.pow_succ, Int.mul_comm]⟩
      case measure => simp [intOf]; omega
    · have hkm : k = m := by omega
      have hr := rr_bits x hx k (by omega)
      obtain ⟨hr1, hr2, hr3, hr4, hr5, hr6, HR⟩ := hr
      have hx0 := hx.1
      have hx1 := hx.2
      generalize (2 : Int) ^ k = p at *
      go_wp2
      go_quiet (fail)
      go_wp2
      go_ret
      exact ⟨ret_int (by rw [HR.out, hkm]), _, rfl⟩
end Go.Proofs.YtaokemapkgggoaaGreatDoor
