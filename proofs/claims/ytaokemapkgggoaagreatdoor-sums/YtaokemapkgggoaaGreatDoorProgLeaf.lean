import Derived.Test.YtaokemapkgggoaaGreatDoorRefLeaf
namespace Go.Proofs.YtaokemapkgggoaaGreatDoor
open Go.RowKit

theorem u64_neg_and31 (n : Nat) (h1 : 1 ≤ n) (h2 : n ≤ 31) : bits .and .u64 (IntKind.u64.wrap (-(n : Int))) 31 = 32 - (n : Int) := by
  have e : IntKind.u64.wrap (-(n : Int)) = 18446744073709551616 - (n : Int) := by
    simp only [IntKind.wrap, IntKind.bits, IntKind.signed]; simp; omega
  rw [e]
  obtain ⟨a, ha⟩ := Int.eq_ofNat_of_zero_le (show (0 : Int) ≤ 18446744073709551616 - (n : Int) by omega)
  rw [ha]
  have := u64_and_nat a 31 (by omega) (by omega)
  rw [show ((31 : Nat) : Int) = 31 from rfl] at this
  rw [this, nat_mask5]
  omega

theorem rotl_bits (x : Int) (n : Nat) (hx0 : 0 ≤ x) (hx1 : x < 4294967296) (h0 : 1 ≤ n) (h1 : n ≤ 31) :
    bits .or .u32 (x * 2 ^ (32 - n) % 4294967296) (x / 2 ^ (32 - (32 - n))) = rr n x := by
  rw [show 32 - (32 - n) = n by omega]
  obtain ⟨m, hm⟩ : ∃ m, m = 32 - n := ⟨_, rfl⟩
  have hpn : (2 : Nat) ^ n * 2 ^ m = 4294967296 := by rw [← Nat.pow_add, show n + m = 32 by omega]
  obtain ⟨y, rfl⟩ := Int.eq_ofNat_of_zero_le hx0
  have hy : y < 4294967296 := by omega
  unfold rr
  rw [← hm]
  have hq : (4294967296 : Int) / 2 ^ n = ((2 ^ m : Nat) : Int) := by
    have : ((2 : Int) ^ n) * ((2 ^ m : Nat) : Int) = 4294967296 := by
      have := congrArg (fun z : Nat => (z : Int)) hpn
      simpa using this
    rw [← this]; exact Int.mul_ediv_cancel_left _ (by have := (pow_bd n h1).1; omega)
  rw [hq]
  have e1 : ((y : Int) * 2 ^ m % 4294967296) = ((y % 2 ^ n * 2 ^ m : Nat) : Int) := by
    have : y * 2 ^ m % 4294967296 = y % 2 ^ n * 2 ^ m := by rw [← hpn, Nat.mul_mod_mul_right]
    rw [← this]; simp
  have e2 : ((y : Int) / 2 ^ n) = ((y / 2 ^ n : Nat) : Int) := by simp
  have e3 : ((y : Int) % 2 ^ n) = ((y % 2 ^ n : Nat) : Int) := by simp
  rw [e1, e2, e3]
  have b1 : y % 2 ^ n * 2 ^ m < 4294967296 := by
    rw [← hpn]; exact Nat.mul_lt_mul_of_pos_right (Nat.mod_lt _ (Nat.pow_pos (by omega))) (Nat.pow_pos (by omega))
  have b2 : y / 2 ^ n < 2 ^ m := by
    apply Nat.div_lt_of_lt_mul; rw [hpn]; exact hy
  have b3 : y / 2 ^ n ≤ y := Nat.div_le_self _ _
  rw [u32_or_nat _ _ b1 (by omega), nat_join m _ _ (Nat.mul_mod_left _ _) b2]
  simp
  omega

set_option maxHeartbeats 400000 in
theorem rotl (x : Int) (n : Nat) (w : World) (hx0 : 0 ≤ x) (hx1 : x < 4294967296) (h0 : 1 ≤ n) (h1 : n ≤ 31) :
    Calls Tryz.prog 102 #[.int .u32 x, .int .i64 (-(n : Int))] w fun e w' => e = .returned (.int .u32 (rr n x)) ∧ w' = w := by
  have hs := u64_neg_and31 n h0 h1
  have HR : Hid _ := rotl_bits x n hx0 hx1 h0 h1
  go_enter Tryz.func102, Tryz.ntmps102
  go_wp2
  go_ret
  exact ⟨ret_int HR.out, rfl⟩

set_option maxHeartbeats 400000 in
theorem prog_right (x n : Int) (w : World) (hx : isW x) (h0 : 1 ≤ n) (h1 : n ≤ 31) :
    Calls Tryz.prog 96 #[.int .u32 x, .int .i64 n] w fun e w' => e = .returned (.int .u32 (rr n.toNat x)) ∧ w' = w := by
  obtain ⟨m, rfl⟩ := Int.eq_ofNat_of_zero_le (show 0 ≤ n by omega)
  rw [Int.toNat_natCast]
  go_enter Tryz.func96, Tryz.ntmps96
  go_wp2_with (go_at_call 102; refine (rotl x m _ hx.1 hx.2 (by omega) (by omega)).mono ?_; rintro e w' ⟨rfl, rfl⟩)
  go_ret
  exact ⟨rfl, rfl⟩

theorem or4 (a b c d : Int) (ha : 0 ≤ a ∧ a < 256) (hb : 0 ≤ b ∧ b < 256) (hc : 0 ≤ c ∧ c < 256) (hd : 0 ≤ d ∧ d < 256) :
    bits .or .u32 (bits .or .u32 (bits .or .u32 (a * 16777216) (b * 65536)) (c * 256)) d = word4 a b c d := by
  obtain ⟨a, rfl⟩ := Int.eq_ofNat_of_zero_le ha.1
  obtain ⟨b, rfl⟩ := Int.eq_ofNat_of_zero_le hb.1
  obtain ⟨c, rfl⟩ := Int.eq_ofNat_of_zero_le hc.1
  obtain ⟨d, rfl⟩ := Int.eq_ofNat_of_zero_le hd.1
  rw [show ((a : Int) * 16777216) = ((a * 16777216 : Nat) : Int) by simp, show ((b : Int) * 65536) = ((b * 65536 : Nat) : Int) by simp, show ((c : Int) * 256) = ((c * 256 : Nat) : Int) by simp]
  rw [u32_or_nat _ _ (by omega) (by omega), nat_join 24 _ _ (by omega) (by omega), u32_or_nat _ _ (by omega) (by omega), nat_join 16 _ _ (by omega) (by omega), u32_or_nat _ _ (by omega) (by omega), nat_join 8 _ _ (by omega) (by omega)]
  unfold word4; omega

set_option maxHeartbeats 400000 in
theorem prog_word (a b c d : Int) (w : World) (ha : 0 ≤ a ∧ a < 256) (hb : 0 ≤ b ∧ b < 256) (hc : 0 ≤ c ∧ c < 256) (hd : 0 ≤ d ∧ d < 256) :
    Calls Tryz.prog 69 #[.int .u8 a, .int .u8 b, .int .u8 c, .int .u8 d] w fun e w' => e = .returned (.int .u32 (word4 a b c d)) ∧ w' = w := by
  have H : Hid _ := or4 a b c d ha hb hc hd
  obtain ⟨ha0, ha1⟩ := ha
  obtain ⟨hb0, hb1⟩ := hb
  obtain ⟨hc0, hc1⟩ := hc
  obtain ⟨hd0, hd1⟩ := hd
  go_enter Tryz.func69, Tryz.ntmps69
  go_wp2
  go_ret
  exact ⟨ret_int H.out, rfl⟩

end Go.Proofs.YtaokemapkgggoaaGreatDoor
