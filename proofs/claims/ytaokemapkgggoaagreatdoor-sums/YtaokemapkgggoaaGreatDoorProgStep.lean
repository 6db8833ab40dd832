import Derived.Test.YtaokemapkgggoaaGreatDoorProgLeaf
namespace Go.Proofs.YtaokemapkgggoaaGreatDoor
open Go.RowKit

theorem u32_xor_w {a b : Int} (ha : isW a) (hb : isW b) : bits .xor .u32 a b = xr a b := u32_xor a b ha.1 ha.2 hb.1 hb.2
theorem u32_and_w {a b : Int} (ha : isW a) (hb : isW b) : bits .and .u32 a b = an a b := u32_and a b ha.1 ha.2 hb.1 hb.2
theorem u32_not_w {a : Int} (ha : isW a) : bits .xor .u32 IntKind.u32.max a = 4294967295 - a := by
  rw [show IntKind.u32.max = 4294967295 from rfl, u32_xor _ _ (by omega) (by omega) ha.1 ha.2]
  obtain ⟨h0, h1⟩ := ha
  obtain ⟨x, rfl⟩ := Int.eq_ofNat_of_zero_le h0
  have hx : x < 4294967296 := by omega
  have : (4294967295 : Nat) ^^^ x = 4294967295 - x := by
    have h1 : ((BitVec.allOnes 32) ^^^ (BitVec.ofNat 32 x)).toNat = 4294967295 - x := by
      rw [BitVec.allOnes_xor, BitVec.toNat_not, BitVec.toNat_ofNat]
      rw [Nat.mod_eq_of_lt (by omega)]
    have h2 : ((BitVec.allOnes 32) ^^^ (BitVec.ofNat 32 x)).toNat = 4294967295 ^^^ x := by
      rw [BitVec.toNat_xor, BitVec.toNat_ofNat, Nat.mod_eq_of_lt (by omega), BitVec.toNat_allOnes]
    rw [← h2, h1]
  show (((4294967295 : Int).toNat ^^^ (x : Int).toNat : Nat) : Int) = _
  rw [Int.toNat_natCast, show (4294967295 : Int).toNat = 4294967295 from rfl, this]
  omega

set_option maxHeartbeats 400000 in
theorem prog_step (a b c d e f g h1 kw : Int) (w : World) (ha : isW a) (hb : isW b) (hc : isW c) (he : isW e) (hf : isW f) (hg : isW g) :
    Calls Tryz.prog 86 #[.agg #[.int .u32 a, .int .u32 b, .int .u32 c, .int .u32 d, .int .u32 e, .int .u32 f, .int .u32 g, .int .u32 h1], .int .u32 kw] w fun r w' =>
      r = .returned (.agg #[.int .u32 ((h1 + bigE e + choose e f g + kw + (bigA a + most a b c)) % 4294967296), .int .u32 a, .int .u32 b, .int .u32 c, .int .u32 ((d + (h1 + bigE e + choose e f g + kw)) % 4294967296), .int .u32 e, .int .u32 f, .int .u32 g]) ∧ Below w.heap.size w w' := by
  have e1 : bits .xor .u32 (bits .xor .u32 (rr 6 e) (rr 11 e)) (rr 25 e) = bigE e := by
    rw [u32_xor_w (rr_w 6 (by omega) he) (rr_w 11 (by omega) he), u32_xor_w (xr_w (rr_w 6 (by omega) he) (rr_w 11 (by omega) he)) (rr_w 25 (by omega) he)]; rfl
  have e2 : bits .xor .u32 (bits .and .u32 e f) (bits .and .u32 (bits .xor .u32 IntKind.u32.max e) g) = choose e f g := by
    rw [u32_not_w he, u32_and_w he hf, u32_and_w (a := 4294967295 - e) (by unfold isW at *; omega) hg, u32_xor_w (an_w hf) (an_w hg)]; rfl
  have e3 : bits .xor .u32 (bits .xor .u32 (rr 2 a) (rr 13 a)) (rr 22 a) = bigA a := by
    rw [u32_xor_w (rr_w 2 (by omega) ha) (rr_w 13 (by omega) ha), u32_xor_w (xr_w (rr_w 2 (by omega) ha) (rr_w 13 (by omega) ha)) (rr_w 22 (by omega) ha)]; rfl
  have e4 : bits .xor .u32 (bits .xor .u32 (bits .and .u32 a b) (bits .and .u32 a c)) (bits .and .u32 b c) = most a b c := by
    rw [u32_and_w ha hb, u32_and_w ha hc, u32_and_w hb hc, u32_xor_w (an_w hb) (an_w hc), u32_xor_w (xr_w (an_w hb) (an_w hc)) (an_w hc)]; rfl
  go_enter Tryz.func86, Tryz.ntmps86
  go_wp2
  go_quiet (fail)
  go_wp2_with (go_at_call 96; refine (prog_right _ _ _ (by assumption) (by omega) (by omega)).mono ?_; rintro _ _ ⟨rfl, rfl⟩)
  refine bodyPost_ret (v := .agg #[.int .u32 ((h1 + bigE e + choose e f g + kw + (bigA a + most a b c)) % 4294967296), .int .u32 a, .int .u32 b, .int .u32 c, .int .u32 ((d + (h1 + bigE e + choose e f g + kw)) % 4294967296), .int .u32 e, .int .u32 f, .int .u32 g]) (by simp [results, Tryz.results86, go_sem]) rfl ⟨rfl, ?_⟩
  have hb0 : Below w.heap.size w (((w.alloc (.cells #[.int .u32 a, .int .u32 b, .int .u32 c, .int .u32 d, .int .u32 e, .int .u32 f, .int .u32 g, .int .u32 h1] 76)).alloc (.cells #[.int .u32 0, .int .u32 0, .int .u32 0, .int .u32 0, .int .u32 0, .int .u32 0, .int .u32 0, .int .u32 0] 76)).drewN nq) :=
    below_drewN (((Below.refl _ _).alloc (Nat.le_refl _) _).alloc (by simp) _) _
  exact (((((((hb0.setCell (Nat.le_succ _) _).setCell (Nat.le_succ _) _).setCell (Nat.le_succ _) _).setCell (Nat.le_succ _) _).setCell (Nat.le_succ _) _).setCell (Nat.le_succ _) _).setCell (Nat.le_succ _) _).setCell (Nat.le_succ _) _
end Go.Proofs.YtaokemapkgggoaaGreatDoor
