import Derived.Test.YtaokemapkgggoaaGreatDoorFd04
import Derived.Test.YtaokemapkgggoaaGreatDoorFd01
import Derived.Test.YtaokemapkgggoaaGreatDoorFd02
namespace Go.Proofs.YtaokemapkgggoaaGreatDoor
open Go.RowKit

theorem map_snoc (f : Int → Int) (l : List Int) (i : Nat) (h : i < l.length) : (l.take (i + 1)).map f = (l.take i).map f ++ [f (l.getD i 0)] := by
  rw [List.take_succ_eq_append_getElem h, List.map_append, show l.getD i 0 = l[i] by simp [List.getD, h]]
  rfl
theorem P64_len : P64.length = 64 := rfl

set_option maxRecDepth 100000 in
set_option maxHeartbeats 1000000 in
theorem ref_constants (w : World) :
    Calls Tryz.prog 12 #[] w fun r w' => ∃ kv hv, r = .returned (.tuple #[kv, hv]) ∧ Own w' w.heap.size .i64 3 kv (P64.map fun p => rootL p true) ∧ Own w' w.heap.size .i64 3 hv ((P64.take 8).map fun p => rootL p false) ∧ Sep kv hv ∧ Below w.heap.size w w' := by
  obtain ⟨rt, HT⟩ : ∃ rt : Int → Int, Hid (rt = fun p => rootL p true) := ⟨_, rfl⟩
  obtain ⟨rf, HF⟩ : ∃ rf : Int → Int, Hid (rf = fun p => rootL p false) := ⟨_, rfl⟩
  have ht : ∀ (p : Int) (w : World), Calls Tryz.prog 38 #[.int .i64 p, .bool true] w fun r w' => r = .returned (.int .i64 (rt p)) ∧ Below w.heap.size w w' := by rw [HT.out]; exact ref_root_true
  have hf : ∀ (p : Int) (w : World), Calls Tryz.prog 38 #[.int .i64 p, .bool false] w fun r w' => r = .returned (.int .i64 (rf p)) ∧ Below w.heap.size w w' := by rw [HF.out]; exact ref_root_false
  rw [← HT.out, ← HF.out]
  have HTc : Hid _ := ht
  have HFc : Hid _ := hf
  clear ht hf
  obtain ⟨ps, HP⟩ : ∃ ps, Hid (ps = P64) := ⟨_, rfl⟩
  have hp64 : Hid (ps.length = 64) := by show _ = _; rw [HP.out, P64_len]
  rw [← HP.out]
  go_enter Tryz.func12, Tryz.ntmps12
  go_wp2_with fail
  refine (ref_primes _).mono ?_
  rintro _ w1 ⟨v, rfl, hown, hB⟩
  rw [← HP.out] at hown
  obtain ⟨gl, cl, hv, hgl, -, -, -⟩ := hown.at (by rw [hp64.out]; omega)
  rw [hp64.out] at hv
  subst hv
  go_wp2
  go_loopw [3, 4, 5] (fun kv hv c wr => ∃ i : Nat, i ≤ 64 ∧ c = .int .i64 i ∧ Own wr w.heap.size .i64 3 kv ((ps.take i).map rt) ∧ Own wr w.heap.size .i64 3 hv ((ps.take (min i 8)).map rf) ∧ Own wr w.heap.size .i64 3 (.slice (some ⟨gl, 0, none⟩) 64 cl) ps ∧ Sep kv hv ∧ Sep kv (.slice (some ⟨gl, 0, none⟩) 64 cl) ∧ Sep hv (.slice (some ⟨gl, 0, none⟩) 64 cl) ∧ Below w.heap.size w wr)
    (fun _ _ c _ => 64 - (intOf c).toNat)
  case atStart => exact ⟨0, by omega, rfl, by simpa using Own.nil _ _ _ _, by simpa using Own.nil _ _ _ _, hown, Sep.nil _, Sep.nil _, Sep.nil _, hB⟩
  case round =>
    clear hown hB
    obtain ⟨i, hi, rfl, hk, hh, hl, s1, s2, s3, hB⟩ := hrel
    have hps := hp64.out
    by_cases hlt : i < 64
    · have hc := hl.cellAt i (by omega)
      have hlk : ((ps.take i).map rt).length = i := by simp; omega
      have hlh : ((ps.take (min i 8)).map rf).length = min i 8 := by simp; omega
      have HKs : Hid ((ps.take (i + 1)).map rt = (ps.take i).map rt ++ [rt (ps.getD i 0)]) := by
        exact map_snoc rt ps i (by omega)
      have HHs : Hid (i < 8 → (ps.take (min (i + 1) 8)).map rf = (ps.take (min i 8)).map rf ++ [rf (ps.getD i 0)]) := by
        intro h8
        rw [show min (i + 1) 8 = i + 1 by omega, show min i 8 = i by omega]; exact map_snoc rf ps i (by omega)
      have HHn : Hid (8 ≤ i → (ps.take (min (i + 1) 8)).map rf = (ps.take (min i 8)).map rf) := by
        intro h8
        rw [show min (i + 1) 8 = 8 by omega, show min i 8 = 8 by omega]
      obtain ⟨ks, HKv⟩ : ∃ ks, Hid (ks = (ps.take i).map rt) := ⟨_, rfl⟩
      obtain ⟨hs, HHv⟩ : ∃ hs, Hid (hs = (ps.take (min i 8)).map rf) := ⟨_, rfl⟩
      rw [← HKv.out] at hk HKs hlk
      rw [← HHv.out] at hh HHs HHn hlh
      have HLk : Hid _ := hlk
      have HLh : Hid _ := hlh
      clear hlk hlh hps
      generalize hq : ps.getD i 0 = q at *
      have HQ : Hid _ := hq
      clear hq
      go_wp2_with fail
      refine (HTc.out q _).mono ?_
      rintro _ w2 ⟨rfl, hb2⟩
      have k2 := hk.below hb2 (Nat.le_refl _)
      have h2 := hh.below hb2 (Nat.le_refl _)
      have l2 := hl.below hb2 (Nat.le_refl _)
      have B2 := hB.trans (hb2.mono hB.size)
      have z2 := B2.size
      clear hk hh hl hB hb2 hc
      by_cases h8 : i < 8
      · have h8' : (i : Int) < 8 := by omega
        go_wp2_with (first | (at_builtin; refine wpList_app1 rfl (.tmp 11) (.tmp 17) 42 3 .i64 8 rfl slI w.heap.size _ ks rfl k2 _ _ _ rfl (by rw [HLk.out]; omega) z2 ?_; intro kv' w3 k3 hg3 hat3; have h3 := h2.grown hg3 s1; have l3 := l2.grown hg3 s2; have s1' := s1.app h2 (Nat.le_succ _) hat3; have s2' := s2.app l2 (Nat.le_succ _) hat3; have B3 := below_grown B2 hg3 k2 z2 (Nat.le_refl _); have hc3 := l3.cellAt i (by rw [hp64.out]; omega); rw [HQ.out] at hc3; clear hg3 hat3) | fail)
        refine (HFc.out q _).mono ?_
        rintro _ w4 ⟨rfl, hb4⟩
        have k4 := k3.below hb4 (Nat.le_refl _)
        have h4 := h3.below hb4 (Nat.le_refl _)
        have l4 := l3.below hb4 (Nat.le_refl _)
        have B4 := B3.trans (hb4.mono B3.size)
        have z4 := B4.size
        clear hb4 k3 h3 l3 B3 hc3 k2 h2 l2 B2 z2
        go_wp2_with (at_builtin; refine wpList_app1 rfl (.tmp 21) (.tmp 27) 42 3 .i64 8 rfl slI w.heap.size _ hs rfl h4 _ _ _ rfl (by rw [HLh.out]; omega) z4 ?_; intro hv' w5 h5 hg5 hat5)
        refine ⟨⟨i + 1, by omega, by go_num, by rw [HKs.out]; exact k4.grown hg5 s1'.symm, by rw [HHs.out h8]; exact h5, l4.grown hg5 s3, (s1'.symm.app k4 (Nat.le_succ _) hat5).symm, s2', s3.app l4 (Nat.le_succ _) hat5, below_grown B4 hg5 h4 z4 (Nat.le_refl _)⟩, by simp [intOf]; omega⟩
      · have h8' : ¬ (i : Int) < 8 := by omega
        go_wp2_with (first | (at_builtin; refine wpList_app1 rfl (.tmp 11) (.tmp 17) 42 3 .i64 8 rfl slI w.heap.size _ ks rfl k2 _ _ _ rfl (by rw [HLk.out]; omega) z2 ?_; intro kv' w3 k3 hg3 hat3; have h3 := h2.grown hg3 s1; have l3 := l2.grown hg3 s2; have s1' := s1.app h2 (Nat.le_succ _) hat3; have s2' := s2.app l2 (Nat.le_succ _) hat3; have B3 := below_grown B2 hg3 k2 z2 (Nat.le_refl _); have hc3 := l3.cellAt i (by rw [hp64.out]; omega); rw [HQ.out] at hc3; clear hg3 hat3) | fail)
        refine ⟨⟨i + 1, by omega, by go_num, by rw [HKs.out]; exact k3, by rw [HHn.out (by omega)]; exact h3, l3, s1', s2', s3, B3⟩, by simp [intOf]; omega⟩
    · have hi64 : i = 64 := by omega
      have ek : (ps.take i).map rt = ps.map rt := by rw [List.take_of_length_le (by omega)]
      have eh : (ps.take (min i 8)).map rf = (ps.take 8).map rf := by rw [hi64]; rfl
      rw [ek] at hk
      rw [eh] at hh
      clear hi64 ek eh hps
      go_wp2
      go_ret2
      exact ⟨_, _, rfl, hk, hh, s1, hB⟩
end Go.Proofs.YtaokemapkgggoaaGreatDoor

namespace Go.Proofs.YtaokemapkgggoaaGreatDoor
open Go.RowKit

theorem u64_neg_and31 (n : Nat) (h1 : 1 ≤ n) (h2 : n ≤ 31) : bits .and .u64 (IntKind.u64.wrap (-(n : Int))) 31 = 32 - (n : Int) := by
  have e : IntKind.u64.wrap (-(n : Int)) = 18446744073709551616 - (n : Int) := by
    simp only [IntKind.wrap, IntKind.bits, IntKind.signed]; simp; omega
  rw [e]
  obtain ⟨a, ha⟩ := Int.eq_ofNat_of_zero_le (show (0 : Int) ≤ 18446744073709551616 - (n : Int) by omega)
  rw [ha]
  have := u64_and_nat a 31 (by omega) (by omega)
  rw [show ((31 : Nat) : Int) = 31 from rfl] at this
  rw [this, nat_mask5]
  omega

theorem rotl_bits (x : Int) (n : Nat) (hx0 : 0 ≤ x) (hx1 : x < 4294967296) (h0 : 1 ≤ n) (h1 : n ≤ 31) :
    bits .or .u32 (x * 2 ^ (32 - n) % 4294967296) (x / 2 ^ (32 - (32 - n))) = rr n x := by
  rw [show 32 - (32 - n) = n by omega]
  obtain ⟨m, hm⟩ : ∃ m, m = 32 - n := ⟨_, rfl⟩
  have hpn : (2 : Nat) ^ n * 2 ^ m = 4294967296 := by rw [← Nat.pow_add, show n + m = 32 by omega]
  obtain ⟨y, rfl⟩ := Int.eq_ofNat_of_zero_le hx0
  have hy : y < 4294967296 := by omega
  unfold rr
  rw [← hm]
  have hq : (4294967296 : Int) / 2 ^ n = ((2 ^ m : Nat) : Int) := by
    have : ((2 : Int) ^ n) * ((2 ^ m : Nat) : Int) = 4294967296 := by
      have := congrArg (fun z : Nat => (z : Int)) hpn
      simpa using this
    rw [← this]; exact Int.mul_ediv_cancel_left _ (by have := (pow_bd n h1).1; omega)
  rw [hq]
  have e1 : ((y : Int) * 2 ^ m % 4294967296) = ((y % 2 ^ n * 2 ^ m : Nat) : Int) := by
    have : y * 2 ^ m % 4294967296 = y % 2 ^ n * 2 ^ m := by rw [← hpn, Nat.mul_mod_mul_right]
    rw [← this]; simp
  have e2 : ((y : Int) / 2 ^ n) = ((y / 2 ^ n : Nat) : Int) := by simp
  have e3 : ((y : Int) % 2 ^ n) = ((y % 2 ^ n : Nat) : Int) := by simp
  rw [e1, e2, e3]
  have b1 : y % 2 ^ n * 2 ^ m < 4294967296 := by
    rw [← hpn]; exact Nat.mul_lt_mul_of_pos_right (Nat.mod_lt _ (Nat.pow_pos (by omega))) (Nat.pow_pos (by omega))
  have b2 : y / 2 ^ n < 2 ^ m := by
    apply Nat.div_lt_of_lt_mul; rw [hpn]; exact hy
  have b3 : y / 2 ^ n ≤ y := Nat.div_le_self _ _
  rw [u32_or_nat _ _ b1 (by omega), nat_join m _ _ (Nat.mul_mod_left _ _) b2]
  simp
  omega

set_option maxHeartbeats 400000 in
theorem rotl (x : Int) (n : Nat) (w : World) (hx0 : 0 ≤ x) (hx1 : x < 4294967296) (h0 : 1 ≤ n) (h1 : n ≤ 31) :
    Calls Tryz.prog 102 #[.int .u32 x, .int .i64 (-(n : Int))] w fun e w' => e = .returned (.int .u32 (rr n x)) ∧ w' = w := by
  have hs := u64_neg_and31 n h0 h1
  have HR : Hid _ := rotl_bits x n hx0 hx1 h0 h1
  go_enter Tryz.func102, Tryz.ntmps102
  go_wp2
  go_ret
  exact ⟨ret_int HR.out, rfl⟩

set_option maxHeartbeats 400000 in
theorem prog_right (x n : Int) (w : World) (hx : isW x) (h0 : 1 ≤ n) (h1 : n ≤ 31) :
    Calls Tryz.prog 96 #[.int .u32 x, .int .i64 n] w fun e w' => e = .returned (.int .u32 (rr n.toNat x)) ∧ w' = w := by
  obtain ⟨m, rfl⟩ := Int.eq_ofNat_of_zero_le (show 0 ≤ n by omega)
  rw [Int.toNat_natCast]
  go_enter Tryz.func96, Tryz.ntmps96
  go_wp2_with (go_at_call 102; refine (rotl x m _ hx.1 hx.2 (by omega) (by omega)).mono ?_; rintro e w' ⟨rfl, rfl⟩)
  go_ret
  exact ⟨rfl, rfl⟩

theorem or4 (a b c d : Int) (ha : 0 ≤ a ∧ a < 256) (hb : 0 ≤ b ∧ b < 256) (hc : 0 ≤ c ∧ c < 256) (hd : 0 ≤ d ∧ d < 256) :
    bits .or .u32 (bits .or .u32 (bits .or .u32 (a * 16777216) (b * 65536)) (c * 256)) d = word4 a b c d := by
  obtain ⟨a, rfl⟩ := Int.eq_ofNat_of_zero_le ha.1
  obtain ⟨b, rfl⟩ := Int.eq_ofNat_of_zero_le hb.1
  obtain ⟨c, rfl⟩ := Int.eq_ofNat_of_zero_le hc.1
  obtain ⟨d, rfl⟩ := Int.eq_ofNat_of_zero_le hd.1
  rw [show ((a : Int) * 16777216) = ((a * 16777216 : Nat) : Int) by simp, show ((b : Int) * 65536) = ((b * 65536 : Nat) : Int) by simp, show ((c : Int) * 256) = ((c * 256 : Nat) : Int) by simp]
  rw [u32_or_nat _ _ (by omega) (by omega), nat_join 24 _ _ (by omega) (by omega), u32_or_nat _ _ (by omega) (by omega), nat_join 16 _ _ (by omega) (by omega), u32_or_nat _ _ (by omega) (by omega), nat_join 8 _ _ (by omega) (by omega)]
  unfold word4; omega

set_option maxHeartbeats 400000 in
theorem prog_word (a b c d : Int) (w : World) (ha : 0 ≤ a ∧ a < 256) (hb : 0 ≤ b ∧ b < 256) (hc : 0 ≤ c ∧ c < 256) (hd : 0 ≤ d ∧ d < 256) :
    Calls Tryz.prog 69 #[.int .u8 a, .int .u8 b, .int .u8 c, .int .u8 d] w fun e w' => e = .returned (.int .u32 (word4 a b c d)) ∧ w' = w := by
  have H : Hid _ := or4 a b c d ha hb hc hd
  obtain ⟨ha0, ha1⟩ := ha
  obtain ⟨hb0, hb1⟩ := hb
  obtain ⟨hc0, hc1⟩ := hc
  obtain ⟨hd0, hd1⟩ := hd
  go_enter Tryz.func69, Tryz.ntmps69
  go_wp2
  go_ret
  exact ⟨ret_int H.out, rfl⟩

end Go.Proofs.YtaokemapkgggoaaGreatDoor

namespace Go.Proofs.YtaokemapkgggoaaGreatDoor
open Go.RowKit

theorem arr64b : ArrT Tryz.prog 116 64 (.int .u8 0) := ⟨⟨5, by kernel_rfl⟩, by kernel_rfl⟩
theorem arr32b : ArrT Tryz.prog 47 32 (.int .u8 0) := ⟨⟨5, by kernel_rfl⟩, by kernel_rfl⟩
theorem arr21b : ArrT Tryz.prog 79 21 (.int .u8 0) := ⟨⟨5, by kernel_rfl⟩, by kernel_rfl⟩
theorem arr4b : ArrT Tryz.prog 144 4 (.int .u8 0) := ⟨⟨5, by kernel_rfl⟩, by kernel_rfl⟩
theorem arr8b : ArrT Tryz.prog 85 8 (.int .u8 0) := ⟨⟨5, by kernel_rfl⟩, by kernel_rfl⟩
theorem arr6b : ArrT Tryz.prog 147 6 (.int .u8 0) := ⟨⟨5, by kernel_rfl⟩, by kernel_rfl⟩
theorem arr8w : ArrT Tryz.prog 76 8 (.int .u32 0) := ⟨⟨75, by kernel_rfl⟩, by kernel_rfl⟩
theorem arr64w : ArrT Tryz.prog 141 64 (.int .u32 0) := ⟨⟨75, by kernel_rfl⟩, by kernel_rfl⟩

theorem under_bytes : Tryz.prog.underlying 49 = some (.slice 5) := by kernel_rfl
theorem size_byte : (Tryz.prog.info? 5).map (·.size) = some 1 := by kernel_rfl

/-- a text's first n bytes, and bytes 0 behind them -/
def blk (n : Nat) (l : List UInt8) : List Int := bytesI (l.take n) ++ List.replicate (n - (l.take n).length) 0
theorem blk_length (n : Nat) (l : List UInt8) : (blk n l).length = n := by simp [blk, bytesI]; omega
theorem blk_cells (n : Nat) (l : List UInt8) : bcells (l.take n) ++ (zrow n (.int .u8 0)).drop (l.take n).length = u8s (blk n l) := by
  rw [bcells_eq]; simp [zrow, blk, u8s]

set_option maxRecDepth 100000 in
set_option maxHeartbeats 400000 in
theorem prog_blockOf (s : ByteArray) (w : World) :
    Calls Tryz.prog 65 #[.string s] w fun r w' => r = .returned (.agg (u8s (blk 64 s.data.toList)).toArray) ∧ Below w.heap.size w w' := by
  have hcp := run_copyStr_made (P := Tryz.prog) (w.alloc (.cells (zrow 64 (.int .u8 0)).toArray 116)) 49 9 3 5 (w.heap.size + 1) 64 64 s (zrow 64 (.int .u8 0)) 116 (by simp) under_bytes size_byte (by rw [zrow_length]; omega)
  rw [blk_cells] at hcp
  have hl := blk_length 64 s.data.toList
  have HL : Hid ((blk 64 s.data.toList).length = 64) := hl
  clear hl
  generalize blk 64 s.data.toList = b at *
  go_enter Tryz.func65, Tryz.ntmps65
  go_wp2_with (first | refine wpList_allocR rfl 116 rfl 64 (.int .u8 0) arr64b ?_ | refine wpList_loadR rfl 116 _ rfl (w.heap.size + 1) rfl 116 (u8s b) 64 (.int .u8 0) (Row.made1 _ _ _ _) arr64b (by rw [u8s_length]; exact HL.out) ?_ | refine wpList_storeR rfl 116 _ _ rfl w.heap.size rfl (u8s b) rfl 116 (zrow 64 (.int .u8 0)) 64 (.int .u8 0) ((Row.made _ _ _).alloc _) arr64b (by rw [u8s_length]; exact HL.out) (zrow_length _ _) (u8s_one _) ?_)
  refine bodyPost_ret (v := .agg (u8s b).toArray) (results_row Tryz.results65 _ w.heap.size 116 (u8s b) 64 (.int .u8 0) rfl (Row.setRow ((Row.made _ _ _).alloc _) _) arr64b (by rw [u8s_length]; exact HL.out)) rfl ⟨rfl, ?_⟩
  exact below_setRow (((Below.refl _ _).alloc (Nat.le_refl _) _).alloc (by simp) _) (Nat.le_refl _) _
end Go.Proofs.YtaokemapkgggoaaGreatDoor
