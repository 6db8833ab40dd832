import Derived.Test.YtaokemapkgggoaaDoorKb03
import Derived.Deep.RegionHeld3
namespace Go.Proofs.YtaokemapkgggoaaDoor
open Go.RowKit

theorem wrap_id (n : Int) (h0 : -9223372036854775808 ≤ n) (h1 : n ≤ 9223372036854775807) : IntKind.i64.wrap n = n := by
  simp only [IntKind.wrap, IntKind.bits, IntKind.signed]
  simp
  omega

theorem cell_set_off (w : World) (a b : Addr) (v : Value) (h : b.block ≠ a.block) : (w.setCell a v).drew.cell? b = w.cell? b :=
  World.cell?_of_block (w := w) (Below.heap_setCell w a v b.block h)

/-- a list of bytes -/
def isB (x : Int) : Prop := 0 ≤ x ∧ x < 256
theorem getD_isB {b : List Int} (h : ∀ x ∈ b, isB x) (i : Nat) : 0 ≤ b.getD i 0 ∧ b.getD i 0 < 256 := by
  by_cases hi : i < b.length
  · have : b.getD i 0 = b[i] := by simp [List.getD, hi]
    rw [this]; exact h _ (List.getElem_mem _)
  · have : b.getD i 0 = 0 := by simp [List.getD, List.getElem?_eq_none (Nat.le_of_not_lt hi)]
    rw [this]; omega
theorem getD_isW {b : List Int} (h : ∀ x ∈ b, isW x) (i : Nat) : isW (b.getD i 0) := by
  by_cases hi : i < b.length
  · have : b.getD i 0 = b[i] := by simp [List.getD, hi]
    rw [this]; exact h _ (List.getElem_mem _)
  · have : b.getD i 0 = 0 := by simp [List.getD, List.getElem?_eq_none (Nat.le_of_not_lt hi)]
    rw [this]; unfold isW; omega

/-- the t-th word of W, of the words ahead of it -/
def wordAt (b l : List Int) (t : Nat) : Int :=
  if t < 16 then word4 (b.getD (4 * t) 0) (b.getD (4 * t + 1) 0) (b.getD (4 * t + 2) 0) (b.getD (4 * t + 3) 0)
  else nextW (l.getD (t - 16) 0) (l.getD (t - 15) 0) (l.getD (t - 7) 0) (l.getD (t - 2) 0)
theorem rowW_succ (b : List Int) (t : Nat) : rowW b (t + 1) = rowW b t ++ [wordAt b (rowW b t) t] := rfl
theorem wordAt_w {b : List Int} (h : ∀ x ∈ b, isB x) (l : List Int) (t : Nat) : isW (wordAt b l t) := by
  unfold wordAt
  split
  · exact word4_w (getD_isB h _) (getD_isB h _) (getD_isB h _) (getD_isB h _)
  · exact mod_w _
theorem rowW_w {b : List Int} (h : ∀ x ∈ b, isB x) (t : Nat) : ∀ x ∈ rowW b t, isW x := by
  induction t with
  | zero => intro x hx; cases hx
  | succ t ih =>
    intro x hx
    rw [rowW_succ, List.mem_append] at hx
    rcases hx with hx | hx
    · exact ih x hx
    · simp only [List.mem_singleton] at hx; subst hx; exact wordAt_w h _ _

def padW (b : List Int) (k : Nat) : List Int := rowW b k ++ List.replicate (64 - k) 0
theorem padW_length (b : List Int) (k : Nat) (h : k ≤ 64) : (padW b k).length = 64 := by simp [padW, rowW_length]; omega
theorem padW_set (b : List Int) (k : Nat) (h : k < 64) : (padW b k).set k (wordAt b (rowW b k) k) = padW b (k + 1) := by
  unfold padW
  rw [List.set_append_right _ _ (by rw [rowW_length]; exact Nat.le_refl _), rowW_length, Nat.sub_self, show 64 - k = (64 - (k + 1)) + 1 by omega, List.replicate_succ, List.set_cons_zero, rowW_succ]
  simp
theorem s0_bits {x : Int} (h : isW x) : bits .xor .u32 (bits .xor .u32 (rr 7 x) (rr 18 x)) (x / 8) = s0 x := by
  have h3 := shr_w 3 h
  rw [show (2 : Int) ^ 3 = 8 from rfl] at h3
  rw [u32_xor_w (rr_w 7 (by omega) h) (rr_w 18 (by omega) h), u32_xor_w (xr_w (rr_w 7 (by omega) h) (rr_w 18 (by omega) h)) h3]; rfl
theorem s1_bits {x : Int} (h : isW x) : bits .xor .u32 (bits .xor .u32 (rr 17 x) (rr 19 x)) (x / 1024) = s1 x := by
  have h3 := shr_w 10 h
  rw [show (2 : Int) ^ 10 = 1024 from rfl] at h3
  rw [u32_xor_w (rr_w 17 (by omega) h) (rr_w 19 (by omega) h), u32_xor_w (xr_w (rr_w 17 (by omega) h) (rr_w 19 (by omega) h)) h3]; rfl
theorem cell_set_in (w : World) (g i j : Nat) (v : Value) (h : i ≠ j) : (w.setCell ⟨g, i, none⟩ v).drew.cell? ⟨g, j, none⟩ = w.cell? ⟨g, j, none⟩ := by
  show (w.setCell ⟨g, i, none⟩ v).cell? ⟨g, j, none⟩ = _
  simp only [World.cell?, World.setCell, Array.getElem?_modify, if_pos]
  cases w.heap[g]? with
  | none => rfl
  | some o => cases o <;> simp [h]

theorem padW_get (b : List Int) (k j : Nat) (h : j < k) : (padW b k).getD j 0 = (rowW b k).getD j 0 := by
  unfold padW
  simp [List.getD, List.getElem?_append_left (show j < (rowW b k).length by rw [rowW_length]; exact h)]

set_option maxRecDepth 100000 in
set_option maxHeartbeats 4000000 in
theorem prog_spread (b : List Int) (w : World) (hl : b.length = 64) (hbb : ∀ x ∈ b, isB x) :
    Calls Tryd.prog 61 #[.agg (u8s b).toArray] w fun r w' => r = .returned (.agg (u32s (rowW b 64)).toArray) ∧ Below w.heap.size w w' := by
  have HL : Hid (b.length = 64) := hl
  clear hl
  go_enter Tryd.func61, Tryd.ntmps61
  go_wp2_with (first | refine wpList_allocR rfl 115 rfl 64 (.int .u32 0) arr64w ?_ | refine wpList_boxR rfl 95 _ rfl (u8s b) rfl ?_)
  obtain ⟨W2, HW2⟩ : ∃ W2, Hid (W2 = (w.alloc (.cells (u8s b).toArray 95)).alloc (.cells (zrow 64 (.int .u32 0)).toArray 115)) := ⟨_, rfl⟩
  go_loopw [10] (fun c wr => ∃ k : Nat, k ≤ 16 ∧ c = .int .i64 k ∧ Row wr (w.heap.size + 1 + 1) (u32s (padW b k)) 115 ∧ Below (w.heap.size + 1 + 1) W2 wr)
    (fun c _ => 16 - (intOf c).toNat)
  case atStart =>
    refine ⟨0, by omega, rfl, ?_, ?_⟩
    · have := Row.made1 (w.alloc (.cells (u8s b).toArray 95)) (.cells (zrow 64 (.int .u32 0)).toArray 115) (zrow 64 (.int .u32 0)) 115
      rw [World.size_alloc, zrow_u32] at this
      simpa [padW, rowW, zrow_u32] using this
    · rw [HW2.out]; exact (Below.refl _ _).alloc (by simp) _
  case round =>
    obtain ⟨k, hk, rfl, hR, hB⟩ := hrel
    have hBk : Row wr w.heap.size (u8s b) 95 := (show Row W2 w.heap.size (u8s b) 95 by rw [HW2.out]; exact (Row.made _ _ _).alloc _).below hB (by omega)
    by_cases hlt : k < 16
    · have hlen := padW_length b k (by omega)
      have hL := HL.out
      have hc0 : wr.cell? ⟨w.heap.size, 4 * k, none⟩ = some (.int .u8 (b.getD (4 * k) 0)) := by rw [hBk.cell, u8s_get _ _ (by omega)]
      have hc1 : wr.cell? ⟨w.heap.size, 4 * k + 1, none⟩ = some (.int .u8 (b.getD (4 * k + 1) 0)) := by rw [hBk.cell, u8s_get _ _ (by omega)]
      have hc2 : wr.cell? ⟨w.heap.size, 4 * k + 2, none⟩ = some (.int .u8 (b.getD (4 * k + 2) 0)) := by rw [hBk.cell, u8s_get _ _ (by omega)]
      have hc3 : wr.cell? ⟨w.heap.size, 4 * k + 3, none⟩ = some (.int .u8 (b.getD (4 * k + 3) 0)) := by rw [hBk.cell, u8s_get _ _ (by omega)]
      have hc4 : wr.cell? ⟨w.heap.size + 1 + 1, k, none⟩ = some (.int .u32 ((padW b k).getD k 0)) := by rw [hR.cell, u32s_get _ _ (by omega)]
      have hf := hR.frozen k
      have b0 := getD_isB hbb (4 * k)
      have b1 := getD_isB hbb (4 * k + 1)
      have b2 := getD_isB hbb (4 * k + 2)
      have b3 := getD_isB hbb (4 * k + 3)
      have hv : Hid (word4 (b.getD (4 * k) 0) (b.getD (4 * k + 1) 0) (b.getD (4 * k + 2) 0) (b.getD (4 * k + 3) 0) = wordAt b (rowW b k) k) := by
        show _ = _; unfold wordAt; rw [if_pos hlt]
      generalize b.getD (4 * k) 0 = x0 at *
      generalize b.getD (4 * k + 1) 0 = x1 at *
      generalize b.getD (4 * k + 2) 0 = x2 at *
      generalize b.getD (4 * k + 3) 0 = x3 at *
      clear hL hlen
      have i0 : 4 * (k : Int) < 64 := by omega
      have i1 : 4 * (k : Int) + 1 < 64 := by omega
      have i2 : 4 * (k : Int) + 2 < 64 := by omega
      have i3 : 4 * (k : Int) + 3 < 64 := by omega
      have i4 : (k : Int) < 64 := by omega
      have n0 : 0 ≤ 4 * (k : Int) := by omega
      have n1 : 0 ≤ 4 * (k : Int) + 1 := by omega
      have n2 : 0 ≤ 4 * (k : Int) + 2 := by omega
      have n3 : 0 ≤ 4 * (k : Int) + 3 := by omega
      have t0 : (4 * (k : Int)).toNat = 4 * k := by omega
      have t1 : (4 * (k : Int) + 1).toNat = 4 * k + 1 := by omega
      have t2 : (4 * (k : Int) + 2).toNat = 4 * k + 2 := by omega
      have t3 : (4 * (k : Int) + 3).toNat = 4 * k + 3 := by omega
      have hoff : ∀ (v : Value) (j : Nat), (wr.setCell ⟨w.heap.size + 1 + 1, k, none⟩ v).drew.cell? ⟨w.heap.size, j, none⟩ = wr.cell? ⟨w.heap.size, j, none⟩ := fun v j => cell_set_off _ _ _ _ (by simp; omega)
      have j0 := wrap_id (4 * (k : Int)) (by omega) (by omega)
      have j1 := wrap_id (4 * (k : Int) + 1) (by omega) (by omega)
      have j2 := wrap_id (4 * (k : Int) + 2) (by omega) (by omega)
      have j3 := wrap_id (4 * (k : Int) + 3) (by omega) (by omega)
      go_wp2
      go_region_held3 (fun w' => w'.cell? ⟨w.heap.size, 4 * k, none⟩ = some (.int .u8 x0) ∧ w'.cell? ⟨w.heap.size, 4 * k + 1, none⟩ = some (.int .u8 x1) ∧ w'.cell? ⟨w.heap.size, 4 * k + 2, none⟩ = some (.int .u8 x2) ∧ w'.cell? ⟨w.heap.size, 4 * k + 3, none⟩ = some (.int .u8 x3)) (go_keep) (first | (go_at_call 49; refine (prog_word _ _ _ _ _ b0 b1 b2 b3).mono ?_; rintro _ _ ⟨rfl, rfl⟩))
      go_wp2
      refine ⟨⟨k + 1, by omega, by go_num, ?_, ?_⟩, by simp [intOf]; omega⟩
      · have := (hR.setCell k (.int .u32 (word4 x0 x1 x2 x3))).drew
        have hs := padW_set b k (by omega)
        rw [← hv.out] at hs
        rwa [u32s_set, hs] at this
      · exact (hB.setCell (Nat.le_refl _) _).drew
    · have hk8 : k = 16 := by omega
      have HK : Hid (k = 16) := hk8
      clear hBk hk8
      go_wp2
      go_loopw [5] (fun c ws => ∃ t : Nat, 16 ≤ t ∧ t ≤ 64 ∧ c = .int .i64 t ∧ Row ws (w.heap.size + 1 + 1) (u32s (padW b t)) 115 ∧ Below (w.heap.size + 1 + 1) W2 ws)
        (fun c _ => 64 - (intOf c).toNat)
      case atStart => exact ⟨16, by omega, by omega, rfl, by rw [HK.out] at hR; exact hR, hB⟩
      case round =>
        clear hR hB
        obtain ⟨t, ht0, ht, rfl, hR, hB⟩ := hrel
        by_cases hlt : t < 64
        · have hlen := padW_length b t ht
          have hx15 := getD_isW (rowW_w hbb t) (t - 15)
          have hx2 := getD_isW (rowW_w hbb t) (t - 2)
          have hx7 := getD_isW (rowW_w hbb t) (t - 7)
          have hx16 := getD_isW (rowW_w hbb t) (t - 16)
          have e0 := s0_bits hx15
          have e1 := s1_bits hx2
          have hc15 : wr.cell? ⟨w.heap.size + 1 + 1, t - 15, none⟩ = some (.int .u32 ((rowW b t).getD (t - 15) 0)) := by rw [hR.cell, u32s_get _ _ (by omega), padW_get _ _ _ (by omega)]
          have hc2 : wr.cell? ⟨w.heap.size + 1 + 1, t - 2, none⟩ = some (.int .u32 ((rowW b t).getD (t - 2) 0)) := by rw [hR.cell, u32s_get _ _ (by omega), padW_get _ _ _ (by omega)]
          have hc7 : wr.cell? ⟨w.heap.size + 1 + 1, t - 7, none⟩ = some (.int .u32 ((rowW b t).getD (t - 7) 0)) := by rw [hR.cell, u32s_get _ _ (by omega), padW_get _ _ _ (by omega)]
          have hc16 : wr.cell? ⟨w.heap.size + 1 + 1, t - 16, none⟩ = some (.int .u32 ((rowW b t).getD (t - 16) 0)) := by rw [hR.cell, u32s_get _ _ (by omega), padW_get _ _ _ (by omega)]
          have hc0 : wr.cell? ⟨w.heap.size + 1 + 1, t, none⟩ = some (.int .u32 ((padW b t).getD t 0)) := by rw [hR.cell, u32s_get _ _ (by omega)]
          have hf := hR.frozen t
          have hv : Hid (wordAt b (rowW b t) t = nextW ((rowW b t).getD (t - 16) 0) ((rowW b t).getD (t - 15) 0) ((rowW b t).getD (t - 7) 0) ((rowW b t).getD (t - 2) 0)) := by
            show _ = _; unfold wordAt; rw [if_neg (by omega)]
          generalize (rowW b t).getD (t - 15) 0 = x15 at *
          generalize (rowW b t).getD (t - 2) 0 = x2 at *
          generalize (rowW b t).getD (t - 7) 0 = x7 at *
          generalize (rowW b t).getD (t - 16) 0 = x16 at *
          clear hlen
          have i0 : (t : Int) < 64 := by omega
          have i1 : (16 : Int) ≤ t := by omega
          go_wp2
          go_quiet (fail)
          go_wp2_with (go_at_call 72; refine (prog_right _ _ _ (by assumption) (by omega) (by omega)).mono ?_; rintro _ _ ⟨rfl, rfl⟩)
          go_region
          go_wp2
          go_roundw
          case measure => simp [intOf]; omega
          case rel =>
          refine ⟨t + 1, by omega, by omega, by go_num, ?_, ?_⟩
          · have := (hR.drewN (nq + 1)).setCell t (.int .u32 ((s1 x2 + x7 + s0 x15 + x16) % 4294967296))
            have hs := padW_set b t hlt
            rw [hv.out] at hs
            unfold nextW at hs
            rwa [u32s_set, hs] at this
          · exact (below_drewN hB _).setCell (Nat.le_refl _) _
        · have hk8 : t = 64 := by omega
          subst hk8
          have e8 : padW b 64 = rowW b 64 := by simp [padW]
          rw [e8] at hR
          have hlen : (u32s (rowW b 64)).length = 64 := by rw [u32s_length, rowW_length]
          have HLen : Hid _ := hlen
          clear hlen
          have hO : Row wr (w.heap.size + 1) (zrow 64 (.int .u32 0)) 115 := (show Row W2 (w.heap.size + 1) (zrow 64 (.int .u32 0)) 115 by rw [HW2.out]; exact Row.made1 _ _ _ _).below hB (by omega)
          have hBB : Below w.heap.size w wr := (show Below w.heap.size w W2 by rw [HW2.out]; exact ((Below.refl _ _).alloc (Nat.le_refl _) _).alloc (by simp) _).trans (hB.mono (by omega))
          obtain ⟨R, HRe⟩ : ∃ R, Hid (R = rowW b 64) := ⟨_, rfl⟩
          rw [← HRe.out] at hR HLen
          go_wp2_with (first | refine wpList_loadR rfl 115 _ rfl (w.heap.size + 1 + 1) rfl 115 (u32s R) 64 (.int .u32 0) hR arr64w HLen.out ?_ | refine wpList_storeR rfl 115 _ _ rfl (w.heap.size + 1) rfl (u32s R) rfl 115 (zrow 64 (.int .u32 0)) 64 (.int .u32 0) hO arr64w HLen.out (zrow_length _ _) (u32s_one _) ?_)
          refine bodyPost_ret (v := .agg (u32s R).toArray) (results_row Tryd.results61 _ (w.heap.size + 1) 115 (u32s R) 64 (.int .u32 0) rfl (Row.setRow hO _) arr64w HLen.out) rfl ⟨by rw [HRe.out], ?_⟩
          exact below_setRow hBB (by omega) _
end Go.Proofs.YtaokemapkgggoaaDoor
