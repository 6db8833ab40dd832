import Derived.Test.YtaokemapkgggoaaGreatDoorProgKey
import Derived.Test.YtaokemapkgggoaaGreatDoorProgSum
import Derived.Deep.RegionLaw
namespace Go.Proofs.YtaokemapkgggoaaGreatDoor
open Go.RowKit

/-- the first k of a list's numbers by f -/
def mapTo (f : Int → Int) (l : List Int) (k : Nat) : List Int := (l.take k).map f ++ l.drop k
theorem mapTo_length (f : Int → Int) (l : List Int) (k : Nat) : (mapTo f l k).length = l.length := by simp [mapTo]; omega
theorem mapTo_get (f : Int → Int) (l : List Int) (k : Nat) (h : k < l.length) : (mapTo f l k).getD k 0 = l.getD k 0 := by
  unfold mapTo
  have hl : ((l.take k).map f).length = k := by simp; omega
  simp only [List.getD]
  rw [List.getElem?_append_right (by omega), hl, Nat.sub_self]
  simp [List.getElem?_drop]
theorem mapTo_set (f : Int → Int) (l : List Int) (k : Nat) (h : k < l.length) : (mapTo f l k).set k (f (l.getD k 0)) = mapTo f l (k + 1) := by
  unfold mapTo
  have hl : ((l.take k).map f).length = k := by simp; omega
  rw [List.set_append_right _ _ (by omega), hl, Nat.sub_self, List.take_succ_eq_append_getElem h, List.map_append, List.append_assoc]
  congr 1
  have e := List.drop_eq_getElem_cons h
  rw [e, List.set_cons_zero]
  simp [List.getD, h]

/-- a key filled up, each byte by the mask -/
def maskK (kb : List Int) (m : Int) : List Int := (kb ++ List.replicate 44 0).map (fun x => xr x m)
theorem xr_B {a b : Int} (ha : isB a) (hb : isB b) : isB (xr a b) := by
  unfold isB xr at *
  have h := @Nat.xor_lt_two_pow a.toNat b.toNat 8 (by omega) (by omega)
  omega
theorem maskK_B {kb : List Int} {m : Int} (hk : ∀ x ∈ kb, isB x) (hm : isB m) : ∀ x ∈ maskK kb m, isB x := by
  intro x hx
  simp only [maskK, List.mem_map, List.mem_append, List.mem_replicate] at hx
  obtain ⟨y, hy, rfl⟩ := hx
  rcases hy with hy | ⟨_, rfl⟩
  · exact xr_B (hk y hy) hm
  · exact xr_B (by unfold isB; omega) hm

theorem W8_H0 : W8 H0 := ⟨rfl, H0_w⟩
theorem Glob.range {w : World} (h : Glob w) : w.rangeAt 0 0 (u32s H0) := by
  intro j v hv
  have hj : j < 8 := by
    have := (List.getElem?_eq_some_iff.1 hv).1
    rw [u32s_length] at this; exact this
  rw [u32s_get H0 j hj] at hv
  rw [Nat.zero_add, h.h j hj, hv]
theorem size8w : (Tryz.prog.info? 76).map (·.size) = some (u32s H0).length := by kernel_rfl

theorem under21b : Tryz.prog.underlying 79 = some (.array 21 5) := by kernel_rfl

set_option maxRecDepth 100000 in
set_option maxHeartbeats 1000000 in
theorem prog_masked (kf : List Int) (m : Int) (w : World) (hG : Glob w) (hl : kf.length = 21) (hk : ∀ x ∈ kf, isB x) (hm : isB m) :
    Calls Tryz.prog 68 #[.agg (u8s kf).toArray, .int .u8 m] w fun r w' => r = .returned (.agg (u32s (blockOn K0 H0 (maskK kf.tail m))).toArray) ∧ Below w.heap.size w w' := by
  obtain ⟨kb, HKB⟩ : ∃ kb, Hid (kb = kf.tail) := ⟨_, rfl⟩
  rw [← HKB.out]
  have HL : Hid (kb.length = 20) := by show _ = _; rw [HKB.out, List.length_tail, hl]
  have HD : Hid ((u8s kf).drop 1 = u8s kb) := by show _ = _; rw [HKB.out]; simp [u8s, List.drop_one]
  have hk : ∀ x ∈ kb, isB x := fun x hx => hk x (List.mem_of_mem_tail (by rw [← HKB.out]; exact hx))
  clear hl
  obtain ⟨b0, HB0⟩ : ∃ b0 : List Int, Hid (b0 = kb ++ List.replicate 44 0) := ⟨kb ++ List.replicate 44 0, show _ = _ from rfl⟩
  have hbl : Hid (b0.length = 64) := by show _ = _; rw [HB0.out, List.length_append, HL.out]; simp
  have hbB : ∀ x ∈ b0, isB x := by
    rw [HB0.out]; intro x hx
    rcases List.mem_append.1 hx with h | h
    · exact hk x h
    · rw [List.mem_replicate] at h; unfold isB; omega
  have hsp : Hid (splice (zrow 64 (.int .u8 0)) 0 (u8s kb) = u8s b0) := by
    show _ = _
    unfold splice
    rw [HB0.out, u8s_length, HL.out]
    simp [zrow, u8s]
  go_enter Tryz.func68, Tryz.ntmps68
  go_wp2_with (first | (refine wpList_boxR rfl 79 _ rfl (u8s kf) rfl ?_; go_simp) | (refine wpList_allocR rfl 76 rfl 8 (.int .u32 0) arr8w ?_; go_simp) | (refine wpList_allocR rfl 116 rfl 64 (.int .u8 0) arr64b ?_; go_simp))
  have r2 : Row (((w.alloc (.cells (u8s kf).toArray 79)).alloc (.cells (zrow 8 (.int .u32 0)).toArray 76)).alloc (.cells (zrow 64 (.int .u8 0)).toArray 116)) w.heap.size (u8s kf) 79 := ((Row.made _ _ _).alloc _).alloc _
  have r4 : Row (((w.alloc (.cells (u8s kf).toArray 79)).alloc (.cells (zrow 8 (.int .u32 0)).toArray 76)).alloc (.cells (zrow 64 (.int .u8 0)).toArray 116)) (w.heap.size + 1) (zrow 8 (.int .u32 0)) 76 := (Row.made1 _ _ _ _).alloc _
  have r5 : Row (((w.alloc (.cells (u8s kf).toArray 79)).alloc (.cells (zrow 8 (.int .u32 0)).toArray 76)).alloc (.cells (zrow 64 (.int .u8 0)).toArray 116)) (w.heap.size + 1 + 1) (zrow 64 (.int .u8 0)) 116 := by
    have := Row.made1 (w.alloc (.cells (u8s kf).toArray 79)) (.cells (zrow 8 (.int .u32 0)).toArray 76) (zrow 64 (.int .u8 0)) 116
    rwa [World.size_alloc] at this
  have rw0 : Below w.heap.size w (((w.alloc (.cells (u8s kf).toArray 79)).alloc (.cells (zrow 8 (.int .u32 0)).toArray 76)).alloc (.cells (zrow 64 (.int .u8 0)).toArray 116)) :=
    (((Below.refl _ _).alloc (Nat.le_refl _) _).alloc (by simp) _).alloc (by simp; omega) _
  generalize ((w.alloc (.cells (u8s kf).toArray 79)).alloc (.cells (zrow 8 (.int .u32 0)).toArray 76)).alloc (.cells (zrow 64 (.int .u8 0)).toArray 116) = wz at *
  have hsrc : ∀ j v, (u8s kb)[j]? = some v → wz.drew.cell? ((⟨w.heap.size, 1, none⟩ : Addr).add j) = some v := by
    have := row_src_at (show Row wz.drew _ _ _ from r2) 1
    rw [HD.out] at this; exact this
  go_region_law (refine step_copy_splice rfl (.tmp 7) (.tmp 8) 49 49 rfl 5 under_bytes size_byte (some ⟨w.heap.size + 1 + 1, 0, none⟩) (some ⟨w.heap.size, 1, none⟩) 64 64 20 20 rfl rfl (w.heap.size + 1 + 1) 0 (zrow 64 (.int .u8 0)) 116 r5 (u8s kb) (by rw [u8s_length, HL.out]; rfl) (fun _ => ⟨rfl, _, rfl, hsrc⟩) (by rw [u8s_length, HL.out, zrow_length]; omega) (u8s_one _) (w.heap.size + 1 + 1) _ (Below.refl _ _) (Nat.le_refl _) ?_; intro w6 hg6 hb6)
  have g5 : Row w6 (w.heap.size + 1 + 1) (u8s b0) 116 := by have := hg6.out; rw [hsp.out] at this; exact this
  have g4 := r4.drew.below hb6 (by omega)
  have gw := rw0.drew.trans (hb6.mono (by omega))
  clear hg6 hb6 r2 r4 r5 rw0
  go_wp2
  go_loopw [10] (fun c wr => ∃ k : Nat, k ≤ 64 ∧ c = .int .i64 k ∧ Row wr (w.heap.size + 1 + 1) (u8s (mapTo (fun x => xr x m) b0 k)) 116 ∧ Row wr (w.heap.size + 1) (zrow 8 (.int .u32 0)) 76 ∧ Below w.heap.size w wr)
    (fun c _ => 64 - (intOf c).toNat)
  case atStart => exact ⟨0, by omega, rfl, by simpa [mapTo] using g5, g4, gw⟩
  case round =>
    clear g5 g4 gw
    obtain ⟨k, hk64, rfl, hR, hR4, hB⟩ := hrel
    by_cases hlt : k < 64
    · have hc : wr.cell? ⟨w.heap.size + 1 + 1, k, none⟩ = some (.int .u8 (b0.getD k 0)) := by
        rw [hR.cell, u8s_get _ _ (by rw [mapTo_length, hbl.out]; exact hlt), mapTo_get _ _ _ (by rw [hbl.out]; exact hlt)]
      have hf := hR.frozen k
      have hx := getD_isB hbB k
      have hxm := u8_xor (b0.getD k 0) m hx.1 hx.2 hm.1 hm.2
      have HS : Hid _ := mapTo_set (fun x => xr x m) b0 k (by rw [hbl.out]; exact hlt)
      have HXM : Hid _ := hxm
      clear hxm
      generalize b0.getD k 0 = x at *
      go_wp2
      refine ⟨⟨k + 1, by omega, by go_num, ?_, ?_, ?_⟩, by simp [intOf]; omega⟩
      · have := hR.setCell k (.int .u8 (bits .xor .u8 x m))
        rw [u8s_set] at this
        have e : bits .xor .u8 x m = xr x m := HXM.out
        rw [e] at this ⊢
        rwa [HS.out] at this
      · exact hR4.setCell_other _ _ (by simp)
      · exact hB.setCell (by simp; omega) _
    · have hk8 : k = 64 := by omega
      have e64 : mapTo (fun x => xr x m) b0 k = maskK kb m := by
        rw [hk8, maskK, ← HB0.out]
        have := hbl.out
        simp [mapTo, List.take_of_length_le (show b0.length ≤ 64 by omega), List.drop_eq_nil_of_le (show b0.length ≤ 64 by omega)]
      rw [e64] at hR
      clear hk8 e64
      obtain ⟨mk, HM⟩ : ∃ mk, Hid (mk = maskK kb m) := ⟨_, rfl⟩
      rw [← HM.out] at hR
      have hml : Hid (mk.length = 64) := by show _ = _; rw [HM.out, maskK, List.length_map, ← HB0.out]; exact hbl.out
      have hmB : ∀ x ∈ mk, isB x := by rw [HM.out]; exact maskK_B hk hm
      have hGr := hG.below hB (Nat.le_refl _)
      go_wp2_with (first | (refine wpList_load_mid rfl 76 (.global 0) rfl 0 0 rfl (u32s H0) _ hGr.range under8w rfl size8w ?_; go_simp) | (refine wpList_loadR rfl 116 _ rfl (w.heap.size + 1 + 1) rfl 116 (u8s mk) 64 (.int .u8 0) hR arr64b (by rw [u8s_length]; exact hml.out) ?_; go_simp) | (go_at_call 64; refine (prog_turn H0 mk _ hGr W8_H0 hml.out hmB).mono ?_; rintro _ w7 ⟨rfl, hb7⟩; obtain ⟨ov, HO⟩ := (⟨_, rfl⟩ : ∃ ov, Hid (ov = blockOn K0 H0 mk)); rw [← HO.out]; have ho8 : W8 ov := (by rw [HO.out]; exact blockOn_w8 W8_H0); have k4 := hR4.below hb7 hR4.lt; have kw := hB.trans (hb7.mono (by have := hR4.lt; omega)); clear hb7) | (refine wpList_storeR rfl 76 _ _ rfl (w.heap.size + 1) rfl (u32s ov) rfl 76 (zrow 8 (.int .u32 0)) 8 (.int .u32 0) k4 arr8w (by rw [u32s_length, ho8.len]) (zrow_length _ _) (u32s_one _) ?_; go_simp))
      refine bodyPost_ret (v := .agg (u32s ov).toArray) (results_row Tryz.results68 _ (w.heap.size + 1) 76 (u32s ov) 8 (.int .u32 0) rfl (Row.setRow k4 _) arr8w (by rw [u32s_length, ho8.len])) rfl ⟨by rw [HO.out, HM.out], below_setRow kw (Nat.le_succ _) _⟩
end Go.Proofs.YtaokemapkgggoaaGreatDoor
