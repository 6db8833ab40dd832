import Derived.Test.YtaokemapkgggoaaGreatDoorRefStep
namespace Go.Proofs.YtaokemapkgggoaaGreatDoor
open Go.RowKit

/-- a key filled up to 64 bytes, each by the mask -/
def refMask (l : List UInt8) (m : Int) : List Int := (List.range 64).map fun i => xr ((bytesI l).getD i 0) m
theorem refMask_length (l : List UInt8) (m : Int) : (refMask l m).length = 64 := by simp [refMask]
theorem refMask_snoc (l : List UInt8) (m : Int) (i : Nat) (h : i < 64) : (refMask l m).take (i + 1) = (refMask l m).take i ++ [xr ((bytesI l).getD i 0) m] := by
  rw [List.take_succ_eq_append_getElem (by rw [refMask_length]; exact h)]
  congr 2
  simp [refMask]
theorem refMask_eq (l : List UInt8) (m : Int) (h : l.length ≤ 20) : refMask l m = maskK (blk 20 l) m := by
  apply List.ext_getElem
  · simp [refMask, maskK, blk_length]
  · intro i h1 h2
    have hi : i < 64 := by rw [refMask_length] at h1; exact h1
    simp only [refMask, maskK, List.getElem_map, List.getElem_range]
    congr 1
    have hb : blk 20 l ++ List.replicate 44 0 = bytesI l ++ List.replicate (64 - l.length) 0 := by
      unfold blk
      rw [List.take_of_length_le h, List.append_assoc, List.replicate_append_replicate]
      congr 2
      omega
    have hg : ∀ (L : List Int) (h : i < L.length), L[i] = L.getD i 0 := fun L h => by simp [List.getD, h]
    have hlen : i < (blk 20 l ++ List.replicate 44 (0 : Int)).length := by rw [List.length_append, blk_length, List.length_replicate]; omega
    have h3 : (blk 20 l ++ List.replicate 44 0)[i]'hlen = (bytesI l ++ List.replicate (64 - l.length) 0).getD i 0 := by
      rw [hg _ hlen, hb]
    rw [h3]
    simp only [List.getD]
    by_cases hl : i < (bytesI l).length
    · rw [List.getElem?_append_left hl]
    · rw [List.getElem?_append_right (by omega), List.getElem?_eq_none (Nat.le_of_not_lt hl), List.getElem?_replicate]
      split <;> rfl

theorem byte_at {s : ByteArray} {i : Nat} (h : i < s.size) : ((s[i]'h).toNat : Int) = (bytesI s.data.toList).getD i 0 := by
  have h' : i < s.data.toList.length := by rw [Array.length_toList]; exact h
  simp only [bytesI, List.getD, List.getElem?_map, List.getElem?_eq_getElem h']
  rfl

set_option maxRecDepth 100000 in
set_option maxHeartbeats 1000000 in
theorem ref_padded (s : ByteArray) (m : Int) (w : World) (hm : isB m) :
    Calls Tryz.prog 47 #[.string s, .int .u8 m] w fun r w' => r = .returned (.string (strOfNums (refMask s.data.toList m))) ∧ Below w.heap.size w w' := by
  obtain ⟨ml, HM⟩ : ∃ ml, Hid (ml = refMask s.data.toList m) := ⟨_, rfl⟩
  have hml : Hid (ml.length = 64) := by show _ = _; rw [HM.out, refMask_length]
  have HMS : Hid (∀ i, i < 64 → ml.take (i + 1) = ml.take i ++ [xr ((bytesI s.data.toList).getD i 0) m]) := by rw [HM.out]; exact fun i hi => refMask_snoc _ _ i hi
  go_enter Tryz.func47, Tryz.ntmps47
  go_wp2
  go_loopw [5, 6] (fun ov c wr => ∃ i : Nat, i ≤ 64 ∧ c = .int .i64 i ∧ Own wr w.heap.size .u8 5 ov (ml.take i) ∧ Below w.heap.size w wr) (fun _ c _ => 64 - (intOf c).toNat)
  case atStart => exact ⟨0, by omega, rfl, Own.nil _ _ _ _, Below.refl _ _⟩
  case round =>
    obtain ⟨i, hi, rfl, hO, hB⟩ := hrel
    have hbs := hB.size
    have hol : Hid ((ml.take i).length = i) := by show _ = _; rw [List.length_take, hml.out]; omega
    by_cases hlt : i < 64
    · have HS : Hid _ := HMS.out i hlt
      have hbd := getD_isB (bytesI_B s.data.toList) i
      have hxm := u8_xor ((bytesI s.data.toList).getD i 0) m hbd.1 hbd.2 hm.1 hm.2
      have hxm' : bits .xor .u8 ((bytesI s.data.toList).getD i 0) m = xr ((bytesI s.data.toList).getD i 0) m := hxm
      clear hxm
      by_cases hk : i < s.size
      · have hb := byte_at hk
        have hki : (i : Int) < s.size := by omega
        generalize (bytesI s.data.toList).getD i 0 = x at *
        go_wp2_with (at_builtin; refine wpList_app1 rfl (.tmp 19) (.tmp 23) 49 5 .u8 1 rfl slB w.heap.size _ (ml.take i) rfl hO _ _ _ rfl (by rw [hol.out]; omega) hbs ?_; intro ov' w1 hO' hgrow _)
        refine ⟨⟨i + 1, by omega, by go_num, by rw [HS.out]; exact hO', below_grown hB hgrow hO hbs (Nat.le_refl _)⟩, by simp [intOf]; omega⟩
      · have hz : (bytesI s.data.toList).getD i 0 = 0 := by
          have h1 : s.data.toList.length = s.size := by rw [Array.length_toList]; rfl
          simp [List.getD, List.getElem?_eq_none (show (bytesI s.data.toList).length ≤ i by rw [bytesI, List.length_map, h1]; omega)]
        rw [hz] at HS hxm'
        clear hz hbd
        have hki : ¬ (i : Int) < s.size := by omega
        go_wp2_with (at_builtin; refine wpList_app1 rfl (.tmp 19) (.tmp 23) 49 5 .u8 1 rfl slB w.heap.size _ (ml.take i) rfl hO _ _ _ rfl (by rw [hol.out]; omega) hbs ?_; intro ov' w1 hO' hgrow _)
        refine ⟨⟨i + 1, by omega, by go_num, by rw [HS.out]; exact hO', below_grown hB hgrow hO hbs (Nat.le_refl _)⟩, by simp [intOf]; omega⟩
    · have hi64 : i = 64 := by omega
      have e : ml.take i = ml := List.take_of_length_le (by rw [hml.out]; omega)
      rw [e] at hO
      obtain ⟨go, co, hv, -, -, hcell, -⟩ := hO.at (by rw [hml.out]; omega)
      rw [hml.out] at hv
      subst hv
      have hconv := run_convert_bytes_arg wr 49 5 under_bytes under_u8 go 0 64 co ml hml.out (fun i hi => by rw [Nat.zero_add]; exact hcell i (by rw [hml.out]; exact hi)) 9 under_str
      clear hcell hi64 e
      go_wp2
      go_ret
      exact ⟨ret_str HM.out, hB⟩
end Go.Proofs.YtaokemapkgggoaaGreatDoor
