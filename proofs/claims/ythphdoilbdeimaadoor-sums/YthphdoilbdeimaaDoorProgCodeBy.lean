import Derived.Test.YthphdoilbdeimaaDoorProgCode
namespace Go.Proofs.YthphdoilbdeimaaDoor
open Go.RowKit

section
variable {P : Program} {ops : Array Oper} {o : Oper} {a : Act} {w : World} {K : Act → World → Prop} {Q : Exit → Act → World → Prop} {E : Prop}
theorem step_of (hgd : o.guard = none) (h : o.wp P a w K Q) : if Region.wanted o (yielded ops a.tmps) = true then o.wp P a w K Q else E := by
  have hw : Region.wanted o (yielded ops a.tmps) = true := by simp [Region.wanted, hgd]
  rw [if_pos hw]; exact h
theorem wp_callC (f : FuncId) (args : Array Value) (hrun : (execOp a.eval o).run P w = .ok (.enter f args) w)
    (hc : Calls P f args w fun e w' => ∃ v, e = .returned v ∧ K (a.put o.dst v) w') : o.wp P a w K Q := by
  unfold Oper.wp
  rw [hrun]
  refine hc.mono ?_
  rintro _ w' ⟨v, rfl, hk⟩
  exact hk
theorem yields_of {S : World → Prop} {v : Value} (hgd : o.guard = none) (h : ∀ w', S w' → (execOp a.eval o).run P w' = .ok (.value v) w') : YieldsIf P ops S o v a :=
  .inl ⟨by simp [Region.wanted, hgd], h⟩
end

theorem u8_and127 {x : Int} (h : 0 ≤ x ∧ x < 256) : bits .and .u8 x 127 = x % 128 := by
  rw [u8_and x 127 h.1 h.2 (by omega) (by omega), show (127 : Int).toNat = 127 from rfl, nat_mask7]
  omega

theorem ret_str {a b : List Int} (h : a = b) : Ending.returned (.string (strOfNums a)) = .returned (.string (strOfNums b)) := by rw [h]
theorem word_mod {x : Int} : isW (x % 1000000) := by unfold isW; omega

def codeSpec (kb : List Int) (n : Int) : List Int :=
  let sv := sealSpec kb (toBytes (eightTo n 8))
  let k := (sv.getD 31 0 % 16).toNat
  digTo (word4 (sv.getD k 0 % 128) (sv.getD (k + 1) 0) (sv.getD (k + 2) 0) (sv.getD (k + 3) 0) % 1000000) 6

theorem keep_call2 {w W wx : World} {kb iv : List Int} {g : Nat} (hb : Below W.heap.size W wx) (hg : w.heap.size < g)
    (h : W.rangeAt w.heap.size 0 (u8s kb) ∧ W.rangeAt g 0 (u8s iv) ∧ Below w.heap.size w W ∧ g < W.heap.size) :
    wx.rangeAt w.heap.size 0 (u8s kb) ∧ wx.rangeAt g 0 (u8s iv) ∧ Below w.heap.size w wx ∧ g < wx.heap.size :=
  ⟨range_below h.1 hb (by omega), range_below h.2.1 hb h.2.2.2, h.2.2.1.trans (hb.mono (by omega)), Nat.lt_of_lt_of_le h.2.2.2 hb.size⟩

theorem keep_call3 {B : Nat} {w W wx : World} {kb iv : List Int} {g : Nat} (hb : Below B W wx) (hg : w.heap.size < g) (hB : g < B)
    (h : W.rangeAt w.heap.size 0 (u8s kb) ∧ W.rangeAt g 0 (u8s iv) ∧ Below w.heap.size w W ∧ g < W.heap.size) :
    wx.rangeAt w.heap.size 0 (u8s kb) ∧ wx.rangeAt g 0 (u8s iv) ∧ Below w.heap.size w wx ∧ g < wx.heap.size :=
  ⟨range_below h.1 hb (by omega), range_below h.2.1 hb hB, h.2.2.1.trans (hb.mono (by omega)), Nat.lt_of_lt_of_le h.2.2.2 hb.size⟩

set_option maxRecDepth 100000 in
set_option maxHeartbeats 2000000 in
theorem prog_codeBy (kb : List Int) (n : Int) (w : World) (hG : Glob w) (hl : kb.length = 20) (hk : ∀ x ∈ kb, isB x) (h0 : 0 ≤ n) (h1 : n < 18446744073709551616) :
    Calls Tryd.prog 45 #[.agg (u8s kb).toArray, .int .u64 n] w fun r w' => r = .returned (.string (strOfNums (codeSpec kb n))) ∧ Below w.heap.size w w' := by
  have HL' : Hid (kb.length = 20) := hl
  clear hl
  obtain ⟨e8, HE⟩ : ∃ e8, Hid (e8 = eightTo n 8) := ⟨_, rfl⟩
  have he8 : Hid ((u8s e8).length = 8) := by show _ = _; rw [HE.out, u8s_length, eightTo_length]
  go_enter Tryd.func45, Tryd.ntmps45
  go_wp2_with (first | (refine wpList_boxR rfl 78 _ rfl (u8s kb) rfl ?_; go_simp) | (go_at_call 53; refine (prog_eight _ _ h0 h1).mono ?_; rintro _ w1 ⟨rfl, hb1⟩; have a2 : Row w1 w.heap.size (u8s kb) 78 := (Row.made w _ _).below hb1 (by simp); have aw : Below w.heap.size w w1 := ((Below.refl _ _).alloc (Nat.le_refl _) _).trans (hb1.mono (by simp)); clear hb1; rw [← HE.out]) | (refine wpList_allocR rfl 94 rfl 8 (.int .u8 0) arr8b ?_; go_simp) | (refine wpList_storeMA rfl 94 _ _ rfl _ rfl rfl (u8s e8) rfl 94 _ 8 (.int .u8 0) arr8b he8.out (zrow_length _ _) (u8s_one _) ?_; intro w3 hr5 hb3; have c2 := a2.below hb3 a2.lt; have cw := aw.trans (hb3.mono (Nat.le_of_lt a2.lt)); go_simp))
  have hgl : w.heap.size < w1.heap.size := a2.lt
  obtain ⟨ov, HO⟩ : ∃ ov, Hid (ov = sealSpec kb (toBytes e8)) := ⟨_, rfl⟩
  have hol : (u8s ov).length = 32 := by rw [u8s_length, HO.out]; exact sumSpec_length _ (blockOn_w8 W8_H0) _ _
  have hoB : ∀ x ∈ ov, isB x := by rw [HO.out]; exact sumSpec_B _ (blockOn_w8 W8_H0) _ _
  have hS0 : w3.drew.rangeAt w.heap.size 0 (u8s kb) ∧ w3.drew.rangeAt w1.heap.size 0 (u8s e8) ∧ Below w.heap.size w w3.drew ∧ w1.heap.size < w3.drew.heap.size := ⟨c2.range, hr5.range, cw.drew, hr5.lt⟩
  have hsz : (strOfNums e8).size = 8 := by rw [strOfNums_size, ← u8s_length]; exact he8.out
  clear hr5 hb3 c2 cw a2 aw
  refine wp_region_held (S := fun w' => w'.rangeAt w.heap.size 0 (u8s kb) ∧ w'.rangeAt w1.heap.size 0 (u8s e8) ∧ Below w.heap.size w w' ∧ w1.heap.size < w'.heap.size) (by kernel_rfl) ?_
  refine wpAnyH_take (i := 0) (v := .agg (u8s kb).toArray) rfl (by kernel_rfl) (by kernel_rfl) (by kernel_rfl) (fun _ _ _ h => h) (yieldsIf_load_mid (by rfl) 78 _ rfl w.heap.size 0 rfl (u8s kb) _ (fun _ h => h.1) under20b rfl (by rw [u8s_length, HL'.out]; exact arr20b.size)) hS0 ?_
  refine wpAnyH_take (i := 1) (v := .slice (some ⟨w1.heap.size, 0, none⟩) 8 8) rfl (by kernel_rfl) (by kernel_rfl) (by kernel_rfl) (fun _ _ _ h => h) (yields_of rfl (fun w' _ => by go_simp)) hS0 ?_
  refine wpAnyH_take (i := 2) (v := .string (strOfNums e8)) rfl (by kernel_rfl) (by kernel_rfl) (by kernel_rfl) (fun _ _ _ h => h) (yields_of rfl (fun w' h => ?_)) hS0 ?_
  · have hc := run_convR w' w1.heap.size e8 8 8 (by rw [← u8s_length]; exact he8.out) h.2.1
    go_simp
  simp only [List.getElem_toArray, List.getElem_cons_succ, List.getElem_cons_zero, Act.put, List.setIfInBounds_toArray, List.set_cons_succ, List.set_cons_zero]
  refine wpAnyH_ready (rs := [3, 4]) (by kernel_rfl) (by simp) ?_
  refine AllReadyH.cons (i := 3) rfl (fun K hK => ?_) (AllReadyH.cons (i := 4) rfl (fun K hK => ?_) AllReadyH.nil)
  · refine step_of rfl ?_
    simp only [List.getElem_toArray, List.getElem_cons_succ, List.getElem_cons_zero]
    refine wp_callC 43 #[.agg (u8s kb).toArray, .string (strOfNums e8)] ?_ ?_
    · go_simp
    refine (prog_sealBy kb _ _ (hG.below hS0.2.2.1 (Nat.le_refl _)) HL'.out hk (by omega)).mono ?_
    rintro _ wy ⟨rfl, hby⟩
    rw [toBytes_str, ← HO.out]
    refine ⟨_, rfl, hK.out _ _ (keep_call2 hby hgl hS0) (fun hSy => ?_)⟩
    simp only [Act.put, List.setIfInBounds_toArray, List.set_cons_succ, List.set_cons_zero]
    refine wpAnyH_ready (rs := [4]) (by kernel_rfl) (by simp) ?_
    refine AllReadyH.cons (i := 4) rfl (fun K2 hK2 => ?_) AllReadyH.nil
    refine step_of rfl ?_
    simp only [List.getElem_toArray, List.getElem_cons_succ, List.getElem_cons_zero]
    have hSz := keep_call2 ((Below.refl wy.heap.size wy).alloc (Nat.le_refl _) (.cells (zrow 32 (.int .u8 0)).toArray 47)) hgl hSy
    refine wp_allocR 47 rfl 32 (.int .u8 0) arr32b (hK2.out _ _ hSz (fun _ => ?_))
    simp only [Act.put, List.setIfInBounds_toArray, List.set_cons_succ, List.set_cons_zero]
    refine wpAnyH_ready (rs := [5]) (by kernel_rfl) (by simp) ?_
    refine AllReadyH.cons (i := 5) rfl (fun K3 hK3 => ?_) AllReadyH.nil
    refine step_of rfl ?_
    simp only [List.getElem_toArray, List.getElem_cons_succ, List.getElem_cons_zero]
    have hSt := keep_call2 ((Below.refl wy.heap.size wy).alloc (Nat.le_refl _) (.cells (u8s ov).toArray 47)) hgl hSy
    refine wp_storeM 47 _ _ rfl wy.heap.size rfl rfl (u8s ov) rfl 47 (zrow 32 (.int .u8 0)) 32 (.int .u8 0) arr32b hol (zrow_length _ _) (u8s_one _) (hK3.out _ _ hSt (fun _ => ?_))
    simp only [Act.put]
    refine wpAnyH_done (by kernel_rfl) ?_ _
    have hz := Row.made wy (u8s ov) 47
    have hzw := hSt.2.2.1
    clear hK hK2 hK3 K2 K3 K hby hSy hSz hSt
    generalize wy.alloc (.cells (u8s ov).toArray 47) = wz at *
    have hx31 := getD_isB hoB 31
    have c31 : wz.cell? ⟨wy.heap.size, 31, none⟩ = some (.int .u8 (ov.getD 31 0)) := by rw [hz.cell, u8s_get _ _ (by rw [← u8s_length]; omega)]
    obtain ⟨m, hm⟩ : ∃ m : Nat, ov.getD 31 0 % 16 = (m : Int) := ⟨(ov.getD 31 0 % 16).toNat, by omega⟩
    have hm16 : m < 16 := by omega
    have HMm : Hid (ov.getD 31 0 % 16 = (m : Int)) := hm
    have p0 := getD_isB hoB m
    have p1 := getD_isB hoB (m + 1)
    have p2 := getD_isB hoB (m + 2)
    have p3 := getD_isB hoB (m + 3)
    have d0 : wz.cell? ⟨wy.heap.size, m, none⟩ = some (.int .u8 (ov.getD m 0)) := by rw [hz.cell, u8s_get _ _ (by rw [← u8s_length]; omega)]
    have d1 : wz.cell? ⟨wy.heap.size, m + 1, none⟩ = some (.int .u8 (ov.getD (m + 1) 0)) := by rw [hz.cell, u8s_get _ _ (by rw [← u8s_length]; omega)]
    have d2 : wz.cell? ⟨wy.heap.size, m + 2, none⟩ = some (.int .u8 (ov.getD (m + 2) 0)) := by rw [hz.cell, u8s_get _ _ (by rw [← u8s_length]; omega)]
    have d3 : wz.cell? ⟨wy.heap.size, m + 3, none⟩ = some (.int .u8 (ov.getD (m + 3) 0)) := by rw [hz.cell, u8s_get _ _ (by rw [← u8s_length]; omega)]
    have hand : bits .and .u8 (ov.getD m 0) 127 = ov.getD m 0 % 128 := u8_and127 p0
    have HFIN : Hid (codeSpec kb n = digTo (word4 (ov.getD m 0 % 128) (ov.getD (m + 1) 0) (ov.getD (m + 2) 0) (ov.getD (m + 3) 0) % 1000000) 6) := by
      show _ = _
      unfold codeSpec
      rw [← HE.out, ← HO.out]
      show digTo (word4 (ov.getD (ov.getD 31 0 % 16).toNat 0 % 128) _ _ _ % 1000000) 6 = _
      rw [HMm.out, Int.toNat_natCast]
    clear hm hS0
    have i0 : (0 : Int) ≤ m := by omega
    have i1 : (m : Int) < 16 := by omega
    obtain ⟨x31, hx31e⟩ : ∃ x, ov.getD 31 0 = x := ⟨_, rfl⟩
    rw [hx31e] at hx31 c31 HMm
    have hm' : x31 % 16 = (m : Int) := HMm.out
    clear hx31e
    obtain ⟨q31, q31'⟩ := hx31
    generalize ov.getD m 0 = y0 at *
    generalize ov.getD (m + 1) 0 = y1 at *
    generalize ov.getD (m + 2) 0 = y2 at *
    generalize ov.getD (m + 3) 0 = y3 at *
    have p0' : 0 ≤ y0 % 128 ∧ y0 % 128 < 256 := by omega
    obtain ⟨hw40, hw41⟩ := word4_w p0' p1 p2 p3
    go_wp2
    rw [hm']
    clear hm'
    go_quiet ((go_at_call 58; exact Calls.quiet_of_same (prog_word _ _ _ _ _ p0' p1 p2 p3)))
    go_wp2_with (go_at_call 59; refine (prog_six _ _ ?_).mono ?_; exact word_mod; rintro _ wq ⟨rfl, hbq⟩)
    go_ret
    exact ⟨ret_str HFIN.out.symm, (below_drewN hzw _).trans (hbq.mono hzw.size)⟩
  · refine step_of rfl ?_
    simp only [List.getElem_toArray, List.getElem_cons_succ, List.getElem_cons_zero]
    have hSa := keep_call2 ((Below.refl w3.drew.heap.size w3.drew).alloc (Nat.le_refl _) (.cells (zrow 32 (.int .u8 0)).toArray 47)) hgl hS0
    refine wp_allocR 47 rfl 32 (.int .u8 0) arr32b (hK.out _ _ hSa (fun _ => ?_))
    simp only [Act.put, List.setIfInBounds_toArray, List.set_cons_succ, List.set_cons_zero]
    refine wpAnyH_ready (rs := [3]) (by kernel_rfl) (by simp) ?_
    refine AllReadyH.cons (i := 3) rfl (fun K2 hK2 => ?_) AllReadyH.nil
    refine step_of rfl ?_
    simp only [List.getElem_toArray, List.getElem_cons_succ, List.getElem_cons_zero]
    refine wp_callC 43 #[.agg (u8s kb).toArray, .string (strOfNums e8)] ?_ ?_
    · go_simp
    refine (prog_sealBy kb _ _ (hG.below hSa.2.2.1 (Nat.le_refl _)) HL'.out hk (by omega)).mono ?_
    rintro _ wy ⟨rfl, hby⟩
    rw [toBytes_str, ← HO.out]
    refine ⟨_, rfl, hK2.out _ _ (keep_call2 hby hgl hSa) (fun hSy => ?_)⟩
    simp only [Act.put, List.setIfInBounds_toArray, List.set_cons_succ, List.set_cons_zero]
    refine wpAnyH_ready (rs := [5]) (by kernel_rfl) (by simp) ?_
    refine AllReadyH.cons (i := 5) rfl (fun K3 hK3 => ?_) AllReadyH.nil
    refine step_of rfl ?_
    simp only [List.getElem_toArray, List.getElem_cons_succ, List.getElem_cons_zero]
    have hrow : Row wy w3.heap.size (zrow 32 (.int .u8 0)) 47 := (Row.made w3.drew (zrow 32 (.int .u8 0)) 47).below hby (Row.made w3.drew (zrow 32 (.int .u8 0)) 47).lt
    have hSt := keep_call3 (below_setRow (Below.refl w3.heap.size wy) (Nat.le_refl _) (u8s ov).toArray) hgl hS0.2.2.2 hSy
    refine wp_storeR 47 _ _ rfl w3.heap.size rfl (u8s ov) rfl 47 (zrow 32 (.int .u8 0)) 32 (.int .u8 0) hrow arr32b hol (zrow_length _ _) (u8s_one _) (hK3.out _ _ hSt (fun _ => ?_))
    simp only [Act.put]
    refine wpAnyH_done (by kernel_rfl) ?_ _
    have hz := hrow.setRow (u8s ov)
    have hzw := hSt.2.2.1
    clear hK hK2 hK3 K2 K3 K hby hSy hSa hSt hrow
    generalize wy.setRow w3.heap.size (u8s ov).toArray = wz at *
    have hx31 := getD_isB hoB 31
    have c31 : wz.cell? ⟨w3.heap.size, 31, none⟩ = some (.int .u8 (ov.getD 31 0)) := by rw [hz.cell, u8s_get _ _ (by rw [← u8s_length]; omega)]
    obtain ⟨m, hm⟩ : ∃ m : Nat, ov.getD 31 0 % 16 = (m : Int) := ⟨(ov.getD 31 0 % 16).toNat, by omega⟩
    have hm16 : m < 16 := by omega
    have HMm : Hid (ov.getD 31 0 % 16 = (m : Int)) := hm
    have p0 := getD_isB hoB m
    have p1 := getD_isB hoB (m + 1)
    have p2 := getD_isB hoB (m + 2)
    have p3 := getD_isB hoB (m + 3)
    have d0 : wz.cell? ⟨w3.heap.size, m, none⟩ = some (.int .u8 (ov.getD m 0)) := by rw [hz.cell, u8s_get _ _ (by rw [← u8s_length]; omega)]
    have d1 : wz.cell? ⟨w3.heap.size, m + 1, none⟩ = some (.int .u8 (ov.getD (m + 1) 0)) := by rw [hz.cell, u8s_get _ _ (by rw [← u8s_length]; omega)]
    have d2 : wz.cell? ⟨w3.heap.size, m + 2, none⟩ = some (.int .u8 (ov.getD (m + 2) 0)) := by rw [hz.cell, u8s_get _ _ (by rw [← u8s_length]; omega)]
    have d3 : wz.cell? ⟨w3.heap.size, m + 3, none⟩ = some (.int .u8 (ov.getD (m + 3) 0)) := by rw [hz.cell, u8s_get _ _ (by rw [← u8s_length]; omega)]
    have hand : bits .and .u8 (ov.getD m 0) 127 = ov.getD m 0 % 128 := u8_and127 p0
    have HFIN : Hid (codeSpec kb n = digTo (word4 (ov.getD m 0 % 128) (ov.getD (m + 1) 0) (ov.getD (m + 2) 0) (ov.getD (m + 3) 0) % 1000000) 6) := by
      show _ = _
      unfold codeSpec
      rw [← HE.out, ← HO.out]
      show digTo (word4 (ov.getD (ov.getD 31 0 % 16).toNat 0 % 128) _ _ _ % 1000000) 6 = _
      rw [HMm.out, Int.toNat_natCast]
    clear hm hS0
    have i0 : (0 : Int) ≤ m := by omega
    have i1 : (m : Int) < 16 := by omega
    obtain ⟨x31, hx31e⟩ : ∃ x, ov.getD 31 0 = x := ⟨_, rfl⟩
    rw [hx31e] at hx31 c31 HMm
    have hm' : x31 % 16 = (m : Int) := HMm.out
    clear hx31e
    obtain ⟨q31, q31'⟩ := hx31
    generalize ov.getD m 0 = y0 at *
    generalize ov.getD (m + 1) 0 = y1 at *
    generalize ov.getD (m + 2) 0 = y2 at *
    generalize ov.getD (m + 3) 0 = y3 at *
    have p0' : 0 ≤ y0 % 128 ∧ y0 % 128 < 256 := by omega
    obtain ⟨hw40, hw41⟩ := word4_w p0' p1 p2 p3
    go_wp2
    rw [hm']
    clear hm'
    go_quiet ((go_at_call 58; exact Calls.quiet_of_same (prog_word _ _ _ _ _ p0' p1 p2 p3)))
    go_wp2_with (go_at_call 59; refine (prog_six _ _ ?_).mono ?_; exact word_mod; rintro _ wq ⟨rfl, hbq⟩)
    go_ret
    exact ⟨ret_str HFIN.out.symm, (below_drewN hzw _).trans (hbq.mono hzw.size)⟩
end Go.Proofs.YthphdoilbdeimaaDoor
