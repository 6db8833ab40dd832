import Derived.Test.YtaokemapkgggoaaGreatDoorProgCode
namespace Go.Proofs.YtaokemapkgggoaaGreatDoor
open Go.RowKit

section
variable {P : Program} {ops : Array Oper} {o : Oper} {a : Act} {w : World} {K : Act → World → Prop} {Q : Exit → Act → World → Prop} {E : Prop}
theorem step_of (hgd : o.guard = none) (h : o.wp P a w K Q) : if Region.wanted o (yielded ops a.tmps) = true then o.wp P a w K Q else E := by
  have hw : Region.wanted o (yielded ops a.tmps) = true := by simp [Region.wanted, hgd]
  rw [if_pos hw]; exact h
theorem wp_callC (f : FuncId) (args : Array Value) (hrun : (execOp a.eval o).run P w = .ok (.enter f args) w)
    (hc : Calls P f args w fun e w' => ∃ v, e = .returned v ∧ K (a.put o.dst v) w') : o.wp P a w K Q := by
  unfold Oper.wp
  rw [hrun]
  refine hc.mono ?_
  rintro _ w' ⟨v, rfl, hk⟩
  exact hk
theorem yields_of {S : World → Prop} {v : Value} (hgd : o.guard = none) (h : ∀ w', S w' → (execOp a.eval o).run P w' = .ok (.value v) w') : YieldsIf P ops S o v a :=
  .inl ⟨by simp [Region.wanted, hgd], h⟩
end

theorem u8_and127 {x : Int} (h : 0 ≤ x ∧ x < 256) : bits .and .u8 x 127 = x % 128 := by
  rw [u8_and x 127 h.1 h.2 (by omega) (by omega), show (127 : Int).toNat = 127 from rfl, nat_mask7]
  omega

theorem ret_str {a b : List Int} (h : a = b) : Ending.returned (.string (strOfNums a)) = .returned (.string (strOfNums b)) := by rw [h]
theorem word_mod {x : Int} : isW (x % 1000000) := by unfold isW; omega

/-- a code, by a key's bytes and a number's eight bytes -/
def codeSpecL (kb : List Int) (l : List UInt8) : List Int :=
  let sv := sealSpec kb l
  let k := (sv.getD 31 0 % 16).toNat
  digTo (word4 (sv.getD k 0 % 128) (sv.getD (k + 1) 0) (sv.getD (k + 2) 0) (sv.getD (k + 3) 0) % 1000000) 6
def codeSpec (kb : List Int) (n : Int) : List Int := codeSpecL kb (toBytes (eightTo n 8))

set_option maxRecDepth 100000 in
set_option maxHeartbeats 2000000 in
theorem prog_codeBy (kf : List Int) (s : ByteArray) (w : World) (hG : Glob w) (hl : kf.length = 21) (hk : ∀ x ∈ kf, isB x) (hs : s.size < 900000) :
    Calls Tryz.prog 49 #[.agg (u8s kf).toArray, .string s] w fun r w' => r = .returned (.string (strOfNums (codeSpecL kf.tail s.data.toList))) ∧ Below w.heap.size w w' := by
  have HL' : Hid (kf.length = 21) := hl
  clear hl
  obtain ⟨ov, HO⟩ : ∃ ov, Hid (ov = sealSpec kf.tail s.data.toList) := ⟨_, rfl⟩
  have hol : Hid ((u8s ov).length = 32) := by show _ = _; rw [u8s_length, HO.out]; exact sumSpec_length _ (blockOn_w8 W8_H0) _ _
  have hoB : ∀ x ∈ ov, isB x := by rw [HO.out]; exact sumSpec_B _ (blockOn_w8 W8_H0) _ _
  have hx31 := getD_isB hoB 31
  obtain ⟨m, hm⟩ : ∃ m : Nat, ov.getD 31 0 % 16 = (m : Int) := ⟨(ov.getD 31 0 % 16).toNat, by omega⟩
  have hm16 : m < 16 := by omega
  have HMm : Hid (ov.getD 31 0 % 16 = (m : Int)) := hm
  have p0 := getD_isB hoB m
  have p1 := getD_isB hoB (m + 1)
  have p2 := getD_isB hoB (m + 2)
  have p3 := getD_isB hoB (m + 3)
  have HFIN : Hid (codeSpecL kf.tail s.data.toList = digTo (word4 (ov.getD m 0 % 128) (ov.getD (m + 1) 0) (ov.getD (m + 2) 0) (ov.getD (m + 3) 0) % 1000000) 6) := by
    show _ = _
    unfold codeSpecL
    rw [← HO.out]
    show digTo (word4 (ov.getD (ov.getD 31 0 % 16).toNat 0 % 128) _ _ _ % 1000000) 6 = _
    rw [HMm.out, Int.toNat_natCast]
  clear hm
  have i0 : (0 : Int) ≤ m := by omega
  have i1 : (m : Int) < 16 := by omega
  obtain ⟨x31, hx31e⟩ : ∃ x, Hid (ov.getD 31 0 = x) := ⟨_, rfl⟩
  obtain ⟨y0, hy0⟩ : ∃ x, Hid (ov.getD m 0 = x) := ⟨_, rfl⟩
  obtain ⟨y1, hy1⟩ : ∃ x, Hid (ov.getD (m + 1) 0 = x) := ⟨_, rfl⟩
  obtain ⟨y2, hy2⟩ : ∃ x, Hid (ov.getD (m + 2) 0 = x) := ⟨_, rfl⟩
  obtain ⟨y3, hy3⟩ : ∃ x, Hid (ov.getD (m + 3) 0 = x) := ⟨_, rfl⟩
  rw [hx31e.out] at hx31 HMm
  rw [hy0.out] at p0 HFIN
  rw [hy1.out] at p1 HFIN
  rw [hy2.out] at p2 HFIN
  rw [hy3.out] at p3 HFIN
  have hcell : ∀ (wz : World) (g i : Nat), Row wz g (u8s ov) 47 → i < 32 → wz.cell? ⟨g, i, none⟩ = some (.int .u8 (ov.getD i 0)) := fun wz g i h hi => by
    rw [h.cell, u8s_get _ _ (by rw [← u8s_length, hol.out]; exact hi)]
  have hand : bits .and .u8 y0 127 = y0 % 128 := u8_and127 p0
  obtain ⟨q31, q31'⟩ := hx31
  have p0' : 0 ≤ y0 % 128 ∧ y0 % 128 < 256 := by omega
  obtain ⟨hw40, hw41⟩ := word4_w p0' p1 p2 p3
  go_enter Tryz.func49, Tryz.ntmps49
  go_wp2_with (first | (refine wpList_boxR rfl 79 _ rfl (u8s kf) rfl ?_; go_simp) | (refine wpList_loadR rfl 79 _ rfl w.heap.size rfl 79 (u8s kf) 21 (.int .u8 0) (Row.made _ _ _) arr21b (by rw [u8s_length]; exact HL'.out) ?_; go_simp) | (go_at_call 46; refine (prog_sealBy kf _ _ (hG.alloc _) HL'.out hk hs).mono ?_; rintro _ w1 ⟨rfl, hb1⟩; have aw : Below w.heap.size w w1 := ((Below.refl _ _).alloc (Nat.le_refl _) _).trans (hb1.mono (by simp)); clear hb1; rw [← HO.out]) | (refine wpList_allocR rfl 47 rfl 32 (.int .u8 0) arr32b ?_; go_simp) | (refine wpList_storeMA rfl 47 _ _ rfl _ rfl rfl (u8s ov) rfl 47 _ 32 (.int .u8 0) arr32b hol.out (zrow_length _ _) (u8s_one _) ?_; intro wz hz hb3; have hzw := aw.trans (hb3.mono aw.size); clear hb3; have c31 := (hcell wz _ 31 hz (by omega)).trans (by rw [hx31e.out]); have d0 := (hcell wz _ m hz (by omega)).trans (by rw [hy0.out]); have d1 := (hcell wz _ (m + 1) hz (by omega)).trans (by rw [hy1.out]); have d2 := (hcell wz _ (m + 2) hz (by omega)).trans (by rw [hy2.out]); have d3 := (hcell wz _ (m + 3) hz (by omega)).trans (by rw [hy3.out]); clear hz; go_simp))
  rw [HMm.out]
  go_quiet ((go_at_call 69; exact Calls.quiet_of_same (prog_word _ _ _ _ _ p0' p1 p2 p3)))
  go_wp2_with (go_at_call 70; refine (prog_six _ _ ?_).mono ?_; exact word_mod; rintro _ wq ⟨rfl, hbq⟩)
  go_ret
  exact ⟨ret_str HFIN.out.symm, (below_drewN hzw _).trans (hbq.mono hzw.size)⟩

end Go.Proofs.YtaokemapkgggoaaGreatDoor
