import Derived.Test.YtaokemapkgggoaaGreatDoorAl42
import Derived.Test.YtaokemapkgggoaaGreatDoorAl34
import Derived.Test.YtaokemapkgggoaaGreatDoorAl37
namespace Go.Proofs.YtaokemapkgggoaaGreatDoor
open Go.RowKit

theorem FedAt.slice {w1 w : World} {g gs : Nat} {ps : List (Nat × Nat × Dv)} (F : FedAt w1 g gs ps w) : ∃ ao cap, w.cell? ⟨g, 1, none⟩ = some (.slice ao ps.length cap) := by
  obtain ⟨v, hr, ho⟩ := F.row
  rcases ho.2 with ⟨hv, hn⟩ | ⟨vb, cap, cur, hv, _⟩
  · exact ⟨none, 0, by rw [hr.cell, hv, hn]; rfl⟩
  · exact ⟨_, cap, by rw [hr.cell, hv]; rfl⟩
theorem FedAt.made {w1 w : World} {gs : Nat} (hb : Below w1.heap.size w1 w) (hr : Row w w1.heap.size [.pointer (some ⟨gs, 0, none⟩), .slice none 0 0] 30) : FedAt w1 w1.heap.size gs [] w :=
  ⟨hb, ⟨_, hr, rfl, .inl ⟨rfl, rfl⟩⟩, fun p hp => absurd hp (by simp), List.Pairwise.nil, List.Pairwise.nil⟩

end Go.Proofs.YtaokemapkgggoaaGreatDoor

namespace Go.Proofs.YtaokemapkgggoaaGreatDoor
open Go.RowKit

theorem alloc_size' (W : World) (o : Obj) : (W.alloc o).heap.size = W.heap.size + 1 := Array.size_push ..
theorem half_len {d : Dv} (ok : d.sound) : (Bs d.h0 ++ Bs d.h1).length = 200 := by rw [List.length_append, Bs_len, Bs_len, ok.s0, ok.s1]
set_option maxRecDepth 100000 in
set_option maxHeartbeats 1000000 in
theorem prog_Cut_no (w : World) (g : Nat) (n : Int) (hn : n < 0) :
    Calls Tryz.prog 33 #[.pointer (some ⟨g, 0, none⟩), .int .i64 n] w fun r w' => r = .returned (.int .i64 3) ∧ w' = w := by
  go_enter Tryz.func33, Tryz.ntmps33
  go_wp2
  go_ret
  exact ⟨rfl, rfl⟩

set_option maxRecDepth 100000 in
set_option maxHeartbeats 1000000 in
theorem prog_Cut_row (w : World) (g : Nat) (n : Int) (f : List UInt8) (q : Pw) (u : Bool) (c : ByteArray) (hR : Row w g (dcells f q u c) 100) (hl : f.length = 200) (hn : 0 ≤ n) :
    Calls Tryz.prog 33 #[.pointer (some ⟨g, 0, none⟩), .int .i64 n] w fun r w' => r = .returned (.int .i64 0) ∧ Row w' g (dcells f ⟨q.gone, true, n⟩ u c) 100 ∧ w.grownBy w' (some g) := by
  have c1 : w.cell? ⟨g, 201, none⟩ = some (.bool q.ending) := by rw [hR.cell]; exact dcells_at f q u c 1 hl
  have c2 : w.cell? ⟨g, 202, none⟩ = some (.int .i64 q.left) := by rw [hR.cell]; exact dcells_at f q u c 2 hl
  have f1 := hR.frozen 201
  have f2 := hR.frozen 202
  have hn' : ¬ n < 0 := by omega
  have e1 : (dcells f q u c).set 201 (.bool true) = dcells f ⟨q.gone, true, q.left⟩ u c := dcells_put f q u c 1 _ hl
  have e2 : (dcells f ⟨q.gone, true, q.left⟩ u c).set 202 (.int .i64 n) = dcells f ⟨q.gone, true, n⟩ u c := dcells_put f ⟨q.gone, true, q.left⟩ u c 2 _ hl
  have HF : Hid (Row ((w.setCell ⟨g, 201, none⟩ (.bool true)).setCell ⟨g, 202, none⟩ (.int .i64 n)) g (dcells f ⟨q.gone, true, n⟩ u c) 100) := by
    show Row _ _ _ _
    have := (hR.setCell 201 (.bool true)).setCell 202 (.int .i64 n)
    rwa [e1, e2] at this
  clear e1 e2
  go_enter Tryz.func33, Tryz.ntmps33
  go_wp2
  go_ret
  exact ⟨rfl, HF.out, grown_set (grown_set (World.grownBy.refl _ _) _ _) _ _⟩

theorem prog_Cut_yes (w : World) (g : Nat) (d : Dv) (n : Int) (h : PdAny w g d) (ok : d.sound) (hn : 0 ≤ n) :
    Calls Tryz.prog 33 #[.pointer (some ⟨g, 0, none⟩), .int .i64 n] w fun r w' => r = .returned (.int .i64 0) ∧ PdAny w' g { d with cut := n } ∧ w.grownBy w' (some g) := by
  rcases h with ⟨on, h⟩ | ⟨off, a, b, h⟩
  · refine (prog_Cut_row w g n _ _ _ _ h (half_len ok) hn).mono ?_
    rintro r w' ⟨hr, hd, hg⟩
    refine ⟨hr, .inl ⟨on, ?_⟩, hg⟩
    unfold PdAt
    have e : (⟨d.pw.gone, true, n⟩ : Pw) = Dv.pw { d with cut := n } := by
      unfold Dv.pw
      simp [hn]
    rw [e] at hd
    exact hd
  · refine (prog_Cut_row w g n _ _ _ _ h (half_len ok) hn).mono ?_
    rintro r w' ⟨hr, hd, hg⟩
    exact ⟨hr, .inr ⟨off, _, _, hd⟩, hg⟩

/-- what is there when a device is booted -/
def Dv.booted (d : Dv) : Dv := { d with unl := false, inn := ⟨#[]⟩, cut := -1, off := false }
theorem Dv.stands.booted {d : Dv} (h : d.stands) : d.bootC = (d.booted, 0) := h.boot
set_option maxRecDepth 100000 in
set_option maxHeartbeats 1000000 in
theorem prog_Boot (w : World) (g : Nat) (d : Dv) (h : PdAny w g d) (ok : d.sound) :
    Calls Tryz.prog 35 #[.pointer (some ⟨g, 0, none⟩)] w fun r w' => r = .returned (.int .i64 0) ∧ PdAny w' g d.booted ∧ w.grownBy w' (some g) := by
  obtain ⟨q, u, c, h⟩ := h.cells
  have hrs := prog_restart w g _ q .none u c h (half_len ok)
  go_enter Tryz.func35, Tryz.ntmps35
  go_wp2_with (go_at_call 59; refine hrs.mono ?_; rintro _ w1 ⟨rfl, hr1, hg1⟩)
  go_ret
  exact ⟨rfl, .inl ⟨rfl, hr1⟩, hg1⟩

set_option maxRecDepth 100000 in
set_option maxHeartbeats 1000000 in
theorem prog_Open_size (f : ByteArray) (w : World) (hf : ¬ f.size = 200) :
    Calls Tryz.prog 25 #[.string f] w fun r w' => r = .returned (.tuple #[.pointer none, .int .i64 2]) ∧ w' = w := by
  have hf' : ¬ (f.size : Int) = 200 := by omega
  go_enter Tryz.func25, Tryz.ntmps25
  go_wp2
  go_ret2
  exact ⟨rfl, rfl⟩

theorem bcells_app (a b : List UInt8) : bcells (a ++ b) = bcells a ++ bcells b := by simp [bcells]
theorem sub_list (f : ByteArray) (a b : Nat) : Bs (f.extract a b) = ((Bs f).drop a).take (b - a) := by
  unfold Bs
  rw [ByteArray.data_extract, Array.toList_extract, List.extract_eq_take_drop]

set_option maxRecDepth 100000 in
set_option maxHeartbeats 1000000 in
theorem prog_flashOf (f : ByteArray) (w : World) (hf : f.size = 200) :
    Calls Tryz.prog 53 #[.string f] w fun r w' => r = .returned (.agg (bcells (Bs f)).toArray) ∧ Below w.heap.size w w' := by
  have hx0 := fun wx => run_indexFlash wx (w.heap.size + 1) 0 0 0 rfl (by omega) 0 (by omega)
  have hx1 := fun wx => run_indexFlash wx (w.heap.size + 1) 0 1 1 rfl (by omega) 100 (by omega)
  have hsl := fun wx o => run_sliceArr2 (P := Tryz.prog) wx 93 5 100 under_img size_byte (w.heap.size + 1) o 0 100 (by omega) (by omega) (by omega) 0 100 rfl rfl
  have HLF : Hid ((Bs f).length = 200) := by show _ = _; rw [Bs_len, hf]
  obtain ⟨f0, HF0⟩ : ∃ f0, Hid (f0 = f.extract 0 100) := ⟨_, rfl⟩
  obtain ⟨f1, HF1⟩ : ∃ f1, Hid (f1 = f.extract 100 200) := ⟨_, rfl⟩
  have hz0 : f0.size = 100 := by rw [HF0.out, ByteArray.size_extract]; omega
  have hz1 : f1.size = 100 := by rw [HF1.out, ByteArray.size_extract]; omega
  have e0 : f.extract 0 100 = f0 := HF0.out.symm
  have e1 : f.extract 100 200 = f1 := HF1.out.symm
  have hfi : (f.size : Int) = 200 := by omega
  obtain ⟨zf, HZF⟩ : ∃ zf : List UInt8, Hid (zf = List.replicate 200 0) := ⟨List.replicate 200 0, (rfl : List.replicate 200 (0 : UInt8) = List.replicate 200 0)⟩
  have HZL : Hid (zf.length = 200) := by show _ = _; rw [HZF.out, List.length_replicate]
  have HZ96 : Hid (Tryz.zeroCells96 = (bcells zf).toArray) := by show _ = _; rw [HZF.out]; exact zero96
  obtain ⟨W0, HW⟩ : ∃ W0, Hid (W0 = (w.alloc (.cells Tryz.zeroCells96 96)).alloc (.cells Tryz.zeroCells96 96)) := ⟨_, rfl⟩
  obtain ⟨W, HWD⟩ : ∃ W, Hid (W = W0.drew) := ⟨_, rfl⟩
  have hR : Row W (w.heap.size + 1) (bcells zf) 96 := by
    rw [HWD.out, HW.out, HZ96.out]
    have := Row.made (w.alloc (.cells (bcells zf).toArray 96)) (bcells zf) 96
    rw [alloc_size'] at this
    exact this.drew
  have hO : Row W w.heap.size (bcells zf) 96 := by
    rw [HWD.out, HW.out, HZ96.out]
    exact ((Row.made w _ _).alloc _).drew
  have hB : Below w.heap.size w W := by
    rw [HWD.out, HW.out]
    exact (((Below.refl _ _).alloc (Nat.le_refl _) _).alloc (by rw [alloc_size']; omega) _).drew
  have HBF : Hid (Bs f0 ++ Bs f1 = Bs f) := by
    show _ = _
    rw [HF0.out, HF1.out, sub_list, sub_list, List.drop_zero, show 200 - 100 = 100 from rfl, List.take_of_length_le (l := (Bs f).drop 100) (by rw [List.length_drop, HLF.out]; omega)]
    exact List.take_append_drop 100 (Bs f)
  have HL0 : Hid ((Bs f0).length = 100) := by show _ = _; rw [Bs_len, hz0]
  have HL1 : Hid ((Bs f1).length = 100) := by show _ = _; rw [Bs_len, hz1]
  have hcp : (Builtin.copy_ #[49, 9] 3 #[.slice (some ⟨w.heap.size + 1, 0, none⟩) 100 100, .string f0]).run Tryz.prog W = .ok (.int .i64 100) (W.setRow (w.heap.size + 1) (bcells (Bs f0 ++ zf.drop 100)).toArray) := by
    have := Lib.run_copy_row_string (P := Tryz.prog) W 49 9 3 5 (w.heap.size + 1) 0 100 100 f0 _ 96 under_bytes size_byte hR (by omega) (by rw [List.size_toArray, bcells_length, HZL.out, hz0]; omega)
    rw [hz0] at this
    rw [this]
    congr 3
    rw [List.toList_toArray, List.take_zero, List.nil_append, Nat.zero_add, bcells_app]
    congr 1
    simp [bcells, List.map_drop]
  have hR2 : Row (W.setRow (w.heap.size + 1) (bcells (Bs f0 ++ zf.drop 100)).toArray).drew (w.heap.size + 1) (bcells (Bs f0 ++ zf.drop 100)) 96 := (Row.setRow hR _).drew
  have hO2 : Row (W.setRow (w.heap.size + 1) (bcells (Bs f0 ++ zf.drop 100)).toArray).drew w.heap.size (bcells zf) 96 := Row.drew (Row.setRow_other hO _ _ (by omega))
  have hB2 : Below w.heap.size w (W.setRow (w.heap.size + 1) (bcells (Bs f0 ++ zf.drop 100)).toArray).drew := (below_setRow hB (by omega) _).drew
  obtain ⟨W2, HW2⟩ : ∃ W2, Hid (W2 = (W.setRow (w.heap.size + 1) (bcells (Bs f0 ++ zf.drop 100)).toArray).drew) := ⟨_, rfl⟩
  rw [← HW2.out] at hR2 hO2 hB2
  have hcp2 : (Builtin.copy_ #[49, 9] 3 #[.slice (some ⟨w.heap.size + 1, 100, none⟩) 100 100, .string f1]).run Tryz.prog W2 = .ok (.int .i64 100) (W2.setRow (w.heap.size + 1) (bcells (Bs f)).toArray) := by
    have := Lib.run_copy_row_string (P := Tryz.prog) W2 49 9 3 5 (w.heap.size + 1) 100 100 100 f1 _ 96 under_bytes size_byte hR2 (by omega) (by rw [List.size_toArray, bcells_length, List.length_append, List.length_drop, HZL.out, HL0.out, hz1]; omega)
    rw [hz1] at this
    rw [this, ← HBF.out]
    congr 3
    rw [List.toList_toArray, bcells_app (Bs f0), bcells_app (Bs f0), List.take_left' (by rw [bcells_length, HL0.out]), List.drop_of_length_le (by rw [List.length_append, bcells_length, bcells_length, List.length_drop, HZL.out, HL0.out]; omega), List.append_nil]
    rfl
  have hR3 : Row (W2.setRow (w.heap.size + 1) (bcells (Bs f)).toArray) (w.heap.size + 1) (bcells (Bs f)) 96 := Row.setRow hR2 _
  have hO3 : Row (W2.setRow (w.heap.size + 1) (bcells (Bs f)).toArray) w.heap.size (bcells zf) 96 := Row.setRow_other hO2 _ _ (by omega)
  have hB3 : Below w.heap.size w (W2.setRow (w.heap.size + 1) (bcells (Bs f)).toArray) := below_setRow hB2 (by omega) _
  obtain ⟨W3, HW3⟩ : ∃ W3, Hid (W3 = W2.setRow (w.heap.size + 1) (bcells (Bs f)).toArray) := ⟨_, rfl⟩
  rw [← HW3.out] at hR3 hO3 hB3 hcp2
  have HLB : Hid ((bcells (Bs f)).length = 200) := by show _ = _; rw [bcells_length, HLF.out]
  obtain ⟨cs, HCS⟩ : ∃ cs, Hid (cs = bcells (Bs f)) := ⟨_, rfl⟩
  have hOf : Row (W3.setCells w.heap.size 0 cs) w.heap.size cs 96 := by
    have hx := Row.setCells cs 0 hO3 (by rw [HCS.out, HLB.out, bcells_length, HZL.out]; omega)
    rwa [splice_all _ _ (by rw [HCS.out, HLB.out, bcells_length, HZL.out])] at hx
  rw [← HCS.out] at hR3 HLB
  have hcz : cs.toArray.size = 200 := by rw [List.size_toArray, HLB.out]
  have hth : W3.there w.heap.size 0 cs.toArray.size := by rw [hcz]; exact hO3.thereFrom 0 200 (by rw [bcells_length, HZL.out]; omega)
  have hsz : (Tryz.prog.info? 96).map (·.size) = some cs.toArray.size := by rw [hcz]; exact size_flash
  go_enter Tryz.func53, Tryz.ntmps53
  go_wp2
  rw [← HW.out]
  have hcp' : (Builtin.copy_ #[49, 9] 3 #[.slice (some ⟨w.heap.size + 1, 0, none⟩) 100 100, .string f0]).run Tryz.prog W0.drew = .ok (.int .i64 100) (W.setRow (w.heap.size + 1) (bcells (Bs f0 ++ zf.drop 100)).toArray) := by rw [← HWD.out]; exact hcp
  go_region
  have hcp2' : (Builtin.copy_ #[49, 9] 3 #[.slice (some ⟨w.heap.size + 1, 100, none⟩) 100 100, .string f1]).run Tryz.prog (W.setRow (w.heap.size + 1) (bcells (Bs f0 ++ zf.drop 100)).toArray).drew = .ok (.int .i64 100) W3 := by rw [← HW2.out]; exact hcp2
  generalize W.setRow (w.heap.size + 1) (bcells (Bs f0 ++ zf.drop 100)).toArray = WX at *
  go_wp2
  go_region
  go_wp2_with (first | (refine wpList_load_mid rfl 96 _ rfl (w.heap.size + 1) 0 rfl cs _ hR3.range under_flash rfl (by rw [size_flash, HLB.out]) ?_; go_simp) | (refine wpList_store_mid rfl 96 _ _ rfl w.heap.size 0 cs.toArray rfl rfl hth hsz (all_oneCell_toArray (by rw [HCS.out]; exact bcells_one _)) ?_; go_simp))
  rw [← HCS.out]
  exact bodyPost_ret (v := .agg cs.toArray) (results_cell_row Tryz.results53 _ _ w.heap.size 96 cs.toArray (0, 0) _ rfl hOf under_flash rfl hsz) rfl ⟨rfl, below_setCells (Nat.le_refl _) cs 0 _ hB3⟩
set_option maxRecDepth 100000 in
set_option maxHeartbeats 1000000 in
/-- Open of a flash of 200 bytes with a right half -/
theorem prog_Open_yes (f : ByteArray) (w : World) (hf : f.size = 200) (wh : Nat) (hk : ∀ (W : World) (g : Nat), Row W g (dcells (Bs f) .none false ⟨#[]⟩) 100 → Calls Tryz.prog 54 #[.pointer (some ⟨g, 0, none⟩)] W fun r w' => r = .returned (.tuple #[.int .i64 wh, .bool true]) ∧ ∃ n, w' = W.drewN n) :
    Calls Tryz.prog 25 #[.string f] w fun r w' => (∃ g, w.heap.size ≤ g ∧ r = .returned (.tuple #[.pointer (some ⟨g, 0, none⟩), .int .i64 0]) ∧ Row w' g (dcells (Bs f) .none false ⟨#[]⟩) 100) ∧ Below w.heap.size w w' := by
  have hf' : (f.size : Int) = 200 := by omega
  have hfl := prog_flashOf f w hf
  have HLF : Hid ((Bs f).length = 200) := by show _ = _; rw [Bs_len, hf]
  have hbl2 : (bcells (Bs f)).length = 200 := by rw [bcells_length, HLF.out]
  have e98 := build98 (Bs f) HLF.out
  obtain ⟨fl, HFL⟩ : ∃ fl, Hid (fl = Bs f) := ⟨_, rfl⟩
  rw [← HFL.out] at hfl hbl2 e98 hk
  rw [← HFL.out]
  go_enter Tryz.func25, Tryz.ntmps25
  go_wp2_with (first | (go_at_call 53; refine hfl.mono ?_; rintro _ w1 ⟨rfl, hb1⟩) | (go_at_call 54; refine (hk _ w1.heap.size (Row.made w1 _ _)).mono ?_; rintro _ w3 ⟨rfl, n3, e3⟩; have hr3 : Row w3 w1.heap.size (dcells fl .none false ⟨#[]⟩) 100 := (by rw [e3]; exact Row.made w1 _ _); have hb3 : Below w.heap.size w w3 := (by rw [e3]; exact below_drewN (hb1.alloc hb1.size _) _); clear e3))
  go_ret2
  exact ⟨⟨_, hb1.size, rfl, hr3⟩, hb3⟩

set_option maxRecDepth 100000 in
set_option maxHeartbeats 1000000 in
/-- Open of a flash of 200 bytes without a right half -/
theorem prog_Open_no (f : ByteArray) (w : World) (hf : f.size = 200) (wh : Nat) (hk : ∀ (W : World) (g : Nat), Row W g (dcells (Bs f) .none false ⟨#[]⟩) 100 → Calls Tryz.prog 54 #[.pointer (some ⟨g, 0, none⟩)] W fun r w' => r = .returned (.tuple #[.int .i64 wh, .bool false]) ∧ ∃ n, w' = W.drewN n) :
    Calls Tryz.prog 25 #[.string f] w fun r w' => r = .returned (.tuple #[.pointer none, .int .i64 2]) ∧ Below w.heap.size w w' := by
  have hf' : (f.size : Int) = 200 := by omega
  have hfl := prog_flashOf f w hf
  have HLF : Hid ((Bs f).length = 200) := by show _ = _; rw [Bs_len, hf]
  have hbl2 : (bcells (Bs f)).length = 200 := by rw [bcells_length, HLF.out]
  have e98 := build98 (Bs f) HLF.out
  obtain ⟨fl, HFL⟩ : ∃ fl, Hid (fl = Bs f) := ⟨_, rfl⟩
  rw [← HFL.out] at hfl hbl2 e98 hk
  go_enter Tryz.func25, Tryz.ntmps25
  go_wp2_with (first | (go_at_call 53; refine hfl.mono ?_; rintro _ w1 ⟨rfl, hb1⟩) | (go_at_call 54; refine (hk _ w1.heap.size (Row.made w1 _ _)).mono ?_; rintro _ w3 ⟨rfl, n3, e3⟩; have hb3 : Below w.heap.size w w3 := (by rw [e3]; exact below_drewN (hb1.alloc hb1.size _) _); clear e3))
  go_ret2
  exact ⟨rfl, hb3⟩

theorem keyL_size (l : List UInt8) (o : Nat) (h : bAt l o ≤ 20) : (keyL l o).size ≤ 20 := by
  unfold keyL
  have := (bAt_B l o).1
  rw [str_size, List.length_take]
  omega
/-- what a right image says -/
theorem read_sound {l : List UInt8} (hl : l.length = 100) (h : readOk l) : 1 ≤ (readK l).num ∧ 1 ≤ (readK l).pin.size ∧ (readK l).good := by
  obtain ⟨⟨h1, h2, h3, h4⟩, ⟨h5, h6, h7, h8⟩, -⟩ := h
  obtain ⟨n0, n1⟩ := numOf_w l
  have t0 := (bAt_B l 5).1
  have hp : (str ((l.drop 7).take (bAt l 6).toNat)).size = (bAt l 6).toNat := by
    rw [str_size, List.length_take, List.length_drop, hl]
    omega
  refine ⟨by show 1 ≤ numOf l; omega, by show 1 ≤ (str _).size; rw [hp]; omega, ?_⟩
  exact ⟨n0, by show numOf l < 4294967296; omega, t0, h2, by show (str _).size ≤ 8; rw [hp]; omega, keyL_size l 15 h5, keyL_size l 36 h6, keyL_size l 57 h7, keyL_size l 78 h8⟩
theorem open_dev {sm : Nat} {h0 h1 : ByteArray} (s0 : h0.size = 100) (s1 : h1.size = 100) {E : Dv × Int} (HE : E = (Dv.of sm h0 h1).bootC) (hz : E.2 = 0) :
    E.1.sound ∧ E.1.stands ∧ E.1.h0 = h0 ∧ E.1.h1 = h1 ∧ E.1.off = false ∧ E.1.cut = -1 ∧ E.1.unl = false ∧ E.1.inn = ⟨#[]⟩ ∧ E.1.sm = sm := by
  have hst := Dv.stands.of_boot (d := Dv.of sm h0 h1) (by rw [← HE]; exact hz)
  rw [← HE] at hst
  have hfs : E.1.h0 = h0 ∧ E.1.h1 = h1 ∧ E.1.off = false ∧ E.1.cut = -1 ∧ E.1.unl = false ∧ E.1.inn = ⟨#[]⟩ ∧ E.1.sm = sm := by
    rw [HE] at hz ⊢
    unfold Dv.bootC at hz ⊢
    split at hz
    · exact absurd hz (show ¬ (2 : Int) = 0 by omega)
    · rename_i hx
      rw [if_neg hx]
      split <;> exact ⟨rfl, rfl, rfl, rfl, rfl, rfl, rfl⟩
  obtain ⟨e0, e1, e2, e3, e4, e5, e6⟩ := hfs
  refine ⟨?_, hst, e0, e1, e2, e3, e4, e5, e6⟩
  have hL : (Bs (if E.1.wh = 0 then E.1.h0 else E.1.h1)).length = 100 := by
    rw [Bs_len]
    split
    · rw [e0, s0]
    · rw [e1, s1]
  obtain ⟨q1, q2, q3⟩ := read_sound hL hst.right
  rw [hst.same] at q1 q2 q3
  exact ⟨q1, by have := q3.n1; omega, q3.t0, q3.t1, q2, q3.pin, q3.k0, q3.k1, q3.k2, q3.k3, hst.wh, by rw [e3]; omega, by rw [e0, s0], by rw [e1, s1]⟩

/-- Open, by the document's device -/
theorem prog_Open (sm : Nat) (f : ByteArray) (w : World) (hf : f.size = 200) (E : Dv × Int) (HE : E = (Dv.of sm (f.extract 0 100) (f.extract 100 200)).bootC) :
    Calls Tryz.prog 25 #[.string f] w fun r w' => ((E.2 = 0 ∧ ∃ g, w.heap.size ≤ g ∧ r = .returned (.tuple #[.pointer (some ⟨g, 0, none⟩), .int .i64 0]) ∧ PdAny w' g E.1) ∨ (¬ E.2 = 0 ∧ r = .returned (.tuple #[.pointer none, .int .i64 2]))) ∧ Below w.heap.size w w' := by
  have hl : (Bs f).length = 200 := by rw [Bs_len, hf]
  have h0 : Bs (f.extract 0 100) = (Bs f).take 100 := by rw [sub_list]; rfl
  have h1 : Bs (f.extract 100 200) = (Bs f).drop 100 := by rw [sub_list]; exact List.take_of_length_le (by rw [List.length_drop, hl]; omega)
  have l0 : (Bs (f.extract 0 100)).length = 100 := by rw [h0, List.length_take, hl]; rfl
  have l1 : (Bs (f.extract 100 200)).length = 100 := by rw [h1, List.length_drop, hl]
  have hap : Bs (f.extract 0 100) ++ Bs (f.extract 100 200) = Bs f := by rw [h0, h1]; exact List.take_append_drop 100 _
  by_cases hz : E.2 = 0
  · obtain ⟨hs, hst, e0, e1, e2, e3, e4, e5, e6⟩ := open_dev (by rw [← Bs_len]; exact l0) (by rw [← Bs_len]; exact l1) HE hz
    have hfit := hst.fit hs
    refine (prog_Open_yes f w hf E.1.wh.toNat ?_).mono ?_
    · intro W g hR
      rw [← hap] at hR
      have hkp := hfit.keeps
      rw [e0, e1] at hkp
      exact prog_kept W g _ _ _ _ _ _ hR l0 l1 hkp
    · rintro r w' ⟨⟨g, hg, hr, hR⟩, hb⟩
      refine ⟨.inl ⟨hz, g, hg, hr, .inl ⟨e2, ?_⟩⟩, hb⟩
      unfold PdAt
      rw [e0, e1, hap, e4, e5, show E.1.pw = .none by unfold Dv.pw Pw.none; rw [e2, e3]; rfl]
      exact hR
  · have hn : ¬ readOk (Bs (f.extract 0 100)) ∧ ¬ readOk (Bs (f.extract 100 200)) := by
      apply Classical.byContradiction
      intro hx
      apply hz
      rw [HE]
      unfold Dv.bootC
      rw [if_neg (show ¬ (¬ readOk (Bs (Dv.of sm (f.extract 0 100) (f.extract 100 200)).h0) ∧ ¬ readOk (Bs (Dv.of sm (f.extract 0 100) (f.extract 100 200)).h1)) from hx)]
      split <;> rfl
    refine (prog_Open_no f w hf 0 ?_).mono ?_
    · intro W g hR
      rw [← hap] at hR
      exact prog_kept_ff W g 0 100 rfl _ _ false (dev_h0 hR l0) (dev_h1 hR l0 l1) (told_no hn.1) (told_no hn.2)
    · rintro r w' ⟨hr, hb⟩
      exact ⟨.inr ⟨hz, hr⟩, hb⟩
end Go.Proofs.YtaokemapkgggoaaGreatDoor
