import Derived.Test.YtaokemapkgggoaaDoorKb25
import Derived.Test.YtaokemapkgggoaaDoorKb26
import Derived.Test.YtaokemapkgggoaaDoorKb19
import Derived.Test.YtaokemapkgggoaaDoorKb28
namespace Go.Proofs.YtaokemapkgggoaaDoor
open Go.RowKit

theorem alloc_size' (W : World) (o : Obj) : (W.alloc o).heap.size = W.heap.size + 1 := Array.size_push ..
theorem half_len {d : Dv} (ok : d.sound) : (Bs d.h0 ++ Bs d.h1).length = 200 := by rw [List.length_append, Bs_len, Bs_len, ok.s0, ok.s1]
set_option maxRecDepth 100000 in
set_option maxHeartbeats 1000000 in
theorem prog_Cut_no (w : World) (g : Nat) (n : Int) (hn : n < 0) :
    Calls Tryd.prog 24 #[.pointer (some ⟨g, 0, none⟩), .int .i64 n] w fun r w' => r = .returned (.int .i64 3) ∧ w' = w := by
  go_enter Tryd.func24, Tryd.ntmps24
  go_wp2
  go_ret
  exact ⟨rfl, rfl⟩

set_option maxRecDepth 100000 in
set_option maxHeartbeats 1000000 in
theorem prog_Cut_row (w : World) (g : Nat) (n : Int) (f : List UInt8) (q : Pw) (u : Bool) (c : ByteArray) (hR : Row w g (dcells f q u c) 81) (hl : f.length = 200) (hn : 0 ≤ n) :
    Calls Tryd.prog 24 #[.pointer (some ⟨g, 0, none⟩), .int .i64 n] w fun r w' => r = .returned (.int .i64 0) ∧ Row w' g (dcells f ⟨q.gone, true, n⟩ u c) 81 ∧ w.grownBy w' (some g) := by
  have c1 : w.cell? ⟨g, 201, none⟩ = some (.bool q.ending) := by rw [hR.cell]; exact dcells_at f q u c 1 hl
  have c2 : w.cell? ⟨g, 202, none⟩ = some (.int .i64 q.left) := by rw [hR.cell]; exact dcells_at f q u c 2 hl
  have f1 := hR.frozen 201
  have f2 := hR.frozen 202
  have hn' : ¬ n < 0 := by omega
  have e1 : (dcells f q u c).set 201 (.bool true) = dcells f ⟨q.gone, true, q.left⟩ u c := dcells_put f q u c 1 _ hl
  have e2 : (dcells f ⟨q.gone, true, q.left⟩ u c).set 202 (.int .i64 n) = dcells f ⟨q.gone, true, n⟩ u c := dcells_put f ⟨q.gone, true, q.left⟩ u c 2 _ hl
  have HF : Hid (Row ((w.setCell ⟨g, 201, none⟩ (.bool true)).setCell ⟨g, 202, none⟩ (.int .i64 n)) g (dcells f ⟨q.gone, true, n⟩ u c) 81) := by
    show Row _ _ _ _
    have := (hR.setCell 201 (.bool true)).setCell 202 (.int .i64 n)
    rwa [e1, e2] at this
  clear e1 e2
  go_enter Tryd.func24, Tryd.ntmps24
  go_wp2
  go_ret
  exact ⟨rfl, HF.out, grown_set (grown_set (World.grownBy.refl _ _) _ _) _ _⟩

theorem prog_Cut_yes (w : World) (g : Nat) (d : Dv) (n : Int) (h : PdAny w g d) (ok : d.sound) (hn : 0 ≤ n) :
    Calls Tryd.prog 24 #[.pointer (some ⟨g, 0, none⟩), .int .i64 n] w fun r w' => r = .returned (.int .i64 0) ∧ PdAny w' g { d with cut := n } ∧ w.grownBy w' (some g) := by
  rcases h with ⟨on, h⟩ | ⟨off, a, b, h⟩
  · refine (prog_Cut_row w g n _ _ _ _ h (half_len ok) hn).mono ?_
    rintro r w' ⟨hr, hd, hg⟩
    refine ⟨hr, .inl ⟨on, ?_⟩, hg⟩
    unfold PdAt
    have e : (⟨d.pw.gone, true, n⟩ : Pw) = Dv.pw { d with cut := n } := by
      unfold Dv.pw
      simp [hn]
    rw [e] at hd
    exact hd
  · refine (prog_Cut_row w g n _ _ _ _ h (half_len ok) hn).mono ?_
    rintro r w' ⟨hr, hd, hg⟩
    exact ⟨hr, .inr ⟨off, _, _, hd⟩, hg⟩

/-- what is there when a device is booted -/
def Dv.booted (d : Dv) : Dv := { d with unl := false, inn := ⟨#[]⟩, cut := -1, off := false }
theorem Dv.stands.booted {d : Dv} (h : d.stands) : d.bootC = (d.booted, 0) := h.boot
set_option maxRecDepth 100000 in
set_option maxHeartbeats 1000000 in
theorem prog_Boot (w : World) (g : Nat) (d : Dv) (h : PdAny w g d) (ok : d.sound) :
    Calls Tryd.prog 25 #[.pointer (some ⟨g, 0, none⟩)] w fun r w' => r = .returned (.int .i64 0) ∧ PdAny w' g d.booted ∧ w.grownBy w' (some g) := by
  obtain ⟨q, u, c, h⟩ := h.cells
  have hrs := prog_restart w g _ q .none u c h (half_len ok)
  go_enter Tryd.func25, Tryd.ntmps25
  go_wp2_with (go_at_call 39; refine hrs.mono ?_; rintro _ w1 ⟨rfl, hr1, hg1⟩)
  go_ret
  exact ⟨rfl, .inl ⟨rfl, hr1⟩, hg1⟩

set_option maxRecDepth 100000 in
set_option maxHeartbeats 1000000 in
theorem prog_Open_size (f : ByteArray) (w : World) (hf : ¬ f.size = 200) :
    Calls Tryd.prog 28 #[.string f] w fun r w' => r = .returned (.tuple #[.pointer none, .int .i64 2]) ∧ w' = w := by
  have hf' : ¬ (f.size : Int) = 200 := by omega
  go_enter Tryd.func28, Tryd.ntmps28
  go_wp2
  go_ret2
  exact ⟨rfl, rfl⟩

theorem bcells_app (a b : List UInt8) : bcells (a ++ b) = bcells a ++ bcells b := by simp [bcells]
theorem sub_list (f : ByteArray) (a b : Nat) : Bs (f.extract a b) = ((Bs f).drop a).take (b - a) := by
  unfold Bs
  rw [ByteArray.data_extract, Array.toList_extract, List.extract_eq_take_drop]

set_option maxRecDepth 100000 in
set_option maxHeartbeats 1000000 in
theorem prog_flashOf (f : ByteArray) (w : World) (hf : f.size = 200) :
    Calls Tryd.prog 40 #[.string f] w fun r w' => r = .returned (.agg (bcells (Bs f)).toArray) ∧ Below w.heap.size w w' := by
  have hx0 := fun wx => run_indexFlash wx (w.heap.size + 1) 0 0 0 rfl (by omega) 0 (by omega)
  have hx1 := fun wx => run_indexFlash wx (w.heap.size + 1) 0 1 1 rfl (by omega) 100 (by omega)
  have hsl := fun wx o => run_sliceArr2 (P := Tryd.prog) wx 75 5 100 under_img size_byte (w.heap.size + 1) o 0 100 (by omega) (by omega) (by omega) 0 100 rfl rfl
  have HLF : Hid ((Bs f).length = 200) := by show _ = _; rw [Bs_len, hf]
  obtain ⟨f0, HF0⟩ : ∃ f0, Hid (f0 = f.extract 0 100) := ⟨_, rfl⟩
  obtain ⟨f1, HF1⟩ : ∃ f1, Hid (f1 = f.extract 100 200) := ⟨_, rfl⟩
  have hz0 : f0.size = 100 := by rw [HF0.out, ByteArray.size_extract]; omega
  have hz1 : f1.size = 100 := by rw [HF1.out, ByteArray.size_extract]; omega
  have e0 : f.extract 0 100 = f0 := HF0.out.symm
  have e1 : f.extract 100 200 = f1 := HF1.out.symm
  have hfi : (f.size : Int) = 200 := by omega
  obtain ⟨zf, HZF⟩ : ∃ zf : List UInt8, Hid (zf = List.replicate 200 0) := ⟨List.replicate 200 0, (rfl : List.replicate 200 (0 : UInt8) = List.replicate 200 0)⟩
  have HZL : Hid (zf.length = 200) := by show _ = _; rw [HZF.out, List.length_replicate]
  have HZ96 : Hid (Tryd.zeroCells77 = (bcells zf).toArray) := by show _ = _; rw [HZF.out]; exact zero96
  obtain ⟨W0, HW⟩ : ∃ W0, Hid (W0 = (w.alloc (.cells Tryd.zeroCells77 77)).alloc (.cells Tryd.zeroCells77 77)) := ⟨_, rfl⟩
  obtain ⟨W, HWD⟩ : ∃ W, Hid (W = W0.drew) := ⟨_, rfl⟩
  have hR : Row W (w.heap.size + 1) (bcells zf) 77 := by
    rw [HWD.out, HW.out, HZ96.out]
    have := Row.made (w.alloc (.cells (bcells zf).toArray 77)) (bcells zf) 77
    rw [alloc_size'] at this
    exact this.drew
  have hO : Row W w.heap.size (bcells zf) 77 := by
    rw [HWD.out, HW.out, HZ96.out]
    exact ((Row.made w _ _).alloc _).drew
  have hB : Below w.heap.size w W := by
    rw [HWD.out, HW.out]
    exact (((Below.refl _ _).alloc (Nat.le_refl _) _).alloc (by rw [alloc_size']; omega) _).drew
  have HBF : Hid (Bs f0 ++ Bs f1 = Bs f) := by
    show _ = _
    rw [HF0.out, HF1.out, sub_list, sub_list, List.drop_zero, show 200 - 100 = 100 from rfl, List.take_of_length_le (l := (Bs f).drop 100) (by rw [List.length_drop, HLF.out]; omega)]
    exact List.take_append_drop 100 (Bs f)
  have HL0 : Hid ((Bs f0).length = 100) := by show _ = _; rw [Bs_len, hz0]
  have HL1 : Hid ((Bs f1).length = 100) := by show _ = _; rw [Bs_len, hz1]
  have hcp : (Builtin.copy_ #[28, 9] 3 #[.slice (some ⟨w.heap.size + 1, 0, none⟩) 100 100, .string f0]).run Tryd.prog W = .ok (.int .i64 100) (W.setRow (w.heap.size + 1) (bcells (Bs f0 ++ zf.drop 100)).toArray) := by
    have := Lib.run_copy_row_string (P := Tryd.prog) W 28 9 3 5 (w.heap.size + 1) 0 100 100 f0 _ 77 under_bytes size_byte hR (by omega) (by rw [List.size_toArray, bcells_length, HZL.out, hz0]; omega)
    rw [hz0] at this
    rw [this]
    congr 3
    rw [List.toList_toArray, List.take_zero, List.nil_append, Nat.zero_add, bcells_app]
    congr 1
    simp [bcells, List.map_drop]
  have hR2 : Row (W.setRow (w.heap.size + 1) (bcells (Bs f0 ++ zf.drop 100)).toArray).drew (w.heap.size + 1) (bcells (Bs f0 ++ zf.drop 100)) 77 := (Row.setRow hR _).drew
  have hO2 : Row (W.setRow (w.heap.size + 1) (bcells (Bs f0 ++ zf.drop 100)).toArray).drew w.heap.size (bcells zf) 77 := Row.drew (Row.setRow_other hO _ _ (by omega))
  have hB2 : Below w.heap.size w (W.setRow (w.heap.size + 1) (bcells (Bs f0 ++ zf.drop 100)).toArray).drew := (below_setRow hB (by omega) _).drew
  obtain ⟨W2, HW2⟩ : ∃ W2, Hid (W2 = (W.setRow (w.heap.size + 1) (bcells (Bs f0 ++ zf.drop 100)).toArray).drew) := ⟨_, rfl⟩
  rw [← HW2.out] at hR2 hO2 hB2
  have hcp2 : (Builtin.copy_ #[28, 9] 3 #[.slice (some ⟨w.heap.size + 1, 100, none⟩) 100 100, .string f1]).run Tryd.prog W2 = .ok (.int .i64 100) (W2.setRow (w.heap.size + 1) (bcells (Bs f)).toArray) := by
    have := Lib.run_copy_row_string (P := Tryd.prog) W2 28 9 3 5 (w.heap.size + 1) 100 100 100 f1 _ 77 under_bytes size_byte hR2 (by omega) (by rw [List.size_toArray, bcells_length, List.length_append, List.length_drop, HZL.out, HL0.out, hz1]; omega)
    rw [hz1] at this
    rw [this, ← HBF.out]
    congr 3
    rw [List.toList_toArray, bcells_app (Bs f0), bcells_app (Bs f0), List.take_left' (by rw [bcells_length, HL0.out]), List.drop_of_length_le (by rw [List.length_append, bcells_length, bcells_length, List.length_drop, HZL.out, HL0.out]; omega), List.append_nil]
    rfl
  have hR3 : Row (W2.setRow (w.heap.size + 1) (bcells (Bs f)).toArray) (w.heap.size + 1) (bcells (Bs f)) 77 := Row.setRow hR2 _
  have hO3 : Row (W2.setRow (w.heap.size + 1) (bcells (Bs f)).toArray) w.heap.size (bcells zf) 77 := Row.setRow_other hO2 _ _ (by omega)
  have hB3 : Below w.heap.size w (W2.setRow (w.heap.size + 1) (bcells (Bs f)).toArray) := below_setRow hB2 (by omega) _
  obtain ⟨W3, HW3⟩ : ∃ W3, Hid (W3 = W2.setRow (w.heap.size + 1) (bcells (Bs f)).toArray) := ⟨_, rfl⟩
  rw [← HW3.out] at hR3 hO3 hB3 hcp2
  have HLB : Hid ((bcells (Bs f)).length = 200) := by show _ = _; rw [bcells_length, HLF.out]
  obtain ⟨cs, HCS⟩ : ∃ cs, Hid (cs = bcells (Bs f)) := ⟨_, rfl⟩
  have hOf : Row (W3.setCells w.heap.size 0 cs) w.heap.size cs 77 := by
    have hx := Row.setCells cs 0 hO3 (by rw [HCS.out, HLB.out, bcells_length, HZL.out]; omega)
    rwa [splice_all _ _ (by rw [HCS.out, HLB.out, bcells_length, HZL.out])] at hx
  rw [← HCS.out] at hR3 HLB
  have hcz : cs.toArray.size = 200 := by rw [List.size_toArray, HLB.out]
  have hth : W3.there w.heap.size 0 cs.toArray.size := by rw [hcz]; exact hO3.thereFrom 0 200 (by rw [bcells_length, HZL.out]; omega)
  have hsz : (Tryd.prog.info? 77).map (·.size) = some cs.toArray.size := by rw [hcz]; exact size_flash
  go_enter Tryd.func40, Tryd.ntmps40
  go_wp2
  rw [← HW.out]
  have hcp' : (Builtin.copy_ #[28, 9] 3 #[.slice (some ⟨w.heap.size + 1, 0, none⟩) 100 100, .string f0]).run Tryd.prog W0.drew = .ok (.int .i64 100) (W.setRow (w.heap.size + 1) (bcells (Bs f0 ++ zf.drop 100)).toArray) := by rw [← HWD.out]; exact hcp
  go_region
  have hcp2' : (Builtin.copy_ #[28, 9] 3 #[.slice (some ⟨w.heap.size + 1, 100, none⟩) 100 100, .string f1]).run Tryd.prog (W.setRow (w.heap.size + 1) (bcells (Bs f0 ++ zf.drop 100)).toArray).drew = .ok (.int .i64 100) W3 := by rw [← HW2.out]; exact hcp2
  generalize W.setRow (w.heap.size + 1) (bcells (Bs f0 ++ zf.drop 100)).toArray = WX at *
  go_wp2
  go_region
  go_wp2_with (first | (refine wpList_load_mid rfl 77 _ rfl (w.heap.size + 1) 0 rfl cs _ hR3.range under_flash rfl (by rw [size_flash, HLB.out]) ?_; go_simp) | (refine wpList_store_mid rfl 77 _ _ rfl w.heap.size 0 cs.toArray rfl rfl hth hsz (all_oneCell_toArray (by rw [HCS.out]; exact bcells_one _)) ?_; go_simp))
  rw [← HCS.out]
  exact bodyPost_ret (v := .agg cs.toArray) (results_cell_row Tryd.results40 _ _ w.heap.size 77 cs.toArray (0, 0) _ rfl hOf under_flash rfl hsz) rfl ⟨rfl, below_setCells (Nat.le_refl _) cs 0 _ hB3⟩
set_option maxRecDepth 100000 in
set_option maxHeartbeats 1000000 in
/-- Open of a flash of 200 bytes with a right half -/
theorem prog_Open_yes (f : ByteArray) (w : World) (hf : f.size = 200) (wh : Nat) (hk : ∀ (W : World) (g : Nat), Row W g (dcells (Bs f) .none false ⟨#[]⟩) 81 → Calls Tryd.prog 41 #[.pointer (some ⟨g, 0, none⟩)] W fun r w' => r = .returned (.tuple #[.int .i64 wh, .bool true]) ∧ ∃ n, w' = W.drewN n) :
    Calls Tryd.prog 28 #[.string f] w fun r w' => (∃ g, w.heap.size ≤ g ∧ r = .returned (.tuple #[.pointer (some ⟨g, 0, none⟩), .int .i64 0]) ∧ Row w' g (dcells (Bs f) .none false ⟨#[]⟩) 81) ∧ Below w.heap.size w w' := by
  have hf' : (f.size : Int) = 200 := by omega
  have hfl := prog_flashOf f w hf
  have HLF : Hid ((Bs f).length = 200) := by show _ = _; rw [Bs_len, hf]
  have hbl2 : (bcells (Bs f)).length = 200 := by rw [bcells_length, HLF.out]
  have e98 := build98 (Bs f) HLF.out
  obtain ⟨fl, HFL⟩ : ∃ fl, Hid (fl = Bs f) := ⟨_, rfl⟩
  rw [← HFL.out] at hfl hbl2 e98 hk
  rw [← HFL.out]
  go_enter Tryd.func28, Tryd.ntmps28
  go_wp2_with (first | (go_at_call 40; refine hfl.mono ?_; rintro _ w1 ⟨rfl, hb1⟩) | (go_at_call 41; refine (hk _ w1.heap.size (Row.made w1 _ _)).mono ?_; rintro _ w3 ⟨rfl, n3, e3⟩; have hr3 : Row w3 w1.heap.size (dcells fl .none false ⟨#[]⟩) 81 := (by rw [e3]; exact Row.made w1 _ _); have hb3 : Below w.heap.size w w3 := (by rw [e3]; exact below_drewN (hb1.alloc hb1.size _) _); clear e3))
  go_ret2
  exact ⟨⟨_, hb1.size, rfl, hr3⟩, hb3⟩

set_option maxRecDepth 100000 in
set_option maxHeartbeats 1000000 in
/-- Open of a flash of 200 bytes without a right half -/
theorem prog_Open_no (f : ByteArray) (w : World) (hf : f.size = 200) (wh : Nat) (hk : ∀ (W : World) (g : Nat), Row W g (dcells (Bs f) .none false ⟨#[]⟩) 81 → Calls Tryd.prog 41 #[.pointer (some ⟨g, 0, none⟩)] W fun r w' => r = .returned (.tuple #[.int .i64 wh, .bool false]) ∧ ∃ n, w' = W.drewN n) :
    Calls Tryd.prog 28 #[.string f] w fun r w' => r = .returned (.tuple #[.pointer none, .int .i64 2]) ∧ Below w.heap.size w w' := by
  have hf' : (f.size : Int) = 200 := by omega
  have hfl := prog_flashOf f w hf
  have HLF : Hid ((Bs f).length = 200) := by show _ = _; rw [Bs_len, hf]
  have hbl2 : (bcells (Bs f)).length = 200 := by rw [bcells_length, HLF.out]
  have e98 := build98 (Bs f) HLF.out
  obtain ⟨fl, HFL⟩ : ∃ fl, Hid (fl = Bs f) := ⟨_, rfl⟩
  rw [← HFL.out] at hfl hbl2 e98 hk
  go_enter Tryd.func28, Tryd.ntmps28
  go_wp2_with (first | (go_at_call 40; refine hfl.mono ?_; rintro _ w1 ⟨rfl, hb1⟩) | (go_at_call 41; refine (hk _ w1.heap.size (Row.made w1 _ _)).mono ?_; rintro _ w3 ⟨rfl, n3, e3⟩; have hb3 : Below w.heap.size w w3 := (by rw [e3]; exact below_drewN (hb1.alloc hb1.size _) _); clear e3))
  go_ret2
  exact ⟨rfl, hb3⟩

theorem keyL_size (l : List UInt8) (o : Nat) (h : bAt l o ≤ 20) : (keyL l o).size ≤ 20 := by
  unfold keyL
  have := (bAt_B l o).1
  rw [str_size, List.length_take]
  omega
/-- what a right image says -/
theorem read_sound {l : List UInt8} (hl : l.length = 100) (h : readOk l) : 1 ≤ (readK l).num ∧ 1 ≤ (readK l).pin.size ∧ (readK l).good := by
  obtain ⟨⟨h1, h2, h3, h4⟩, ⟨h5, h6, h7, h8⟩, -⟩ := h
  obtain ⟨n0, n1⟩ := numOf_w l
  have t0 := (bAt_B l 5).1
  have hp : (str ((l.drop 7).take (bAt l 6).toNat)).size = (bAt l 6).toNat := by
    rw [str_size, List.length_take, List.length_drop, hl]
    omega
  refine ⟨by show 1 ≤ numOf l; omega, by show 1 ≤ (str _).size; rw [hp]; omega, ?_⟩
  exact ⟨n0, by show numOf l < 4294967296; omega, t0, h2, by show (str _).size ≤ 8; rw [hp]; omega, keyL_size l 15 h5, keyL_size l 36 h6, keyL_size l 57 h7, keyL_size l 78 h8⟩
theorem open_dev {sm : Nat} {h0 h1 : ByteArray} (s0 : h0.size = 100) (s1 : h1.size = 100) {E : Dv × Int} (HE : E = (Dv.of sm h0 h1).bootC) (hz : E.2 = 0) :
    E.1.sound ∧ E.1.stands ∧ E.1.h0 = h0 ∧ E.1.h1 = h1 ∧ E.1.off = false ∧ E.1.cut = -1 ∧ E.1.unl = false ∧ E.1.inn = ⟨#[]⟩ ∧ E.1.sm = sm := by
  have hst := Dv.stands.of_boot (d := Dv.of sm h0 h1) (by rw [← HE]; exact hz)
  rw [← HE] at hst
  have hfs : E.1.h0 = h0 ∧ E.1.h1 = h1 ∧ E.1.off = false ∧ E.1.cut = -1 ∧ E.1.unl = false ∧ E.1.inn = ⟨#[]⟩ ∧ E.1.sm = sm := by
    rw [HE] at hz ⊢
    unfold Dv.bootC at hz ⊢
    split at hz
    · exact absurd hz (show ¬ (2 : Int) = 0 by omega)
    · rename_i hx
      rw [if_neg hx]
      split <;> exact ⟨rfl, rfl, rfl, rfl, rfl, rfl, rfl⟩
  obtain ⟨e0, e1, e2, e3, e4, e5, e6⟩ := hfs
  refine ⟨?_, hst, e0, e1, e2, e3, e4, e5, e6⟩
  have hL : (Bs (if E.1.wh = 0 then E.1.h0 else E.1.h1)).length = 100 := by
    rw [Bs_len]
    split
    · rw [e0, s0]
    · rw [e1, s1]
  obtain ⟨q1, q2, q3⟩ := read_sound hL hst.right
  rw [hst.same] at q1 q2 q3
  exact ⟨q1, by have := q3.n1; omega, q3.t0, q3.t1, q2, q3.pin, q3.k0, q3.k1, q3.k2, q3.k3, hst.wh, by rw [e3]; omega, by rw [e0, s0], by rw [e1, s1]⟩

/-- Open, by the document's device -/
theorem prog_Open (sm : Nat) (f : ByteArray) (w : World) (hf : f.size = 200) (E : Dv × Int) (HE : E = (Dv.of sm (f.extract 0 100) (f.extract 100 200)).bootC) :
    Calls Tryd.prog 28 #[.string f] w fun r w' => ((E.2 = 0 ∧ ∃ g, w.heap.size ≤ g ∧ r = .returned (.tuple #[.pointer (some ⟨g, 0, none⟩), .int .i64 0]) ∧ PdAny w' g E.1) ∨ (¬ E.2 = 0 ∧ r = .returned (.tuple #[.pointer none, .int .i64 2]))) ∧ Below w.heap.size w w' := by
  have hl : (Bs f).length = 200 := by rw [Bs_len, hf]
  have h0 : Bs (f.extract 0 100) = (Bs f).take 100 := by rw [sub_list]; rfl
  have h1 : Bs (f.extract 100 200) = (Bs f).drop 100 := by rw [sub_list]; exact List.take_of_length_le (by rw [List.length_drop, hl]; omega)
  have l0 : (Bs (f.extract 0 100)).length = 100 := by rw [h0, List.length_take, hl]; rfl
  have l1 : (Bs (f.extract 100 200)).length = 100 := by rw [h1, List.length_drop, hl]
  have hap : Bs (f.extract 0 100) ++ Bs (f.extract 100 200) = Bs f := by rw [h0, h1]; exact List.take_append_drop 100 _
  by_cases hz : E.2 = 0
  · obtain ⟨hs, hst, e0, e1, e2, e3, e4, e5, e6⟩ := open_dev (by rw [← Bs_len]; exact l0) (by rw [← Bs_len]; exact l1) HE hz
    have hfit := hst.fit hs
    refine (prog_Open_yes f w hf E.1.wh.toNat ?_).mono ?_
    · intro W g hR
      rw [← hap] at hR
      have hkp := hfit.keeps
      rw [e0, e1] at hkp
      exact prog_kept W g _ _ _ _ _ _ hR l0 l1 hkp
    · rintro r w' ⟨⟨g, hg, hr, hR⟩, hb⟩
      refine ⟨.inl ⟨hz, g, hg, hr, .inl ⟨e2, ?_⟩⟩, hb⟩
      unfold PdAt
      rw [e0, e1, hap, e4, e5, show E.1.pw = .none by unfold Dv.pw Pw.none; rw [e2, e3]; rfl]
      exact hR
  · have hn : ¬ readOk (Bs (f.extract 0 100)) ∧ ¬ readOk (Bs (f.extract 100 200)) := by
      apply Classical.byContradiction
      intro hx
      apply hz
      rw [HE]
      unfold Dv.bootC
      rw [if_neg (show ¬ (¬ readOk (Bs (Dv.of sm (f.extract 0 100) (f.extract 100 200)).h0) ∧ ¬ readOk (Bs (Dv.of sm (f.extract 0 100) (f.extract 100 200)).h1)) from hx)]
      split <;> rfl
    refine (prog_Open_no f w hf 0 ?_).mono ?_
    · intro W g hR
      rw [← hap] at hR
      exact prog_kept_ff W g 0 100 rfl _ _ false (dev_h0 hR l0) (dev_h1 hR l0 l1) (told_no hn.1) (told_no hn.2)
    · rintro r w' ⟨hr, hb⟩
      exact ⟨.inr ⟨hz, hr⟩, hb⟩
end Go.Proofs.YtaokemapkgggoaaDoor

namespace Go.Proofs.YtaokemapkgggoaaDoor
open Go.RowKit

theorem told_frame (kind : Nat) (p : List UInt8) : told kind p = frameB kind p := rfl
theorem withIn_self {d : Dv} (h : d.inn = ⟨#[]⟩) : d.withIn [] = d := by
  obtain ⟨sm, h0, h1, k, wh, unl, off, cut, inn⟩ := d
  obtain rfl : inn = ⟨#[]⟩ := h
  rfl
/-- all that is fed, at once -/
def fed (d : Dv) (l : List UInt8) : List UInt8 × Dv := feedC ((d.inn ++ str l).size + 1) d (d.inn ++ str l).data.toList
theorem empty_app (l : List UInt8) : ((⟨#[]⟩ : ByteArray) ++ str l) = str l := by
  apply ByteArray.ext
  rw [ByteArray.data_append]
  simp
theorem fed_frame {d : Dv} (kind : Nat) (p : List UInt8) (hk : kind < 256) (hp : p.length ≤ 48) (ho : d.off = false) (hi : d.inn = ⟨#[]⟩) :
    fed d (told kind p) = ((if (d.commandC kind (str p)).1.off = true then [] else told (d.commandC kind (str p)).2.1 (d.commandC kind (str p)).2.2), (d.commandC kind (str p)).1.withIn []) := by
  unfold fed
  rw [hi, empty_app, str_list, str_size, told_frame, frameB_len]
  exact feedC_frame (p.length + 3) d kind p hk hp ho _ (by rw [withIn_self hi])
theorem fed_off {d : Dv} (l : List UInt8) (ho : d.off = true) : fed d l = ([], d.withIn []) := feedC_off ho

/-- a device of the program's, made behind w0 -/
structure KdAt (w0 w : World) (g : Nat) (d : Dv) : Prop where
  pd : PdAny w g d
  ok : d.sound
  st : d.stands
  inn : d.inn.size < 52
  low : w0.heap.size ≤ g
  base : Below w0.heap.size w0 w
theorem keep_grown {w0 w w' : World} {g : Nat} (h : Below w0.heap.size w0 w) (hg : w.grownBy w' (some g)) (hl : w0.heap.size ≤ g) : Below w0.heap.size w0 w' :=
  ⟨hg.os.trans h.os, hg.tape.trans h.tape, hg.output.trans h.output, Nat.le_trans h.size hg.size, fun i hi => (hg.block i (by have := h.size; omega) (fun e => by cases e; omega)).trans (h.block i hi)⟩
section
variable {w0 w w' : World} {g j : Nat} {d : Dv}
theorem KdAt.next (K : KdAt w0 w g d) (hb : Below w.heap.size w w') : KdAt w0 w' g d := ⟨K.pd.below hb K.pd.lt, K.ok, K.st, K.inn, K.low, K.base.trans (hb.mono K.base.size)⟩
theorem KdAt.other (K : KdAt w0 w g d) (hg : w.grownBy w' (some j)) (hj : w0.heap.size ≤ j) (hne : g ≠ j) : KdAt w0 w' g d := ⟨K.pd.grown hg hne, K.ok, K.st, K.inn, K.low, keep_grown K.base hg hj⟩
theorem KdAt.fed (K : KdAt w0 w g d) (l : List UInt8) : (fed d l).2.sound ∧ (fed d l).2.stands ∧ (fed d l).2.inn.size < 52 := by
  have := feedC_good ((d.inn ++ str l).size + 1) d (d.inn ++ str l).data.toList (by rw [Array.length_toList]; exact Nat.lt_succ_self _) K.ok K.st
  exact ⟨this.1, this.2.1, this.2.2.2⟩
/-- Feed, of a device that was made behind w0 -/
theorem keep_Feed (G : Glob w0) (K : KdAt w0 w g d) (l : List UInt8) (hs : l.length < 1900000) :
    Calls Tryd.prog 19 #[.pointer (some ⟨g, 0, none⟩), .string (str l)] w fun r w' => r = .returned (.string (str (fed d l).1)) ∧ KdAt w0 w' g (fed d l).2 ∧ w.grownBy w' (some g) := by
  have hin := K.inn
  obtain ⟨f1, f2, f3⟩ := K.fed l
  refine (prog_Feed w g d (str l) K.pd K.st K.ok (fun w' h => G.below (keep_grown K.base h K.low) (Nat.le_refl _)) (by rw [str_size]; omega)).mono ?_
  rintro r w' ⟨hr, hd, hg⟩
  exact ⟨hr, ⟨hd, f1, f2, f3, K.low, keep_grown K.base hg K.low⟩, hg⟩
theorem keep_Flash (K : KdAt w0 w g d) :
    Calls Tryd.prog 21 #[.pointer (some ⟨g, 0, none⟩)] w fun r w' => r = .returned (.string (d.h0 ++ d.h1)) ∧ KdAt w0 w' g d ∧ Below w.heap.size w w' :=
  (prog_Flash w g d K.pd K.ok).mono fun _ _ h => ⟨h.1, K.next h.2, h.2⟩
theorem keep_Cut (K : KdAt w0 w g d) (n : Nat) (hn : n ≤ 100000) :
    Calls Tryd.prog 24 #[.pointer (some ⟨g, 0, none⟩), .int .i64 n] w fun r w' => r = .returned (.int .i64 0) ∧ KdAt w0 w' g { d with cut := n } ∧ w.grownBy w' (some g) := by
  refine (prog_Cut_yes w g d n K.pd K.ok (by omega)).mono ?_
  rintro r w' ⟨hr, hd, hg⟩
  exact ⟨hr, ⟨hd, ⟨K.ok.n0, K.ok.n1, K.ok.t0, K.ok.t1, K.ok.p0, K.ok.p1, K.ok.k0, K.ok.k1, K.ok.k2, K.ok.k3, K.ok.wh, by show (n : Int) ≤ _; omega, K.ok.s0, K.ok.s1⟩, K.st.setCut n, K.inn, K.low, keep_grown K.base hg K.low⟩, hg⟩
theorem keep_Boot (K : KdAt w0 w g d) :
    Calls Tryd.prog 25 #[.pointer (some ⟨g, 0, none⟩)] w fun r w' => r = .returned (.int .i64 0) ∧ KdAt w0 w' g d.booted ∧ w.grownBy w' (some g) := by
  refine (prog_Boot w g d K.pd K.ok).mono ?_
  rintro r w' ⟨hr, hd, hg⟩
  exact ⟨hr, ⟨hd, ⟨K.ok.n0, K.ok.n1, K.ok.t0, K.ok.t1, K.ok.p0, K.ok.p1, K.ok.k0, K.ok.k1, K.ok.k2, K.ok.k3, K.ok.wh, by show (-1 : Int) ≤ _; omega, K.ok.s0, K.ok.s1⟩, ⟨K.st.wh, K.st.right, K.st.same, K.st.oth⟩, by show (0 : Nat) < 52; omega, K.low, keep_grown K.base hg K.low⟩, hg⟩
end
end Go.Proofs.YtaokemapkgggoaaDoor

namespace Go.Proofs.YtaokemapkgggoaaDoor
open Go.RowKit

/-- the document's example's device, step by step -/
def aw0 : Dv := Dv.fresh 0 (str [49, 50, 51, 52])
def aw1 := feedC 5 aw0 [165, 0, 7, 8]
def aw2 := feedC 9 aw1.2 [165, 4, 1, 49, 50, 51, 52, 208]
def aw3 := feedC 6 aw2.2 (told 1 [48])
def aw4 := feedC 9 { aw3.2 with cut := 50 } (told 1 [49, 50, 51, 52])
def aw6 := feedC 5 aw4.2.booted (told 7 [])
def aw7 := feedC 6 { aw6.2 with cut := 101 } (told 1 [48])
theorem awake1 : aw1.1 = [165, 3, 0, 0, 5, 0, 9] ∧ aw1.2.inn.data.toList = [] := by decide +kernel
theorem awake2 : aw2.1 = [165, 0, 0, 1] ∧ aw2.2.inn.data.toList = [] := by decide +kernel
theorem awake2n : (Bs aw2.2.h0 ++ Bs aw2.2.h1).getD 4 0 = 3 ∧ (Bs aw2.2.h0 ++ Bs aw2.2.h1).getD 104 0 = 2 ∧ (Bs aw2.2.h0 ++ Bs aw2.2.h1).length = 200 := by decide +kernel
theorem awake3 : aw3.1 = [165, 1, 3, 4, 9] ∧ aw3.2.inn.data.toList = [] := by decide +kernel
theorem awake4 : aw4.1 = [] := by decide +kernel
theorem awake6 : aw6.1 = told 0 [0, 4, 0] ∧ aw6.2.inn.data.toList = [] := by decide +kernel
theorem awake7 : aw7.1 = told 3 [3] := by decide +kernel
theorem empty_of_list {b : ByteArray} (h : b.data.toList = []) : b = ⟨#[]⟩ := ByteArray.ext (Array.toList_inj.1 (by rw [h]))
theorem fed_empty {d : Dv} {l : List UInt8} {n : Nat} (h : d.inn = ⟨#[]⟩) (hn : n = l.length + 1) : fed d l = feedC n d l := by
  unfold fed
  rw [h, empty_app, str_list, str_size, hn]
theorem getD_bytes {b : ByteArray} {l : List UInt8} {i : Nat} {x : UInt8} (hb : b.data.toList = l) (h : l.getD i 0 = x) (hi : i < l.length) : (bytesI b.data.toList).getD i 0 = x.toNat := by
  rw [hb]
  unfold bytesI
  rw [List.getD_eq_getElem?_getD, List.getElem?_map, List.getElem?_eq_getElem hi]
  rw [List.getD_eq_getElem?_getD, List.getElem?_eq_getElem hi] at h
  simp only [Option.map_some, Option.getD_some] at h ⊢
  rw [h]
theorem fed_of {d : Dv} {l r : List UInt8} {n : Nat} {e : List UInt8 × Dv} (h : d.inn = ⟨#[]⟩) (hn : n = l.length + 1) (he : feedC n d l = e) (hr : e.1 = r) : fed d l = (r, e.2) := by
  rw [fed_empty h hn, he, ← hr]
theorem aw1_eq : feedC 5 aw0 [165, 0, 7, 8] = aw1 := rfl
theorem aw2_eq : feedC 9 aw1.2 [165, 4, 1, 49, 50, 51, 52, 208] = aw2 := rfl
theorem aw3_eq : feedC 6 aw2.2 (told 1 [48]) = aw3 := rfl
theorem aw4_eq : feedC 9 { aw3.2 with cut := 50 } (told 1 [49, 50, 51, 52]) = aw4 := rfl
theorem aw6_eq : feedC 5 aw4.2.booted (told 7 []) = aw6 := rfl
theorem aw7_eq : feedC 6 { aw6.2 with cut := 101 } (told 1 [48]) = aw7 := rfl
theorem cut_inn {d : Dv} (n : Int) (h : d.inn = ⟨#[]⟩) : ({ d with cut := n } : Dv).inn = ⟨#[]⟩ := h
theorem booted_inn (d : Dv) : d.booted.inn = ⟨#[]⟩ := rfl
theorem told_len (st : Int) (p : List UInt8) : (told st p).length = p.length + 4 := by simp [told]
/-- the document's examples, on a device of their own -/
theorem awake_chain : ∃ (D1 D2 D3 D4 D6 D7 : Dv) (fl : ByteArray), fed aw0 [165, 0, 7, 8] = ([165, 3, 0, 0, 5, 0, 9], D1) ∧ fed D1 [165, 4, 1, 49, 50, 51, 52, 208] = ([165, 0, 0, 1], D2) ∧
    fl = D2.h0 ++ D2.h1 ∧ fl.size = 200 ∧ (bytesI fl.data.toList).getD 4 0 = 3 ∧ (bytesI fl.data.toList).getD 104 0 = 2 ∧
    fed D2 (told 1 [48]) = ([165, 1, 3, 4, 9], D3) ∧ fed { D3 with cut := 50 } (told 1 [49, 50, 51, 52]) = ([], D4) ∧ fed D4.booted (told 7 []) = (told 0 [0, 4, 0], D6) ∧ fed { D6 with cut := 101 } (told 1 [48]) = (told 3 [3], D7) := by
  have a0 : aw0.inn = ⟨#[]⟩ := rfl
  have p1 := fed_of a0 (by simp) aw1_eq awake1.1
  have p2 := fed_of (empty_of_list awake1.2) (by simp) aw2_eq awake2.1
  have p3 := fed_of (empty_of_list awake2.2) (by rw [told_len]; rfl) aw3_eq awake3.1
  have p4 := fed_of (cut_inn 50 (empty_of_list awake3.2)) (by rw [told_len]; rfl) aw4_eq awake4
  have p6 := fed_of (booted_inn aw4.2) (by rw [told_len]; rfl) aw6_eq awake6.1
  have p7 := fed_of (cut_inn 101 (empty_of_list awake6.2)) (by rw [told_len]; rfl) aw7_eq awake7
  have n2 := awake2n
  revert p1 p2 p3 p4 p6 p7 n2
  generalize aw1.2 = d1
  generalize aw2.2 = d2
  generalize aw3.2 = d3
  generalize aw4.2 = d4
  generalize aw6.2 = d6
  generalize aw7.2 = d7
  intro p1 p2 p3 p4 p6 p7 n2
  have hfl : (d2.h0 ++ d2.h1).data.toList = Bs d2.h0 ++ Bs d2.h1 := by rw [ByteArray.data_append, Array.toList_append]
  refine ⟨d1, d2, d3, d4, d6, d7, _, p1, p2, rfl, ?_, ?_, ?_, p3, p4, p6, p7⟩
  · have := n2.2.2
    rw [← hfl, Array.length_toList] at this
    exact this
  · exact getD_bytes hfl n2.1 (by rw [n2.2.2]; omega)
  · exact getD_bytes hfl n2.2.1 (by rw [n2.2.2]; omega)
end Go.Proofs.YtaokemapkgggoaaDoor
