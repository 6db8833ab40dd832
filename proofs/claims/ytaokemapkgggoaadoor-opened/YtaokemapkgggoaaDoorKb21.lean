import Derived.Test.YtaokemapkgggoaaDoorKb20
namespace Go.Proofs.YtaokemapkgggoaaDoor
open Go.RowKit

theorem prog_slotOf_any (s : ByteArray) (w : World) :
    Calls Tryd.prog 89 #[.string s] w fun r w' => ∃ n q b, r = .returned (.tuple #[.int .i64 n, .string q, .bool b]) ∧ Below w.heap.size w w' := by
  by_cases h : s.size = 0 ∨ 4 ≤ hd0 s
  · refine (prog_slotOf_no s w h).mono ?_
    rintro r w' ⟨hr, rfl⟩
    exact ⟨_, _, _, hr, Below.refl _ _⟩
  · refine (prog_slotOf_yes s w h).mono ?_
    rintro r w' ⟨hr, hb⟩
    exact ⟨_, _, _, hr, hb⟩
theorem PdAt.below {w w' : World} {g B : Nat} {d : Dv} (h : PdAt w g d) (hb : Below B w w') (hg : g < B) : PdAt w' g d := Row.below h hb hg

set_option maxRecDepth 100000 in
set_option maxHeartbeats 1000000 in
theorem prog_seal_locked (w : World) (g j : Nat) (d : Dv) (p : ByteArray) (h : PdAt w g d) (f : d.fit) (hu : d.unl = false) :
    Calls Tryd.prog 82 #[.pointer (some ⟨g, 0, none⟩), .pointer (some ⟨j, 0, none⟩), .string p] w fun r w' => r = .returned (.tuple #[.int .u8 2, .string ⟨#[]⟩]) ∧ Below w.heap.size w w' := by
  go_enter Tryd.func82, Tryd.ntmps82
  go_wp2_with (first | (go_at_call 89; refine (prog_slotOf_any p w).mono ?_; rintro _ w1 ⟨n1, q1, b1, rfl, hb1⟩; have cu := (h.below hb1 h.lt).cu f; rw [hu] at cu))
  go_ret2
  exact ⟨rfl, hb1⟩

set_option maxRecDepth 100000 in
set_option maxHeartbeats 1000000 in
theorem prog_seal_wrong (w : World) (g j : Nat) (d : Dv) (p : ByteArray) (h : PdAt w g d) (f : d.fit) (hu : d.unl = true) (hp : p.size = 0 ∨ 4 ≤ hd0 p) :
    Calls Tryd.prog 82 #[.pointer (some ⟨g, 0, none⟩), .pointer (some ⟨j, 0, none⟩), .string p] w fun r w' => r = .returned (.tuple #[.int .u8 4, .string ⟨#[]⟩]) ∧ Below w.heap.size w w' := by
  have cu := h.cu f
  rw [hu] at cu
  go_enter Tryd.func82, Tryd.ntmps82
  go_wp2_with (first | (go_at_call 89; refine (prog_slotOf_no p w hp).mono ?_; rintro _ w9 ⟨rfl, e9⟩; rw [e9]; clear e9 w9))
  go_ret2
  exact ⟨rfl, Below.refl _ _⟩

set_option maxRecDepth 100000 in
set_option maxHeartbeats 1000000 in
theorem prog_seal_none (w : World) (g j : Nat) (d : Dv) (x : UInt8) (p : ByteArray) (h : PdAt w g d) (f : d.fit) (ok : d.sound) (hu : d.unl = true) (hp : ¬ (p.size = 0 ∨ 4 ≤ hd0 p)) (hW : Row w j (bcells (d.k.raw x)) 75) (hk : (d.k.key (hd0 p)).size = 0) :
    Calls Tryd.prog 82 #[.pointer (some ⟨g, 0, none⟩), .pointer (some ⟨j, 0, none⟩), .string p] w fun r w' => r = .returned (.tuple #[.int .u8 5, .string ⟨#[]⟩]) ∧ Below w.heap.size w w' := by
  have hn : hd0 p < 4 := by omega
  have hk0 : Hid (bAt (d.k.raw x) (15 + 21 * hd0 p) = 0) := by show _ = _; rw [Kep.raw_key0 ok.good _ hn, hk]; rfl
  have hcs := prog_slotOf_yes p w hp
  clear hp hk
  generalize hd0 p = n at *
  generalize rest1 p = q at *
  go_enter Tryd.func82, Tryd.ntmps82
  go_wp2_with (first | (go_at_call 89; refine hcs.mono ?_; rintro _ w1 ⟨rfl, hb1⟩; have cu := (h.below hb1 h.lt).cu f; rw [hu] at cu; have c0 := (ImgAt.of_row (hW.below hb1 hW.lt) (Kep.raw_length ok.good)).b (15 + 21 * n) (by omega); rw [Nat.zero_add, hk0.out] at c0) | (go_at_call 77; refine (prog_key w1 j 0 n hn).mono ?_; rintro _ w9 ⟨rfl, e9⟩; rw [e9]; clear e9 w9) | (go_at_call 32; refine (prog_none_yes w1 j _ c0).mono ?_; rintro _ w9 ⟨rfl, e9⟩; rw [e9]; clear e9 w9))
  go_ret2
  exact ⟨rfl, hb1⟩

set_option maxRecDepth 100000 in
set_option maxHeartbeats 1000000 in
theorem prog_seal_told (w : World) (g j : Nat) (d : Dv) (x : UInt8) (p : ByteArray) (h : PdAt w g d) (f : d.fit) (ok : d.sound) (hG : Glob w) (hu : d.unl = true) (hp : ¬ (p.size = 0 ∨ 4 ≤ hd0 p)) (hs : p.size < 100000) (hW : Row w j (bcells (d.k.raw x)) 75) (hk : ¬ (d.k.key (hd0 p)).size = 0) :
    Calls Tryd.prog 82 #[.pointer (some ⟨g, 0, none⟩), .pointer (some ⟨j, 0, none⟩), .string p] w fun r w' => r = .returned (.tuple #[.int .u8 0, .string (str (toBytes (refSeal sumSpecRef (Bs (d.k.key (hd0 p))) (Bs (rest1 p)))))]) ∧ Below w.heap.size w w' := by
  have hn : hd0 p < 4 := by omega
  have hkz := ok.good.key (hd0 p)
  have hk0 : Hid (bAt (d.k.raw x) (15 + 21 * hd0 p) = (d.k.key (hd0 p)).size) := Kep.raw_key0 ok.good _ hn
  have hk0' : ¬ ((d.k.key (hd0 p)).size : Int) = 0 := by omega
  obtain ⟨kf, HK⟩ : ∃ kf, Hid (kf = fieldOf 21 (Bs (d.k.key (hd0 p)))) := ⟨_, rfl⟩
  have hlk' : (Bs (d.k.key (hd0 p))).length < 21 := by rw [Bs_len]; omega
  have hkl : Hid ((u8s kf).length = 21) := by show _ = _; rw [u8s_length, HK.out, fieldOf_length _ _ (by omega)]
  have hkB : ∀ x ∈ kf, isB x := by rw [HK.out]; exact fieldOf_B _ _ (by omega)
  have hkt : Hid (kf.tail = blk 20 (Bs (d.k.key (hd0 p)))) := by show _ = _; rw [HK.out]; rfl
  have hkc : Hid (bcells (fieldAt (d.k.raw x) (15 + 21 * hd0 p) 21) = u8s kf) := by show _ = _; rw [Kep.raw_keyAt ok.good _ hn, HK.out, field_cellsB 21 _ hlk' (by omega)]
  have hcs := prog_slotOf_yes p w hp
  have hrs : (rest1 p).size < 100000 := by simp only [rest1, ByteArray.size_extract]; omega
  obtain ⟨ov, HO⟩ : ∃ ov, Hid (ov = sealSpec kf.tail (Bs (rest1 p))) := ⟨_, rfl⟩
  have hol : Hid ((u8s ov).length = 32) := by show _ = _; rw [u8s_length, HO.out]; exact sumSpec_length _ (blockOn_w8 W8_H0) _ _
  have HR : Hid (strOfNums ov = str (toBytes (refSeal sumSpecRef (Bs (d.k.key (hd0 p))) (Bs (rest1 p))))) := by
    show _ = _
    rw [HO.out, hkt.out, strOfNums_str, refSeal_eq (by omega)]
  rw [← HR.out]
  have hi79 : (Tryd.prog.info? 63).map (·.size) = some (u8s kf).length := by rw [hkl.out]; exact arr21b.size
  clear hp hk hs hkz hlk'
  generalize (d.k.key (hd0 p)).size = ks at *
  generalize hd0 p = n at *
  generalize rest1 p = q at *
  go_enter Tryd.func82, Tryd.ntmps82
  go_wp2_with (first | (go_at_call 89; refine hcs.mono ?_; rintro _ w1 ⟨rfl, hb1⟩; have cu := (h.below hb1 h.lt).cu f; rw [hu] at cu; have hW1 := hW.below hb1 hW.lt; have c0 := (ImgAt.of_row hW1 (Kep.raw_length ok.good)).b (15 + 21 * n) (by omega); rw [Nat.zero_add, hk0.out] at c0; have hrg : w1.rangeAt j (15 + 21 * n) (u8s kf) := (by have := range_sub (ImgAt.of_row hW1 (Kep.raw_length ok.good)).at_ (15 + 21 * n) 21; rw [Nat.zero_add] at this; rw [← hkc.out]; exact this)) | (go_at_call 77; refine (prog_key w1 j 0 n hn).mono ?_; rintro _ w9 ⟨rfl, e9⟩; rw [e9]; clear e9 w9) | (go_at_call 32; refine (prog_none_no w1 j _ _ hk0' c0).mono ?_; rintro _ w9 ⟨rfl, e9⟩; rw [e9]; clear e9 w9) | (refine wpList_load_mid rfl 63 _ rfl j (15 + 21 * n) rfl (u8s kf) _ hrg under21b rfl hi79 ?_; go_simp) | (go_at_call 33; refine (prog_sealBy kf _ _ (hG.below hb1 (Nat.le_refl _)) (by rw [← u8s_length]; exact hkl.out) hkB (by omega)).mono ?_; rintro _ w4 ⟨rfl, hb4⟩; rw [← HO.out]; have dw := hb1.trans (hb4.mono hb1.size); clear hb4) | (refine wpList_allocR rfl 24 rfl 32 (.int .u8 0) arr32b ?_; go_simp) | (refine wpList_storeMA rfl 24 _ _ rfl _ rfl rfl (u8s ov) rfl 24 _ 32 (.int .u8 0) arr32b hol.out (zrow_length _ _) (u8s_one _) ?_; intro w6 hr6 hb6; have ew := dw.trans (hb6.mono dw.size); clear hb6; go_simp))
  have hconv : (convert 28 9 (.slice (some ⟨w4.heap.size, 0, none⟩) 32 32)).run Tryd.prog w6.drew = .ok (.string (strOfNums ov)) w6.drew := run_convR w6.drew _ ov 32 32 (by rw [← u8s_length]; exact hol.out) hr6.range
  go_region
  go_wp2
  go_ret2
  exact ⟨rfl, ew.drew⟩

/-- a seal, by the document's device -/
theorem prog_sealD (w : World) (g j : Nat) (d : Dv) (x : UInt8) (p : ByteArray) (h : PdAt w g d) (f : d.fit) (ok : d.sound) (hG : Glob w) (hs : p.size < 100000) (hW : Row w j (bcells (d.k.raw x)) 75) :
    Calls Tryd.prog 82 #[.pointer (some ⟨g, 0, none⟩), .pointer (some ⟨j, 0, none⟩), .string p] w fun r w' => r = .returned (.tuple #[.int .u8 (d.command 4 p).2.1, .string (str (d.command 4 p).2.2)]) ∧ (d.command 4 p).1 = d ∧ Below w.heap.size w w' := by
  have e : d.command 4 p = d.slot 4 p := by unfold Dv.command; rw [if_neg (by omega), if_neg (by omega), if_neg (by omega), if_pos (by omega)]
  rw [e]
  unfold Dv.slot
  by_cases hu : d.unl = false
  · rw [if_pos hu]
    refine (prog_seal_locked w g j d p h f hu).mono ?_
    rintro r w' ⟨rfl, hb⟩
    exact ⟨rfl, rfl, hb⟩
  · have hu' : d.unl = true := by simpa using hu
    rw [if_neg hu]
    by_cases hp : p.size = 0 ∨ 4 ≤ hd0 p
    · rw [if_pos hp]
      refine (prog_seal_wrong w g j d p h f hu' hp).mono ?_
      rintro r w' ⟨rfl, hb⟩
      exact ⟨rfl, rfl, hb⟩
    · rw [if_neg hp, if_neg (by omega), if_neg (by omega), if_neg (by omega), if_neg (by omega)]
      by_cases hk : (d.k.key (hd0 p)).size = 0
      · rw [if_pos hk]
        refine (prog_seal_none w g j d x p h f ok hu' hp hW hk).mono ?_
        rintro r w' ⟨rfl, hb⟩
        exact ⟨rfl, rfl, hb⟩
      · rw [if_neg hk, if_neg (by omega)]
        refine (prog_seal_told w g j d x p h f ok hG hu' hp hs hW hk).mono ?_
        rintro r w' ⟨rfl, hb⟩
        exact ⟨rfl, rfl, hb⟩
end Go.Proofs.YtaokemapkgggoaaDoor

namespace Go.Proofs.YtaokemapkgggoaaDoor
open Go.RowKit

set_option maxRecDepth 100000 in
set_option maxHeartbeats 1000000 in
theorem prog_code_locked (w : World) (g j : Nat) (d : Dv) (p : ByteArray) (h : PdAt w g d) (f : d.fit) (hu : d.unl = false) :
    Calls Tryd.prog 83 #[.pointer (some ⟨g, 0, none⟩), .pointer (some ⟨j, 0, none⟩), .string p] w fun r w' => r = .returned (.tuple #[.int .u8 2, .string ⟨#[]⟩]) ∧ Below w.heap.size w w' := by
  go_enter Tryd.func83, Tryd.ntmps83
  go_wp2_with (first | (go_at_call 89; refine (prog_slotOf_any p w).mono ?_; rintro _ w1 ⟨n1, q1, b1, rfl, hb1⟩; have cu := (h.below hb1 h.lt).cu f; rw [hu] at cu))
  go_ret2
  exact ⟨rfl, hb1⟩

set_option maxRecDepth 100000 in
set_option maxHeartbeats 1000000 in
theorem prog_code_wrong (w : World) (g j : Nat) (d : Dv) (p : ByteArray) (h : PdAt w g d) (f : d.fit) (hu : d.unl = true) (hp : p.size = 0 ∨ 4 ≤ hd0 p) :
    Calls Tryd.prog 83 #[.pointer (some ⟨g, 0, none⟩), .pointer (some ⟨j, 0, none⟩), .string p] w fun r w' => r = .returned (.tuple #[.int .u8 4, .string ⟨#[]⟩]) ∧ Below w.heap.size w w' := by
  have cu := h.cu f
  rw [hu] at cu
  go_enter Tryd.func83, Tryd.ntmps83
  go_wp2_with (first | (go_at_call 89; refine (prog_slotOf_no p w hp).mono ?_; rintro _ w9 ⟨rfl, e9⟩; rw [e9]; clear e9 w9))
  go_ret2
  exact ⟨rfl, Below.refl _ _⟩

set_option maxRecDepth 100000 in
set_option maxHeartbeats 1000000 in
theorem prog_code_eight (w : World) (g j : Nat) (d : Dv) (p : ByteArray) (h : PdAt w g d) (f : d.fit) (hu : d.unl = true) (hp : ¬ (p.size = 0 ∨ 4 ≤ hd0 p)) (h8 : ¬ (rest1 p).size = 8) :
    Calls Tryd.prog 83 #[.pointer (some ⟨g, 0, none⟩), .pointer (some ⟨j, 0, none⟩), .string p] w fun r w' => r = .returned (.tuple #[.int .u8 4, .string ⟨#[]⟩]) ∧ Below w.heap.size w w' := by
  have hcs := prog_slotOf_yes p w hp
  have h8' : ¬ ((rest1 p).size : Int) = 8 := by omega
  clear hp
  generalize hd0 p = n at *
  generalize rest1 p = q at *
  go_enter Tryd.func83, Tryd.ntmps83
  go_wp2_with (first | (go_at_call 89; refine hcs.mono ?_; rintro _ w1 ⟨rfl, hb1⟩; have cu := (h.below hb1 h.lt).cu f; rw [hu] at cu))
  go_ret2
  exact ⟨rfl, hb1⟩

set_option maxRecDepth 100000 in
set_option maxHeartbeats 1000000 in
theorem prog_code_none (w : World) (g j : Nat) (d : Dv) (x : UInt8) (p : ByteArray) (h : PdAt w g d) (f : d.fit) (ok : d.sound) (hu : d.unl = true) (hp : ¬ (p.size = 0 ∨ 4 ≤ hd0 p)) (hW : Row w j (bcells (d.k.raw x)) 75) (hk : (d.k.key (hd0 p)).size = 0) (h8 : (rest1 p).size = 8) :
    Calls Tryd.prog 83 #[.pointer (some ⟨g, 0, none⟩), .pointer (some ⟨j, 0, none⟩), .string p] w fun r w' => r = .returned (.tuple #[.int .u8 5, .string ⟨#[]⟩]) ∧ Below w.heap.size w w' := by
  have hn : hd0 p < 4 := by omega
  have hk0 : Hid (bAt (d.k.raw x) (15 + 21 * hd0 p) = 0) := by show _ = _; rw [Kep.raw_key0 ok.good _ hn, hk]; rfl
  have hcs := prog_slotOf_yes p w hp
  clear hp hk
  have h8' : ((rest1 p).size : Int) = 8 := by omega
  generalize hd0 p = n at *
  generalize rest1 p = q at *
  go_enter Tryd.func83, Tryd.ntmps83
  go_wp2_with (first | (go_at_call 89; refine hcs.mono ?_; rintro _ w1 ⟨rfl, hb1⟩; have cu := (h.below hb1 h.lt).cu f; rw [hu] at cu; have c0 := (ImgAt.of_row (hW.below hb1 hW.lt) (Kep.raw_length ok.good)).b (15 + 21 * n) (by omega); rw [Nat.zero_add, hk0.out] at c0) | (go_at_call 77; refine (prog_key w1 j 0 n hn).mono ?_; rintro _ w9 ⟨rfl, e9⟩; rw [e9]; clear e9 w9) | (go_at_call 32; refine (prog_none_yes w1 j _ c0).mono ?_; rintro _ w9 ⟨rfl, e9⟩; rw [e9]; clear e9 w9))
  go_ret2
  exact ⟨rfl, hb1⟩

set_option maxRecDepth 100000 in
set_option maxHeartbeats 1000000 in
theorem prog_code_told (w : World) (g j : Nat) (d : Dv) (x : UInt8) (p : ByteArray) (h : PdAt w g d) (f : d.fit) (ok : d.sound) (hG : Glob w) (hu : d.unl = true) (hp : ¬ (p.size = 0 ∨ 4 ≤ hd0 p)) (hW : Row w j (bcells (d.k.raw x)) 75) (hk : ¬ (d.k.key (hd0 p)).size = 0) (h8 : (rest1 p).size = 8) :
    Calls Tryd.prog 83 #[.pointer (some ⟨g, 0, none⟩), .pointer (some ⟨j, 0, none⟩), .string p] w fun r w' => r = .returned (.tuple #[.int .u8 0, .string (str (toBytes (digL (refWord (refSeal sumSpecRef (Bs (d.k.key (hd0 p))) (Bs (rest1 p)))) 6)))]) ∧ Below w.heap.size w w' := by
  have hn : hd0 p < 4 := by omega
  have hkz := ok.good.key (hd0 p)
  have hk0 : Hid (bAt (d.k.raw x) (15 + 21 * hd0 p) = (d.k.key (hd0 p)).size) := Kep.raw_key0 ok.good _ hn
  have hk0' : ¬ ((d.k.key (hd0 p)).size : Int) = 0 := by omega
  obtain ⟨kf, HK⟩ : ∃ kf, Hid (kf = fieldOf 21 (Bs (d.k.key (hd0 p)))) := ⟨_, rfl⟩
  have hlk' : (Bs (d.k.key (hd0 p))).length < 21 := by rw [Bs_len]; omega
  have hkl : Hid ((u8s kf).length = 21) := by show _ = _; rw [u8s_length, HK.out, fieldOf_length _ _ (by omega)]
  have hkB : ∀ x ∈ kf, isB x := by rw [HK.out]; exact fieldOf_B _ _ (by omega)
  have hkt : Hid (kf.tail = blk 20 (Bs (d.k.key (hd0 p)))) := by show _ = _; rw [HK.out]; rfl
  have hkc : Hid (bcells (fieldAt (d.k.raw x) (15 + 21 * hd0 p) 21) = u8s kf) := by show _ = _; rw [Kep.raw_keyAt ok.good _ hn, HK.out, field_cellsB 21 _ hlk' (by omega)]
  have hcs := prog_slotOf_yes p w hp
  obtain ⟨ov, HO⟩ : ∃ ov, Hid (ov = codeSpecL kf.tail (Bs (rest1 p))) := ⟨_, rfl⟩
  have HR : Hid (strOfNums ov = str (toBytes (digL (refWord (refSeal sumSpecRef (Bs (d.k.key (hd0 p))) (Bs (rest1 p)))) 6))) := by
    show _ = _
    rw [HO.out, hkt.out, strOfNums_str, refSeal_eq (by omega), digL_eq]
    rfl
  rw [← HR.out]
  have hi79 : (Tryd.prog.info? 63).map (·.size) = some (u8s kf).length := by rw [hkl.out]; exact arr21b.size
  clear hp hk hkz hlk'
  have h8' : ((rest1 p).size : Int) = 8 := by omega
  generalize (d.k.key (hd0 p)).size = ks at *
  generalize hd0 p = n at *
  generalize rest1 p = q at *
  go_enter Tryd.func83, Tryd.ntmps83
  go_wp2_with (first | (go_at_call 89; refine hcs.mono ?_; rintro _ w1 ⟨rfl, hb1⟩; have cu := (h.below hb1 h.lt).cu f; rw [hu] at cu; have hW1 := hW.below hb1 hW.lt; have c0 := (ImgAt.of_row hW1 (Kep.raw_length ok.good)).b (15 + 21 * n) (by omega); rw [Nat.zero_add, hk0.out] at c0; have hrg : w1.rangeAt j (15 + 21 * n) (u8s kf) := (by have := range_sub (ImgAt.of_row hW1 (Kep.raw_length ok.good)).at_ (15 + 21 * n) 21; rw [Nat.zero_add] at this; rw [← hkc.out]; exact this)) | (go_at_call 77; refine (prog_key w1 j 0 n hn).mono ?_; rintro _ w9 ⟨rfl, e9⟩; rw [e9]; clear e9 w9) | (go_at_call 32; refine (prog_none_no w1 j _ _ hk0' c0).mono ?_; rintro _ w9 ⟨rfl, e9⟩; rw [e9]; clear e9 w9) | (refine wpList_load_mid rfl 63 _ rfl j (15 + 21 * n) rfl (u8s kf) _ hrg under21b rfl hi79 ?_; go_simp) | (go_at_call 36; refine (prog_codeBy kf _ _ (hG.below hb1 (Nat.le_refl _)) (by rw [← u8s_length]; exact hkl.out) hkB (by omega)).mono ?_; rintro _ w4 ⟨rfl, hb4⟩; rw [← HO.out]; have dw := hb1.trans (hb4.mono hb1.size); clear hb4))
  go_ret2
  exact ⟨rfl, dw⟩

/-- a code, by the document's device -/
theorem prog_codeD (w : World) (g j : Nat) (d : Dv) (x : UInt8) (p : ByteArray) (h : PdAt w g d) (f : d.fit) (ok : d.sound) (hG : Glob w) (hW : Row w j (bcells (d.k.raw x)) 75) :
    Calls Tryd.prog 83 #[.pointer (some ⟨g, 0, none⟩), .pointer (some ⟨j, 0, none⟩), .string p] w fun r w' => r = .returned (.tuple #[.int .u8 (d.command 5 p).2.1, .string (str (d.command 5 p).2.2)]) ∧ (d.command 5 p).1 = d ∧ Below w.heap.size w w' := by
  have e : d.command 5 p = d.slot 5 p := by unfold Dv.command; rw [if_neg (by omega), if_neg (by omega), if_neg (by omega), if_pos (by omega)]
  rw [e]
  unfold Dv.slot
  by_cases hu : d.unl = false
  · rw [if_pos hu]
    refine (prog_code_locked w g j d p h f hu).mono ?_
    rintro r w' ⟨rfl, hb⟩
    exact ⟨rfl, rfl, hb⟩
  · have hu' : d.unl = true := by simpa using hu
    rw [if_neg hu]
    by_cases hp : p.size = 0 ∨ 4 ≤ hd0 p
    · rw [if_pos hp]
      refine (prog_code_wrong w g j d p h f hu' hp).mono ?_
      rintro r w' ⟨rfl, hb⟩
      exact ⟨rfl, rfl, hb⟩
    · rw [if_neg hp, if_neg (by omega), if_neg (by omega), if_neg (by omega)]
      by_cases h8 : (rest1 p).size = 8
      · rw [if_neg (by omega)]
        by_cases hk : (d.k.key (hd0 p)).size = 0
        · rw [if_pos hk]
          refine (prog_code_none w g j d x p h f ok hu' hp hW hk h8).mono ?_
          rintro r w' ⟨rfl, hb⟩
          exact ⟨rfl, rfl, hb⟩
        · rw [if_neg hk, if_pos rfl]
          refine (prog_code_told w g j d x p h f ok hG hu' hp hW hk h8).mono ?_
          rintro r w' ⟨rfl, hb⟩
          exact ⟨rfl, rfl, hb⟩
      · rw [if_pos ⟨rfl, h8⟩]
        refine (prog_code_eight w g j d p h f hu' hp h8).mono ?_
        rintro r w' ⟨rfl, hb⟩
        exact ⟨rfl, rfl, hb⟩
end Go.Proofs.YtaokemapkgggoaaDoor
