import Derived.Test.YtaokemapkgggoaaDoorKb03
import Derived.Test.YtaokemapkgggoaaDoorKb06
import Derived.Deep.RegionLaw
import Derived.Deep.RegionHeld3
import Derived.Test.YtaokemapkgggoaaDoorKb02
namespace Go.Proofs.YtaokemapkgggoaaDoor
open Go.RowKit

/-- the first k of a list's numbers by f -/
def mapTo (f : Int → Int) (l : List Int) (k : Nat) : List Int := (l.take k).map f ++ l.drop k
theorem mapTo_length (f : Int → Int) (l : List Int) (k : Nat) : (mapTo f l k).length = l.length := by simp [mapTo]; omega
theorem mapTo_get (f : Int → Int) (l : List Int) (k : Nat) (h : k < l.length) : (mapTo f l k).getD k 0 = l.getD k 0 := by
  unfold mapTo
  have hl : ((l.take k).map f).length = k := by simp; omega
  simp only [List.getD]
  rw [List.getElem?_append_right (by omega), hl, Nat.sub_self]
  simp [List.getElem?_drop]
theorem mapTo_set (f : Int → Int) (l : List Int) (k : Nat) (h : k < l.length) : (mapTo f l k).set k (f (l.getD k 0)) = mapTo f l (k + 1) := by
  unfold mapTo
  have hl : ((l.take k).map f).length = k := by simp; omega
  rw [List.set_append_right _ _ (by omega), hl, Nat.sub_self, List.take_succ_eq_append_getElem h, List.map_append, List.append_assoc]
  congr 1
  have e := List.drop_eq_getElem_cons h
  rw [e, List.set_cons_zero]
  simp [List.getD, h]

/-- a key filled up, each byte by the mask -/
def maskK (kb : List Int) (m : Int) : List Int := (kb ++ List.replicate 44 0).map (fun x => xr x m)
theorem xr_B {a b : Int} (ha : isB a) (hb : isB b) : isB (xr a b) := by
  unfold isB xr at *
  have h := @Nat.xor_lt_two_pow a.toNat b.toNat 8 (by omega) (by omega)
  omega
theorem maskK_B {kb : List Int} {m : Int} (hk : ∀ x ∈ kb, isB x) (hm : isB m) : ∀ x ∈ maskK kb m, isB x := by
  intro x hx
  simp only [maskK, List.mem_map, List.mem_append, List.mem_replicate] at hx
  obtain ⟨y, hy, rfl⟩ := hx
  rcases hy with hy | ⟨_, rfl⟩
  · exact xr_B (hk y hy) hm
  · exact xr_B (by unfold isB; omega) hm

theorem W8_H0 : W8 H0 := ⟨rfl, H0_w⟩
theorem Glob.range {w : World} (h : Glob w) : w.rangeAt 0 0 (u32s H0) := by
  intro j v hv
  have hj : j < 8 := by
    have := (List.getElem?_eq_some_iff.1 hv).1
    rw [u32s_length] at this; exact this
  rw [u32s_get H0 j hj] at hv
  rw [Nat.zero_add, h.h j hj, hv]
theorem size8w : (Tryd.prog.info? 69).map (·.size) = some (u32s H0).length := by kernel_rfl

theorem under21b : Tryd.prog.underlying 63 = some (.array 21 5) := by kernel_rfl

set_option maxRecDepth 100000 in
set_option maxHeartbeats 1000000 in
theorem prog_masked (kf : List Int) (m : Int) (w : World) (hG : Glob w) (hl : kf.length = 21) (hk : ∀ x ∈ kf, isB x) (hm : isB m) :
    Calls Tryd.prog 45 #[.agg (u8s kf).toArray, .int .u8 m] w fun r w' => r = .returned (.agg (u32s (blockOn K0 H0 (maskK kf.tail m))).toArray) ∧ Below w.heap.size w w' := by
  obtain ⟨kb, HKB⟩ : ∃ kb, Hid (kb = kf.tail) := ⟨_, rfl⟩
  rw [← HKB.out]
  have HL : Hid (kb.length = 20) := by show _ = _; rw [HKB.out, List.length_tail, hl]
  have HD : Hid ((u8s kf).drop 1 = u8s kb) := by show _ = _; rw [HKB.out]; simp [u8s, List.drop_one]
  have hk : ∀ x ∈ kb, isB x := fun x hx => hk x (List.mem_of_mem_tail (by rw [← HKB.out]; exact hx))
  clear hl
  obtain ⟨b0, HB0⟩ : ∃ b0 : List Int, Hid (b0 = kb ++ List.replicate 44 0) := ⟨kb ++ List.replicate 44 0, show _ = _ from rfl⟩
  have hbl : Hid (b0.length = 64) := by show _ = _; rw [HB0.out, List.length_append, HL.out]; simp
  have hbB : ∀ x ∈ b0, isB x := by
    rw [HB0.out]; intro x hx
    rcases List.mem_append.1 hx with h | h
    · exact hk x h
    · rw [List.mem_replicate] at h; unfold isB; omega
  have hsp : Hid (splice (zrow 64 (.int .u8 0)) 0 (u8s kb) = u8s b0) := by
    show _ = _
    unfold splice
    rw [HB0.out, u8s_length, HL.out]
    simp [zrow, u8s]
  go_enter Tryd.func45, Tryd.ntmps45
  go_wp2_with (first | (refine wpList_boxR rfl 63 _ rfl (u8s kf) rfl ?_; go_simp) | (refine wpList_allocR rfl 69 rfl 8 (.int .u32 0) arr8w ?_; go_simp) | (refine wpList_allocR rfl 95 rfl 64 (.int .u8 0) arr64b ?_; go_simp))
  have r2 : Row (((w.alloc (.cells (u8s kf).toArray 63)).alloc (.cells (zrow 8 (.int .u32 0)).toArray 69)).alloc (.cells (zrow 64 (.int .u8 0)).toArray 95)) w.heap.size (u8s kf) 63 := ((Row.made _ _ _).alloc _).alloc _
  have r4 : Row (((w.alloc (.cells (u8s kf).toArray 63)).alloc (.cells (zrow 8 (.int .u32 0)).toArray 69)).alloc (.cells (zrow 64 (.int .u8 0)).toArray 95)) (w.heap.size + 1) (zrow 8 (.int .u32 0)) 69 := (Row.made1 _ _ _ _).alloc _
  have r5 : Row (((w.alloc (.cells (u8s kf).toArray 63)).alloc (.cells (zrow 8 (.int .u32 0)).toArray 69)).alloc (.cells (zrow 64 (.int .u8 0)).toArray 95)) (w.heap.size + 1 + 1) (zrow 64 (.int .u8 0)) 95 := by
    have := Row.made1 (w.alloc (.cells (u8s kf).toArray 63)) (.cells (zrow 8 (.int .u32 0)).toArray 69) (zrow 64 (.int .u8 0)) 95
    rwa [World.size_alloc] at this
  have rw0 : Below w.heap.size w (((w.alloc (.cells (u8s kf).toArray 63)).alloc (.cells (zrow 8 (.int .u32 0)).toArray 69)).alloc (.cells (zrow 64 (.int .u8 0)).toArray 95)) :=
    (((Below.refl _ _).alloc (Nat.le_refl _) _).alloc (by simp) _).alloc (by simp; omega) _
  generalize ((w.alloc (.cells (u8s kf).toArray 63)).alloc (.cells (zrow 8 (.int .u32 0)).toArray 69)).alloc (.cells (zrow 64 (.int .u8 0)).toArray 95) = wz at *
  have hsrc : ∀ j v, (u8s kb)[j]? = some v → wz.drew.cell? ((⟨w.heap.size, 1, none⟩ : Addr).add j) = some v := by
    have := row_src_at (show Row wz.drew _ _ _ from r2) 1
    rw [HD.out] at this; exact this
  go_region_law (refine step_copy_splice rfl (.tmp 7) (.tmp 8) 28 28 rfl 5 under_bytes size_byte (some ⟨w.heap.size + 1 + 1, 0, none⟩) (some ⟨w.heap.size, 1, none⟩) 64 64 20 20 rfl rfl (w.heap.size + 1 + 1) 0 (zrow 64 (.int .u8 0)) 95 r5 (u8s kb) (by rw [u8s_length, HL.out]; rfl) (fun _ => ⟨rfl, _, rfl, hsrc⟩) (by rw [u8s_length, HL.out, zrow_length]; omega) (u8s_one _) (w.heap.size + 1 + 1) _ (Below.refl _ _) (Nat.le_refl _) ?_; intro w6 hg6 hb6)
  have g5 : Row w6 (w.heap.size + 1 + 1) (u8s b0) 95 := by have := hg6.out; rw [hsp.out] at this; exact this
  have g4 := r4.drew.below hb6 (by omega)
  have gw := rw0.drew.trans (hb6.mono (by omega))
  clear hg6 hb6 r2 r4 r5 rw0
  go_wp2
  go_loopw [10] (fun c wr => ∃ k : Nat, k ≤ 64 ∧ c = .int .i64 k ∧ Row wr (w.heap.size + 1 + 1) (u8s (mapTo (fun x => xr x m) b0 k)) 95 ∧ Row wr (w.heap.size + 1) (zrow 8 (.int .u32 0)) 69 ∧ Below w.heap.size w wr)
    (fun c _ => 64 - (intOf c).toNat)
  case atStart => exact ⟨0, by omega, rfl, by simpa [mapTo] using g5, g4, gw⟩
  case round =>
    clear g5 g4 gw
    obtain ⟨k, hk64, rfl, hR, hR4, hB⟩ := hrel
    by_cases hlt : k < 64
    · have hc : wr.cell? ⟨w.heap.size + 1 + 1, k, none⟩ = some (.int .u8 (b0.getD k 0)) := by
        rw [hR.cell, u8s_get _ _ (by rw [mapTo_length, hbl.out]; exact hlt), mapTo_get _ _ _ (by rw [hbl.out]; exact hlt)]
      have hf := hR.frozen k
      have hx := getD_isB hbB k
      have hxm := u8_xor (b0.getD k 0) m hx.1 hx.2 hm.1 hm.2
      have HS : Hid _ := mapTo_set (fun x => xr x m) b0 k (by rw [hbl.out]; exact hlt)
      have HXM : Hid _ := hxm
      clear hxm
      generalize b0.getD k 0 = x at *
      go_wp2
      refine ⟨⟨k + 1, by omega, by go_num, ?_, ?_, ?_⟩, by simp [intOf]; omega⟩
      · have := hR.setCell k (.int .u8 (bits .xor .u8 x m))
        rw [u8s_set] at this
        have e : bits .xor .u8 x m = xr x m := HXM.out
        rw [e] at this ⊢
        rwa [HS.out] at this
      · exact hR4.setCell_other _ _ (by simp)
      · exact hB.setCell (by simp; omega) _
    · have hk8 : k = 64 := by omega
      have e64 : mapTo (fun x => xr x m) b0 k = maskK kb m := by
        rw [hk8, maskK, ← HB0.out]
        have := hbl.out
        simp [mapTo, List.take_of_length_le (show b0.length ≤ 64 by omega), List.drop_eq_nil_of_le (show b0.length ≤ 64 by omega)]
      rw [e64] at hR
      clear hk8 e64
      obtain ⟨mk, HM⟩ : ∃ mk, Hid (mk = maskK kb m) := ⟨_, rfl⟩
      rw [← HM.out] at hR
      have hml : Hid (mk.length = 64) := by show _ = _; rw [HM.out, maskK, List.length_map, ← HB0.out]; exact hbl.out
      have hmB : ∀ x ∈ mk, isB x := by rw [HM.out]; exact maskK_B hk hm
      have hGr := hG.below hB (Nat.le_refl _)
      go_wp2_with (first | (refine wpList_load_mid rfl 69 (.global 0) rfl 0 0 rfl (u32s H0) _ hGr.range under8w rfl size8w ?_; go_simp) | (refine wpList_loadR rfl 95 _ rfl (w.heap.size + 1 + 1) rfl 95 (u8s mk) 64 (.int .u8 0) hR arr64b (by rw [u8s_length]; exact hml.out) ?_; go_simp) | (go_at_call 46; refine (prog_turn H0 mk _ hGr W8_H0 hml.out hmB).mono ?_; rintro _ w7 ⟨rfl, hb7⟩; obtain ⟨ov, HO⟩ := (⟨_, rfl⟩ : ∃ ov, Hid (ov = blockOn K0 H0 mk)); rw [← HO.out]; have ho8 : W8 ov := (by rw [HO.out]; exact blockOn_w8 W8_H0); have k4 := hR4.below hb7 hR4.lt; have kw := hB.trans (hb7.mono (by have := hR4.lt; omega)); clear hb7) | (refine wpList_storeR rfl 69 _ _ rfl (w.heap.size + 1) rfl (u32s ov) rfl 69 (zrow 8 (.int .u32 0)) 8 (.int .u32 0) k4 arr8w (by rw [u32s_length, ho8.len]) (zrow_length _ _) (u32s_one _) ?_; go_simp))
      refine bodyPost_ret (v := .agg (u32s ov).toArray) (results_row Tryd.results45 _ (w.heap.size + 1) 69 (u32s ov) 8 (.int .u32 0) rfl (Row.setRow k4 _) arr8w (by rw [u32s_length, ho8.len])) rfl ⟨by rw [HO.out, HM.out], below_setRow kw (Nat.le_succ _) _⟩
end Go.Proofs.YtaokemapkgggoaaDoor

namespace Go.Proofs.YtaokemapkgggoaaDoor
open Go.RowKit

/-- the bytes of a text made of numbers -/
def toBytes (xs : List Int) : List UInt8 := xs.map fun n => UInt8.ofNat n.toNat
theorem toBytes_str (xs : List Int) : (strOfNums xs).data.toList = toBytes xs := rfl

theorem sumSpec_length (h : List Int) (hh : W8 h) (done : Int) (l : List UInt8) : (sumSpec K0 h done l).length = 32 := by
  unfold sumSpec
  rw [flat_length]
  have : (tailOn K0 (foldB K0 h l (l.length / 64)) (l.drop (64 * (l.length / 64))) ((done + l.length) * 8)).length = 8 := by
    unfold tailOn
    split
    · exact (blockOn_w8 (blockOn_w8 (foldB_w8 hh _ _))).len
    · exact (blockOn_w8 (foldB_w8 hh _ _)).len
  rw [this]
theorem four_B {x : Int} (h : isW x) : ∀ y ∈ four x, isB y := by
  intro y hy
  unfold isW at h
  simp only [four, List.mem_cons, List.not_mem_nil, or_false] at hy
  rcases hy with rfl | rfl | rfl | rfl <;> unfold isB <;> omega
theorem sumSpec_B (h : List Int) (hh : W8 h) (done : Int) (l : List UInt8) : ∀ x ∈ sumSpec K0 h done l, isB x := by
  intro x hx
  unfold sumSpec at hx
  rw [List.mem_flatMap] at hx
  obtain ⟨y, hy, hx⟩ := hx
  refine four_B ?_ x hx
  have hw : W8 (tailOn K0 (foldB K0 h l (l.length / 64)) (l.drop (64 * (l.length / 64))) ((done + l.length) * 8)) := by
    unfold tailOn
    split
    · exact blockOn_w8 (blockOn_w8 (foldB_w8 hh _ _))
    · exact blockOn_w8 (foldB_w8 hh _ _)
  exact hw.all y hy

def innerSpec (kb : List Int) (l : List UInt8) : List Int := sumSpec K0 (blockOn K0 H0 (maskK kb 54)) 64 l
def sealSpec (kb : List Int) (l : List UInt8) : List Int := sumSpec K0 (blockOn K0 H0 (maskK kb 92)) 64 (toBytes (innerSpec kb l))

theorem Row.range {w : World} {g : Nat} {cs : List Value} {t : TypeId} (h : Row w g cs t) : w.rangeAt g 0 cs := fun j v hv => by rw [Nat.zero_add, h.cell, hv]
theorem Row.thereAt {w : World} {g : Nat} {cs : List Value} {t : TypeId} (h : Row w g cs t) (n : Nat) (hn : cs.length = n) : w.there g 0 n := fun j hj => by
  rw [Nat.zero_add]
  exact ⟨by rw [h.cell, List.getElem?_eq_getElem (by omega)]; rfl, h.frozen j⟩
theorem range_below {B b o : Nat} {w w' : World} {cs : List Value} (h : w.rangeAt b o cs) (hb : Below B w w') (hB : b < B) : w'.rangeAt b o cs := fun j v hv => by
  rw [hb.cell (p := ⟨b, o + j, none⟩) hB]; exact h j v hv
theorem there_below {B b o n : Nat} {w w' : World} (h : w.there b o n) (hb : Below B w w') (hB : b < B) : w'.there b o n := fun j hj => by
  rw [hb.cell (p := ⟨b, o + j, none⟩) hB, hb.frozen (p := ⟨b, o + j, none⟩) hB]; exact h j hj
theorem below_setCells {B g : Nat} {w0 : World} (hg : B ≤ g) : ∀ (vs : List Value) (o : Nat) (w : World), Below B w0 w → Below B w0 (w.setCells g o vs)
  | [], _, _, h => h
  | v :: r, o, w, h => by
    rw [World.setCells]
    exact below_setCells hg r (o + 1) _ (h.setCell hg v)

theorem under_str : Tryd.prog.underlying 9 = some .string := by kernel_rfl
theorem under_u8 : Tryd.prog.underlying 5 = some (.int .u8) := by kernel_rfl

theorem run_convR (w : World) (g : Nat) (xs : List Int) (n cap : Nat) (hl : xs.length = n) (h : w.rangeAt g 0 (u8s xs)) :
    (convert 28 9 (.slice (some ⟨g, 0, none⟩) n cap)).run Tryd.prog w = .ok (.string (strOfNums xs)) w :=
  run_convert_bytes_arg w 28 5 under_bytes under_u8 g 0 n cap xs hl (fun i hi => h i _ (u8s_get xs i (by omega))) 9 under_str

theorem results_mid {P : Program} {fn : Func} {p : Tmp} {ty : TypeId} (hf : fn.results = #[.cell p ty]) (tmps : Array Value) (w : World) (g : Nat) (cs : List Value) (n : Nat) (z : Value)
    (hp : tmps.getD p undef = .pointer (some ⟨g, 0, none⟩)) (hr : w.rangeAt g 0 cs) (ht : ArrT P ty n z) (hn : cs.length = n) : (results fn tmps).run P w = .ok (.agg cs.toArray) w := by
  obtain ⟨e, hu⟩ := ht.u
  have hp' : tmps[p]?.getD undef = .pointer (some ⟨g, 0, none⟩) := by simpa using hp
  simp [results, hf, hp', asAddr, run_loadVar_mid w g 0 ty cs _ hr hu rfl (by rw [ht.size, hn])]

/-- what the last statement of sealBy leans on -/
theorem keep_call {w W wx : World} {kb iv : List Int} {g : Nat} (hb : Below W.heap.size W wx) (hg : w.heap.size + 1 < g)
    (h : W.rangeAt w.heap.size 0 (u8s kb) ∧ W.there (w.heap.size + 1) 0 32 ∧ W.rangeAt g 0 (u8s iv) ∧ Below w.heap.size w W ∧ g < W.heap.size) :
    wx.rangeAt w.heap.size 0 (u8s kb) ∧ wx.there (w.heap.size + 1) 0 32 ∧ wx.rangeAt g 0 (u8s iv) ∧ Below w.heap.size w wx ∧ g < wx.heap.size :=
  ⟨range_below h.1 hb (by omega), there_below h.2.1 hb (by omega), range_below h.2.2.1 hb h.2.2.2.2, h.2.2.2.1.trans (hb.mono (by omega)), Nat.lt_of_lt_of_le h.2.2.2.2 hb.size⟩
theorem keep_store {w W : World} {kb iv : List Int} {g : Nat} (vs : List Value) (hg : w.heap.size + 1 < g)
    (h : W.rangeAt w.heap.size 0 (u8s kb) ∧ W.there (w.heap.size + 1) 0 32 ∧ W.rangeAt g 0 (u8s iv) ∧ Below w.heap.size w W ∧ g < W.heap.size) :
    (W.setCells (w.heap.size + 1) 0 vs).rangeAt w.heap.size 0 (u8s kb) ∧ (W.setCells (w.heap.size + 1) 0 vs).there (w.heap.size + 1) 0 32 ∧ (W.setCells (w.heap.size + 1) 0 vs).rangeAt g 0 (u8s iv) ∧ Below w.heap.size w (W.setCells (w.heap.size + 1) 0 vs) ∧ g < (W.setCells (w.heap.size + 1) 0 vs).heap.size :=
  have hb := below_setCells (Nat.le_succ _) vs 0 W h.2.2.2.1
  ⟨World.rangeAt_setCells_apart h.1 _ _ _ (by omega), World.there_setCells h.2.1 _ _ _, World.rangeAt_setCells_apart h.2.2.1 _ _ _ (by omega), hb, Nat.lt_of_lt_of_le h.2.2.2.2 (below_setCells (B := 0) (Nat.zero_le _) vs 0 W (Below.refl _ _)).size⟩

set_option maxRecDepth 100000 in
set_option maxHeartbeats 2000000 in
theorem prog_sealBy (kf : List Int) (s : ByteArray) (w : World) (hG : Glob w) (hl : kf.length = 21) (hk : ∀ x ∈ kf, isB x) (hs : s.size < 900000) :
    Calls Tryd.prog 33 #[.agg (u8s kf).toArray, .string s] w fun r w' => r = .returned (.agg (u8s (sealSpec kf.tail s.data.toList)).toArray) ∧ Below w.heap.size w w' := by
  have HL : Hid ((u8s kf).length = 21) := by show _ = _; rw [u8s_length]; exact hl
  have HL' : Hid (kf.length = 21) := hl
  clear hl
  obtain ⟨m1, HM1⟩ : ∃ m1, Hid (m1 = blockOn K0 H0 (maskK kf.tail 54)) := ⟨_, rfl⟩
  obtain ⟨m2, HM2⟩ : ∃ m2, Hid (m2 = blockOn K0 H0 (maskK kf.tail 92)) := ⟨_, rfl⟩
  have hm1 : W8 m1 := by rw [HM1.out]; exact blockOn_w8 W8_H0
  have hm2 : W8 m2 := by rw [HM2.out]; exact blockOn_w8 W8_H0
  obtain ⟨iv, HI⟩ : ∃ iv, Hid (iv = sumSpec K0 m1 64 s.data.toList) := ⟨_, rfl⟩
  have hil : Hid ((u8s iv).length = 32) := by show _ = _; rw [u8s_length, HI.out]; exact sumSpec_length m1 hm1 _ _
  go_enter Tryd.func33, Tryd.ntmps33
  go_wp2_with (first | (refine wpList_boxR rfl 63 _ rfl (u8s kf) rfl ?_; go_simp) | (refine wpList_allocR rfl 24 rfl 32 (.int .u8 0) arr32b ?_; go_simp) | (refine wpList_loadR rfl 63 _ rfl w.heap.size rfl 63 (u8s kf) 21 (.int .u8 0) ((Row.made _ _ _).alloc _) arr21b HL.out ?_; go_simp) | (go_at_call 45; refine (prog_masked kf _ _ ((hG.alloc _).alloc _) HL'.out hk (by unfold isB; omega)).mono ?_; rintro _ w1 ⟨rfl, hb1⟩; have a2 : Row w1 w.heap.size (u8s kf) 63 := ((Row.made w _ _).alloc _).below hb1 (by simp; omega); have a4 : Row w1 (w.heap.size + 1) (zrow 32 (.int .u8 0)) 24 := (Row.made1 w _ _ _).below hb1 (by simp); have aw : Below w.heap.size w w1 := (((Below.refl _ _).alloc (Nat.le_refl _) _).alloc (by simp) _).trans (hb1.mono (by simp; omega)); clear hb1; rw [← HM1.out]) | (go_at_call 34; refine (prog_sum m1 _ _ _ (hG.below aw (Nat.le_refl _)) hm1 (by omega) (by omega)).mono ?_; rintro _ w2 ⟨rfl, hb2⟩; have b2 := a2.below hb2 a2.lt; have b4 := a4.below hb2 a4.lt; have bw := aw.trans (hb2.mono (Nat.le_of_lt a2.lt)); clear hb2; rw [← HI.out]) | (refine wpList_storeMA rfl 24 _ _ rfl _ rfl rfl (u8s iv) rfl 24 _ 32 (.int .u8 0) arr32b hil.out (zrow_length _ _) (u8s_one _) ?_; intro w3 hr5 hb3; have c2 := b2.below hb3 b2.lt; have c4 := b4.below hb3 b4.lt; have cw := bw.trans (hb3.mono (Nat.le_of_lt b2.lt)); go_simp))
  have hgl : w.heap.size + 1 < w2.heap.size := b4.lt
  obtain ⟨ov, HO⟩ : ∃ ov, Hid (ov = sumSpec K0 m2 64 (toBytes iv)) := ⟨_, rfl⟩
  have hol : (u8s ov).length = 32 := by rw [u8s_length, HO.out]; exact sumSpec_length m2 hm2 _ _
  have hS0 : w3.rangeAt w.heap.size 0 (u8s kf) ∧ w3.there (w.heap.size + 1) 0 32 ∧ w3.rangeAt w2.heap.size 0 (u8s iv) ∧ Below w.heap.size w w3 ∧ w2.heap.size < w3.heap.size := ⟨c2.range, c4.thereAt 32 (zrow_length _ _), hr5.range, cw, hr5.lt⟩
  have hu78 := under21b
  have hu47 := under32b
  have hi78 : (Tryd.prog.info? 63).map (·.size) = some (u8s kf).length := by rw [HL.out]; exact arr21b.size
  have hi47 : (Tryd.prog.info? 24).map (·.size) = some (u8s ov).length := by rw [hol]; exact arr32b.size
  have hlk : (u8s kf).length = 21 := HL.out
  have hok := u8s_one kf
  have hoo := u8s_one ov
  have hconv : ∀ w', w'.rangeAt w2.heap.size 0 (u8s iv) → (convert 28 9 (.slice (some ⟨w2.heap.size, 0, none⟩) 32 32)).run Tryd.prog w' = .ok (.string (strOfNums iv)) w' := fun w' h => run_convR w' _ iv 32 32 (by rw [← u8s_length]; exact hil.out) h
  have hsz : (strOfNums iv).size = 32 := by rw [strOfNums_size, ← u8s_length]; exact hil.out
  clear hr5 hb3 c2 c4 cw b2 b4 bw a2 a4 aw
  go_region_held3 (fun w' => w'.rangeAt w.heap.size 0 (u8s kf) ∧ w'.there (w.heap.size + 1) 0 32 ∧ w'.rangeAt w2.heap.size 0 (u8s iv) ∧ Below w.heap.size w w' ∧ w2.heap.size < w'.heap.size) (first | exact ⟨hS0.1, hS0.2.1, hS0.2.2.1, hS0.2.2.2.1.drew, hS0.2.2.2.2⟩ | exact keep_call hbx hgl (by assumption) | exact keep_call hby hgl (by assumption) | exact keep_store _ hgl (by assumption)) (first | (go_at_call 45; refine (prog_masked kf _ _ ?_ HL'.out hk (by unfold isB; omega)).mono ?_; (go_split_ands; exact hG.below (by assumption) (Nat.le_refl _)); rintro _ wx ⟨rfl, hbx⟩; rw [← HM2.out]) | (go_at_call 34; refine (prog_sum m2 _ _ _ ?_ hm2 (by omega) (by omega)).mono ?_; (go_split_ands; exact hG.below (by assumption) (Nat.le_refl _)); rintro _ wy ⟨rfl, hby⟩; rw [toBytes_str, ← HO.out]))
  have hSy : wy.rangeAt w.heap.size 0 (u8s kf) ∧ wy.there (w.heap.size + 1) 0 32 ∧ wy.rangeAt w2.heap.size 0 (u8s iv) ∧ Below w.heap.size w wy ∧ w2.heap.size < wy.heap.size := keep_call hby hgl (keep_call hbx hgl ⟨hS0.1, hS0.2.1, hS0.2.2.1, hS0.2.2.2.1.drew, hS0.2.2.2.2⟩)
  go_wp2
  refine bodyPost_ret (v := .agg (u8s ov).toArray) (results_mid Tryd.results33 _ _ (w.heap.size + 1) (u8s ov) 32 (.int .u8 0) rfl (World.rangeAt_setCells_same _ _ _ _ (by rw [hol]; exact hSy.2.1)) arr32b hol) rfl ⟨?_, below_setCells (Nat.le_succ _) _ _ _ hSy.2.2.2.1⟩
  rw [HO.out, HI.out, HM2.out, HM1.out]
  rfl
end Go.Proofs.YtaokemapkgggoaaDoor

/-
  The roots by halving, reckoned by the kernel.
-/
namespace Go.Proofs.YtaokemapkgggoaaDoor
def bisF (p : Int) (cube : Bool) : Nat → Int → Int → Int
  | 0, lo, _ => lo
  | k + 1, lo, hi => match over p cube ((lo + hi) / 2) with
    | true => bisF p cube k lo ((lo + hi) / 2)
    | false => bisF p cube k ((lo + hi) / 2) hi
theorem bisF_to (p : Int) (cube : Bool) (j : Nat) : ∀ k, bisF p cube j (bisTo p cube k).1 (bisTo p cube k).2 = (bisTo p cube (k + j)).1 := by
  induction j with
  | zero => intro k; rfl
  | succ j ih =>
    intro k
    rw [show k + (j + 1) = (k + 1) + j by omega, ← ih (k + 1)]
    rw [bisF, bisTo]
    cases over p cube (((bisTo p cube k).1 + (bisTo p cube k).2) / 2) <;> simp
theorem rootL_eq (p : Int) (cube : Bool) (r : Int) (h : bisF p cube 37 0 137438953472 % 4294967296 = r) : rootL p cube = r := by
  have := bisF_to p cube 37 0
  rw [Nat.zero_add] at this
  unfold rootL
  rw [← this]
  exact h
end Go.Proofs.YtaokemapkgggoaaDoor

/-
  The roots by halving, reckoned by the kernel.
-/
namespace Go.Proofs.YtaokemapkgggoaaDoor
theorem cube0 : rootL 2 true = 1116352408 := rootL_eq _ _ _ (by decide +kernel)
theorem cube1 : rootL 3 true = 1899447441 := rootL_eq _ _ _ (by decide +kernel)
theorem cube2 : rootL 5 true = 3049323471 := rootL_eq _ _ _ (by decide +kernel)
theorem cube3 : rootL 7 true = 3921009573 := rootL_eq _ _ _ (by decide +kernel)
theorem cube4 : rootL 11 true = 961987163 := rootL_eq _ _ _ (by decide +kernel)
theorem cube5 : rootL 13 true = 1508970993 := rootL_eq _ _ _ (by decide +kernel)
theorem cube6 : rootL 17 true = 2453635748 := rootL_eq _ _ _ (by decide +kernel)
theorem cube7 : rootL 19 true = 2870763221 := rootL_eq _ _ _ (by decide +kernel)
theorem cube8 : rootL 23 true = 3624381080 := rootL_eq _ _ _ (by decide +kernel)
theorem cube9 : rootL 29 true = 310598401 := rootL_eq _ _ _ (by decide +kernel)
theorem cube10 : rootL 31 true = 607225278 := rootL_eq _ _ _ (by decide +kernel)
theorem cube11 : rootL 37 true = 1426881987 := rootL_eq _ _ _ (by decide +kernel)
theorem cube12 : rootL 41 true = 1925078388 := rootL_eq _ _ _ (by decide +kernel)
theorem cube13 : rootL 43 true = 2162078206 := rootL_eq _ _ _ (by decide +kernel)
theorem cube14 : rootL 47 true = 2614888103 := rootL_eq _ _ _ (by decide +kernel)
theorem cube15 : rootL 53 true = 3248222580 := rootL_eq _ _ _ (by decide +kernel)
theorem square0 : rootL 2 false = 1779033703 := rootL_eq _ _ _ (by decide +kernel)
theorem square1 : rootL 3 false = 3144134277 := rootL_eq _ _ _ (by decide +kernel)
end Go.Proofs.YtaokemapkgggoaaDoor

/-
  The roots by halving, reckoned by the kernel.
-/
namespace Go.Proofs.YtaokemapkgggoaaDoor
theorem cube16 : rootL 59 true = 3835390401 := rootL_eq _ _ _ (by decide +kernel)
theorem cube17 : rootL 61 true = 4022224774 := rootL_eq _ _ _ (by decide +kernel)
theorem cube18 : rootL 67 true = 264347078 := rootL_eq _ _ _ (by decide +kernel)
theorem cube19 : rootL 71 true = 604807628 := rootL_eq _ _ _ (by decide +kernel)
theorem cube20 : rootL 73 true = 770255983 := rootL_eq _ _ _ (by decide +kernel)
theorem cube21 : rootL 79 true = 1249150122 := rootL_eq _ _ _ (by decide +kernel)
theorem cube22 : rootL 83 true = 1555081692 := rootL_eq _ _ _ (by decide +kernel)
theorem cube23 : rootL 89 true = 1996064986 := rootL_eq _ _ _ (by decide +kernel)
theorem cube24 : rootL 97 true = 2554220882 := rootL_eq _ _ _ (by decide +kernel)
theorem cube25 : rootL 101 true = 2821834349 := rootL_eq _ _ _ (by decide +kernel)
theorem cube26 : rootL 103 true = 2952996808 := rootL_eq _ _ _ (by decide +kernel)
theorem cube27 : rootL 107 true = 3210313671 := rootL_eq _ _ _ (by decide +kernel)
theorem cube28 : rootL 109 true = 3336571891 := rootL_eq _ _ _ (by decide +kernel)
theorem cube29 : rootL 113 true = 3584528711 := rootL_eq _ _ _ (by decide +kernel)
theorem cube30 : rootL 127 true = 113926993 := rootL_eq _ _ _ (by decide +kernel)
theorem cube31 : rootL 131 true = 338241895 := rootL_eq _ _ _ (by decide +kernel)
theorem square2 : rootL 5 false = 1013904242 := rootL_eq _ _ _ (by decide +kernel)
theorem square3 : rootL 7 false = 2773480762 := rootL_eq _ _ _ (by decide +kernel)
end Go.Proofs.YtaokemapkgggoaaDoor

/-
  The roots by halving, reckoned by the kernel.
-/
namespace Go.Proofs.YtaokemapkgggoaaDoor
theorem cube32 : rootL 137 true = 666307205 := rootL_eq _ _ _ (by decide +kernel)
theorem cube33 : rootL 139 true = 773529912 := rootL_eq _ _ _ (by decide +kernel)
theorem cube34 : rootL 149 true = 1294757372 := rootL_eq _ _ _ (by decide +kernel)
theorem cube35 : rootL 151 true = 1396182291 := rootL_eq _ _ _ (by decide +kernel)
theorem cube36 : rootL 157 true = 1695183700 := rootL_eq _ _ _ (by decide +kernel)
theorem cube37 : rootL 163 true = 1986661051 := rootL_eq _ _ _ (by decide +kernel)
theorem cube38 : rootL 167 true = 2177026350 := rootL_eq _ _ _ (by decide +kernel)
theorem cube39 : rootL 173 true = 2456956037 := rootL_eq _ _ _ (by decide +kernel)
theorem cube40 : rootL 179 true = 2730485921 := rootL_eq _ _ _ (by decide +kernel)
theorem cube41 : rootL 181 true = 2820302411 := rootL_eq _ _ _ (by decide +kernel)
theorem cube42 : rootL 191 true = 3259730800 := rootL_eq _ _ _ (by decide +kernel)
theorem cube43 : rootL 193 true = 3345764771 := rootL_eq _ _ _ (by decide +kernel)
theorem cube44 : rootL 197 true = 3516065817 := rootL_eq _ _ _ (by decide +kernel)
theorem cube45 : rootL 199 true = 3600352804 := rootL_eq _ _ _ (by decide +kernel)
theorem cube46 : rootL 211 true = 4094571909 := rootL_eq _ _ _ (by decide +kernel)
theorem cube47 : rootL 223 true = 275423344 := rootL_eq _ _ _ (by decide +kernel)
theorem square4 : rootL 11 false = 1359893119 := rootL_eq _ _ _ (by decide +kernel)
theorem square5 : rootL 13 false = 2600822924 := rootL_eq _ _ _ (by decide +kernel)
end Go.Proofs.YtaokemapkgggoaaDoor
