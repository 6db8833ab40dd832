import Derived.Test.YtaokemapkgggoaaDoorGd07
import Derived.Test.YtaokemapkgggoaaDoorGd02
import Derived.BigQuiet
/-
  The roots by halving, reckoned by the kernel.
-/
namespace Go.Proofs.YtaokemapkgggoaaDoor
end Go.Proofs.YtaokemapkgggoaaDoor

namespace Go.Proofs.YtaokemapkgggoaaDoor
open Go.RowKit

/-- what sums need lies behind the pointer to block g -/
def Summ (w : World) (g : Nat) : Prop := ∃ gk ck gh ch, w.cell? ⟨g, 0, none⟩ = some (.slice (some ⟨gk, 0, none⟩) 64 ck) ∧ w.cell? ⟨g, 1, none⟩ = some (.slice (some ⟨gh, 0, none⟩) 8 ch) ∧ At w gk K0 ∧ At w gh H0 ∧ gk < w.heap.size ∧ gh < w.heap.size
theorem Summ.lt {w : World} {g : Nat} (h : Summ w g) : g < w.heap.size := by
  obtain ⟨_, _, _, _, h1, _⟩ := h
  exact World.block_lt_of_cell? _ _ h1
theorem Summ.below {B : Nat} {w w' : World} {g : Nat} (h : Summ w g) (hb : Below B w w') (hB : w.heap.size ≤ B) : Summ w' g := by
  have hl := h.lt
  obtain ⟨gk, ck, gh, ch, h1, h2, h3, h4, h5, h6⟩ := h
  exact ⟨gk, ck, gh, ch, (hb.cell (p := ⟨g, 0, none⟩) (by simp; omega)).trans h1, (hb.cell (p := ⟨g, 1, none⟩) (by simp; omega)).trans h2, h3.below hb (by omega), h4.below hb (by omega), Nat.lt_of_lt_of_le h5 hb.size, Nat.lt_of_lt_of_le h6 hb.size⟩

end Go.Proofs.YtaokemapkgggoaaDoor

namespace Go.Proofs.YtaokemapkgggoaaDoor
open Go.RowKit

/-- the last k of six decimal digits, and bytes 0 ahead of them -/
def digTo (x : Int) (k : Nat) : List Int := (List.range 6).map fun j => if 6 ≤ j + k then 48 + x / 10 ^ (5 - j) % 10 else 0
theorem digTo_length (x : Int) (k : Nat) : (digTo x k).length = 6 := by simp [digTo]
theorem digTo_zero (x : Int) : digTo x 0 = List.replicate 6 0 := by simp [digTo, List.range, List.range.loop]
theorem digTo_set (x : Int) (k : Nat) (hk : k < 6) : (digTo x k).set (5 - k) (48 + x / 10 ^ k % 10) = digTo x (k + 1) := by
  apply List.ext_getElem
  · simp [digTo]
  · intro i h1 h2
    have hi : i < 6 := by simpa [digTo] using h2
    simp only [digTo, List.getElem_set, List.getElem_map, List.getElem_range]
    by_cases e : 5 - k = i
    · subst e
      rw [if_pos rfl, if_pos (by omega), show 5 - (5 - k) = k by omega]
    · rw [if_neg e]
      by_cases hj : 6 ≤ i + k
      · rw [if_pos hj, if_pos (by omega)]
      · rw [if_neg hj, if_neg (by omega)]
theorem div_pow10 (x : Int) (k : Nat) : x / 10 ^ k / 10 = x / 10 ^ (k + 1) := by
  rw [Int.ediv_ediv_of_nonneg (Int.pow_nonneg (by omega)), Int.pow_succ]

set_option maxRecDepth 100000 in
set_option maxHeartbeats 1000000 in
theorem prog_six (x : Int) (w : World) (hx : isW x) :
    Calls Tryd.prog 50 #[.int .u32 x] w fun r w' => r = .returned (.string (strOfNums (digTo x 6))) ∧ Below w.heap.size w w' := by
  go_enter Tryd.func50, Tryd.ntmps50
  go_wp2_with (refine wpList_allocR rfl 121 rfl 6 (.int .u8 0) arr6b ?_; go_simp)
  go_loopw [0, 4] (fun y c wr => ∃ k : Nat, k ≤ 6 ∧ c = .int .i64 (5 - (k : Int)) ∧ y = .int .u32 (x / 10 ^ k) ∧ Row wr w.heap.size (u8s (digTo x k)) 121 ∧ Below w.heap.size w wr)
    (fun _ c _ => (intOf c + 1).toNat)
  case atStart =>
    refine ⟨0, by omega, rfl, by simp, ?_, (Below.refl _ _).alloc (Nat.le_refl _) _⟩
    rw [digTo_zero, ← zrow_u8]; exact Row.made _ _ _
  case round =>
    obtain ⟨k, hk, rfl, rfl, hR, hB⟩ := hrel
    by_cases hlt : k < 6
    · have hc : wr.cell? ⟨w.heap.size, 5 - k, none⟩ = some (.int .u8 ((digTo x k).getD (5 - k) 0)) := by
        rw [hR.cell, u8s_get _ _ (by rw [digTo_length]; omega)]
      have hf := hR.frozen (5 - k)
      have HS : Hid _ := digTo_set x k hlt
      have HD : Hid _ := div_pow10 x k
      have hy : 0 ≤ x / 10 ^ k ∧ x / 10 ^ k < 4294967296 := by
        have h1 : (0 : Int) ≤ x / 10 ^ k := Int.ediv_nonneg hx.1 (Int.pow_nonneg (by omega))
        have h2 : x / 10 ^ k ≤ x := Int.ediv_le_self _ hx.1
        exact ⟨h1, by have := hx.2; omega⟩
      obtain ⟨hy0, hy1⟩ := hy
      generalize x / 10 ^ k = y at *
      have i0 : (0 : Int) ≤ 5 - (k : Int) := by omega
      go_wp2
      refine ⟨⟨k + 1, by omega, by go_num, by rw [HD.out], ?_, hB.setCell (Nat.le_refl _) _⟩, by simp [intOf]; omega⟩
      have := hR.setCell (5 - k) (.int .u8 (48 + y % 10))
      rwa [u8s_set, HS.out] at this
    · have hk6 : k = 6 := by omega
      subst hk6
      have hconv := run_convR wr w.heap.size (digTo x 6) 6 6 (digTo_length _ _) hR.range
      go_wp2
      go_ret
      exact ⟨rfl, hB⟩
end Go.Proofs.YtaokemapkgggoaaDoor

namespace Go.Proofs.YtaokemapkgggoaaDoor
open Go.RowKit

section
variable {P : Program} {ops : Array Oper} {o : Oper} {a : Act} {w : World} {K : Act → World → Prop} {Q : Exit → Act → World → Prop} {E : Prop}
theorem step_of (hgd : o.guard = none) (h : o.wp P a w K Q) : if Region.wanted o (yielded ops a.tmps) = true then o.wp P a w K Q else E := by
  have hw : Region.wanted o (yielded ops a.tmps) = true := by simp [Region.wanted, hgd]
  rw [if_pos hw]; exact h
theorem yields_of {S : World → Prop} {v : Value} (hgd : o.guard = none) (h : ∀ w', S w' → (execOp a.eval o).run P w' = .ok (.value v) w') : YieldsIf P ops S o v a :=
  .inl ⟨by simp [Region.wanted, hgd], h⟩
end

theorem u8_and127 {x : Int} (h : 0 ≤ x ∧ x < 256) : bits .and .u8 x 127 = x % 128 := by
  rw [u8_and x 127 h.1 h.2 (by omega) (by omega), show (127 : Int).toNat = 127 from rfl, nat_mask7]
  omega

theorem ret_str {a b : List Int} (h : a = b) : Ending.returned (.string (strOfNums a)) = .returned (.string (strOfNums b)) := by rw [h]
theorem word_mod {x : Int} : isW (x % 1000000) := by unfold isW; omega

/-- a code, by a key's bytes and a number's eight bytes -/
def codeSpecL (kb : List Int) (l : List UInt8) : List Int :=
  let sv := sealSpec kb l
  let k := (sv.getD 31 0 % 16).toNat
  digTo (word4 (sv.getD k 0 % 128) (sv.getD (k + 1) 0) (sv.getD (k + 2) 0) (sv.getD (k + 3) 0) % 1000000) 6
def codeSpec (kb : List Int) (n : Int) : List Int := codeSpecL kb (toBytes (eightTo n 8))

set_option maxRecDepth 100000 in
set_option maxHeartbeats 2000000 in
theorem prog_codeBy (kf : List Int) (s : ByteArray) (w : World) (hG : Glob w) (hl : kf.length = 21) (hk : ∀ x ∈ kf, isB x) (hs : s.size < 900000) :
    Calls Tryd.prog 36 #[.agg (u8s kf).toArray, .string s] w fun r w' => r = .returned (.string (strOfNums (codeSpecL kf.tail s.data.toList))) ∧ Below w.heap.size w w' := by
  have HL' : Hid (kf.length = 21) := hl
  clear hl
  obtain ⟨ov, HO⟩ : ∃ ov, Hid (ov = sealSpec kf.tail s.data.toList) := ⟨_, rfl⟩
  have hol : Hid ((u8s ov).length = 32) := by show _ = _; rw [u8s_length, HO.out]; exact sumSpec_length _ (blockOn_w8 W8_H0) _ _
  have hoB : ∀ x ∈ ov, isB x := by rw [HO.out]; exact sumSpec_B _ (blockOn_w8 W8_H0) _ _
  have hx31 := getD_isB hoB 31
  obtain ⟨m, hm⟩ : ∃ m : Nat, ov.getD 31 0 % 16 = (m : Int) := ⟨(ov.getD 31 0 % 16).toNat, by omega⟩
  have hm16 : m < 16 := by omega
  have HMm : Hid (ov.getD 31 0 % 16 = (m : Int)) := hm
  have p0 := getD_isB hoB m
  have p1 := getD_isB hoB (m + 1)
  have p2 := getD_isB hoB (m + 2)
  have p3 := getD_isB hoB (m + 3)
  have HFIN : Hid (codeSpecL kf.tail s.data.toList = digTo (word4 (ov.getD m 0 % 128) (ov.getD (m + 1) 0) (ov.getD (m + 2) 0) (ov.getD (m + 3) 0) % 1000000) 6) := by
    show _ = _
    unfold codeSpecL
    rw [← HO.out]
    show digTo (word4 (ov.getD (ov.getD 31 0 % 16).toNat 0 % 128) _ _ _ % 1000000) 6 = _
    rw [HMm.out, Int.toNat_natCast]
  clear hm
  have i0 : (0 : Int) ≤ m := by omega
  have i1 : (m : Int) < 16 := by omega
  obtain ⟨x31, hx31e⟩ : ∃ x, Hid (ov.getD 31 0 = x) := ⟨_, rfl⟩
  obtain ⟨y0, hy0⟩ : ∃ x, Hid (ov.getD m 0 = x) := ⟨_, rfl⟩
  obtain ⟨y1, hy1⟩ : ∃ x, Hid (ov.getD (m + 1) 0 = x) := ⟨_, rfl⟩
  obtain ⟨y2, hy2⟩ : ∃ x, Hid (ov.getD (m + 2) 0 = x) := ⟨_, rfl⟩
  obtain ⟨y3, hy3⟩ : ∃ x, Hid (ov.getD (m + 3) 0 = x) := ⟨_, rfl⟩
  rw [hx31e.out] at hx31 HMm
  rw [hy0.out] at p0 HFIN
  rw [hy1.out] at p1 HFIN
  rw [hy2.out] at p2 HFIN
  rw [hy3.out] at p3 HFIN
  have hcell : ∀ (wz : World) (g i : Nat), Row wz g (u8s ov) 24 → i < 32 → wz.cell? ⟨g, i, none⟩ = some (.int .u8 (ov.getD i 0)) := fun wz g i h hi => by
    rw [h.cell, u8s_get _ _ (by rw [← u8s_length, hol.out]; exact hi)]
  have hand : bits .and .u8 y0 127 = y0 % 128 := u8_and127 p0
  obtain ⟨q31, q31'⟩ := hx31
  have p0' : 0 ≤ y0 % 128 ∧ y0 % 128 < 256 := by omega
  obtain ⟨hw40, hw41⟩ := word4_w p0' p1 p2 p3
  go_enter Tryd.func36, Tryd.ntmps36
  go_wp2_with (first | (refine wpList_boxR rfl 63 _ rfl (u8s kf) rfl ?_; go_simp) | (refine wpList_loadR rfl 63 _ rfl w.heap.size rfl 63 (u8s kf) 21 (.int .u8 0) (Row.made _ _ _) arr21b (by rw [u8s_length]; exact HL'.out) ?_; go_simp) | (go_at_call 33; refine (prog_sealBy kf _ _ (hG.alloc _) HL'.out hk hs).mono ?_; rintro _ w1 ⟨rfl, hb1⟩; have aw : Below w.heap.size w w1 := ((Below.refl _ _).alloc (Nat.le_refl _) _).trans (hb1.mono (by simp)); clear hb1; rw [← HO.out]) | (refine wpList_allocR rfl 24 rfl 32 (.int .u8 0) arr32b ?_; go_simp) | (refine wpList_storeMA rfl 24 _ _ rfl _ rfl rfl (u8s ov) rfl 24 _ 32 (.int .u8 0) arr32b hol.out (zrow_length _ _) (u8s_one _) ?_; intro wz hz hb3; have hzw := aw.trans (hb3.mono aw.size); clear hb3; have c31 := (hcell wz _ 31 hz (by omega)).trans (by rw [hx31e.out]); have d0 := (hcell wz _ m hz (by omega)).trans (by rw [hy0.out]); have d1 := (hcell wz _ (m + 1) hz (by omega)).trans (by rw [hy1.out]); have d2 := (hcell wz _ (m + 2) hz (by omega)).trans (by rw [hy2.out]); have d3 := (hcell wz _ (m + 3) hz (by omega)).trans (by rw [hy3.out]); clear hz; go_simp))
  rw [HMm.out]
  go_quiet ((go_at_call 49; exact Calls.quiet_of_same (prog_word _ _ _ _ _ p0' p1 p2 p3)))
  go_wp2_with (go_at_call 50; refine (prog_six _ _ ?_).mono ?_; exact word_mod; rintro _ wq ⟨rfl, hbq⟩)
  go_ret
  exact ⟨ret_str HFIN.out.symm, (below_drewN hzw _).trans (hbq.mono hzw.size)⟩

end Go.Proofs.YtaokemapkgggoaaDoor

namespace Go.Proofs.YtaokemapkgggoaaDoor
open Go.RowKit

section
variable {P : Program} {ops : Array Oper} {o : Oper} {a : Act} {K : Act → World → Prop} {Q : Exit → Act → World → Prop} {E : Prop}
end

/-- a list of numbers in a block of which the cells may be written -/
structure Cells9 (w : World) (g : Nat) (hs : List Int) : Prop where
  at' : At w g hs
  fz : ∀ j, w.frozen? ⟨g, j, none⟩ = false
  lt : g < w.heap.size
theorem Cells9.below {B : Nat} {w w' : World} {g : Nat} {hs : List Int} (h : Cells9 w g hs) (hb : Below B w w') (hg : g < B) : Cells9 w' g hs :=
  ⟨h.at'.below hb hg, fun j => (hb.frozen (p := ⟨g, j, none⟩) hg).trans (h.fz j), Nat.lt_of_lt_of_le h.lt hb.size⟩
theorem Cells9.drew {w : World} {g : Nat} {hs : List Int} (h : Cells9 w g hs) : Cells9 w.drew g hs := ⟨h.at', h.fz, h.lt⟩
theorem Cells9.grown {w w' : World} {g : Nat} {hs : List Int} {v u : Value} (h : Cells9 w g hs) (hg : w.grownBy w' v.ownBlock) (hu : u.ownBlock = some g) (hs' : Sep v u) : Cells9 w' g hs := by
  have hb : w'.heap[g]? = w.heap[g]? := hg.block g h.lt (fun e => hs' g e.symm hu)
  exact ⟨fun j hj => (World.cell?_of_block (w := w) hb).trans (h.at' j hj), fun j => (World.frozen?_of_block (w := w) hb).trans (h.fz j), Nat.lt_of_lt_of_le h.lt hg.size⟩
theorem Cells9.set {w : World} {g : Nat} {hs : List Int} (h : Cells9 w g hs) (i : Nat) (hi : i < hs.length) (x : Int) : Cells9 (w.setCell ⟨g, i, none⟩ (.int .i64 x)) g (hs.set i x) := by
  refine ⟨fun j hj => ?_, fun j => ?_, ?_⟩
  · rw [List.length_set] at hj
    by_cases e : i = j
    · subst e
      rw [World.cell?_setCell_same _ _ _ (h.at' i hi)]
      simp [List.getD, hi]
    · rw [World.cell?_setCell_other _ _ _ _ (fun h => e (Addr.mk.inj h).2.1), h.at' j hj]
      simp [List.getD, e]
  · have := h.fz j
    rw [← this]
    simp [World.frozen?, World.setCell, Array.getElem?_modify]
    cases w.heap[g]? with
    | none => rfl
    | some o => cases o <;> rfl
  · have := h.lt
    simpa [World.setCell] using this
end Go.Proofs.YtaokemapkgggoaaDoor

namespace Go.Proofs.YtaokemapkgggoaaDoor
open Go.RowKit

/-- a key filled up to 64 bytes, each by the mask -/
def refMask (l : List UInt8) (m : Int) : List Int := (List.range 64).map fun i => xr ((bytesI l).getD i 0) m
theorem refMask_length (l : List UInt8) (m : Int) : (refMask l m).length = 64 := by simp [refMask]
theorem refMask_eq (l : List UInt8) (m : Int) (h : l.length ≤ 20) : refMask l m = maskK (blk 20 l) m := by
  apply List.ext_getElem
  · simp [refMask, maskK, blk_length]
  · intro i h1 h2
    have hi : i < 64 := by rw [refMask_length] at h1; exact h1
    simp only [refMask, maskK, List.getElem_map, List.getElem_range]
    congr 1
    have hb : blk 20 l ++ List.replicate 44 0 = bytesI l ++ List.replicate (64 - l.length) 0 := by
      unfold blk
      rw [List.take_of_length_le h, List.append_assoc, List.replicate_append_replicate]
      congr 2
      omega
    have hg : ∀ (L : List Int) (h : i < L.length), L[i] = L.getD i 0 := fun L h => by simp [List.getD, h]
    have hlen : i < (blk 20 l ++ List.replicate 44 (0 : Int)).length := by rw [List.length_append, blk_length, List.length_replicate]; omega
    have h3 : (blk 20 l ++ List.replicate 44 0)[i]'hlen = (bytesI l ++ List.replicate (64 - l.length) 0).getD i 0 := by
      rw [hg _ hlen, hb]
    rw [h3]
    simp only [List.getD]
    by_cases hl : i < (bytesI l).length
    · rw [List.getElem?_append_left hl]
    · rw [List.getElem?_append_right (by omega), List.getElem?_eq_none (Nat.le_of_not_lt hl), List.getElem?_replicate]
      split <;> rfl

theorem byte_at {s : ByteArray} {i : Nat} (h : i < s.size) : ((s[i]'h).toNat : Int) = (bytesI s.data.toList).getD i 0 := by
  have h' : i < s.data.toList.length := by rw [Array.length_toList]; exact h
  simp only [bytesI, List.getD, List.getElem?_map, List.getElem?_eq_getElem h']
  rfl

end Go.Proofs.YtaokemapkgggoaaDoor

namespace Go.Proofs.YtaokemapkgggoaaDoor
open Go.RowKit

def refSeal (spec : List UInt8 → List Int) (l t : List UInt8) : List Int := spec (toBytes (refMask l 92) ++ toBytes (spec (toBytes (refMask l 54) ++ t)))

end Go.Proofs.YtaokemapkgggoaaDoor

namespace Go.Proofs.YtaokemapkgggoaaDoor
open Go.RowKit

/-- the number that a code is taken out of -/
def refWord (sv : List Int) : Int :=
  word4 (sv.getD (sv.getD 31 0 % 16).toNat 0 % 128) (sv.getD ((sv.getD 31 0 % 16).toNat + 1) 0) (sv.getD ((sv.getD 31 0 % 16).toNat + 2) 0) (sv.getD ((sv.getD 31 0 % 16).toNat + 3) 0)
def digL (x : Int) : Nat → List Int
  | 0 => []
  | i + 1 => (48 + x / 10 ^ i % 10) :: digL x i
theorem digL_length (n : Int) (i : Nat) : (digL n i).length = i := by
  induction i with
  | zero => rfl
  | succ i ih => simp [digL, ih]
end Go.Proofs.YtaokemapkgggoaaDoor

namespace Go.Proofs.YtaokemapkgggoaaDoor
open Go.RowKit

/-- how many bytes 0 stand behind the 80 -/
def padN (n : Nat) : Nat := (119 - n % 64) % 64
/-- the bytes that are turned: those that came, 80, bytes 0, the number of bits -/
def padG (n : Int) (l : List UInt8) : List UInt8 := l ++ (128 :: List.replicate (padN l.length) 0) ++ toBytes (eightTo n 8)
def padded (l : List UInt8) : List UInt8 := l ++ (128 :: List.replicate (padN l.length) 0) ++ toBytes (eightTo (8 * l.length) 8)
def sumSpecRef (l : List UInt8) : List Int := (foldB K0 H0 (padded l) ((padded l).length / 64)).flatMap four

theorem blk_append {n : Nat} {l : List UInt8} (m : List UInt8) (h : n ≤ l.length) : blk n (l ++ m) = blk n l := by
  unfold blk
  rw [List.take_append_of_le_length h]
theorem foldB_append {K h : List Int} {l : List UInt8} (m : List UInt8) : ∀ k, 64 * k ≤ l.length → foldB K h (l ++ m) k = foldB K h l k
  | 0, _ => rfl
  | k + 1, hk => by
    show blockOn K (foldB K h (l ++ m) k) _ = blockOn K (foldB K h l k) _
    rw [foldB_append m k (by omega), List.drop_append_of_le_length (by omega), blk_append _ (by rw [List.length_drop]; omega)]
theorem foldB_split {K h : List Int} {a : List UInt8} (b : List UInt8) (q : Nat) (ha : a.length = 64 * q) : ∀ k, foldB K h (a ++ b) (q + k) = foldB K (foldB K h a q) b k
  | 0 => foldB_append b q (by omega)
  | k + 1 => by
    show blockOn K (foldB K h (a ++ b) (q + k)) (blk 64 ((a ++ b).drop (64 * (q + k)))) = blockOn K (foldB K (foldB K h a q) b k) (blk 64 (b.drop (64 * k)))
    rw [foldB_split b q ha k, show 64 * (q + k) = a.length + 64 * k by omega, List.drop_append, List.drop_eq_nil_of_le (by omega), List.nil_append, Nat.add_sub_cancel_left]
theorem foldB_take {K h : List Int} (l : List UInt8) (q : Nat) (hq : 64 * q ≤ l.length) : foldB K h (l.take (64 * q)) q = foldB K h l q := by
  conv => rhs; rw [← List.take_append_drop (64 * q) l]
  rw [foldB_append _ q (by rw [List.length_take]; omega)]
theorem blk_whole {n : Nat} {l : List UInt8} (h : l.length = n) : blk n l = bytesI l := by
  unfold blk
  rw [List.take_of_length_le (by omega), h, Nat.sub_self]
  simp
theorem bytesI_toBytes {xs : List Int} (h : ∀ x ∈ xs, isB x) : bytesI (toBytes xs) = xs := by
  rw [bytesI, toBytes, List.map_map]
  conv => rhs; rw [← List.map_id xs]
  refine List.map_congr_left fun x hx => ?_
  have := h x hx
  unfold isB at this
  simp only [Function.comp, id]
  rw [UInt8.toNat_ofNat']
  omega
theorem bytesI_append (a b : List UInt8) : bytesI (a ++ b) = bytesI a ++ bytesI b := by simp [bytesI]
theorem toBytes_length (xs : List Int) : (toBytes xs).length = xs.length := by simp [toBytes]
theorem bytesI_length (l : List UInt8) : (bytesI l).length = l.length := by simp [bytesI]
theorem marked_eq {r : List UInt8} (h : r.length < 64) : marked r = bytesI r ++ (128 :: List.replicate (63 - r.length) 0) := by
  unfold marked blk
  rw [List.take_of_length_le (by omega), List.set_append_right _ _ (by rw [bytesI_length]; omega), bytesI_length, Nat.sub_self, show 64 - r.length = (63 - r.length) + 1 by omega, List.replicate_succ, List.set_cons_zero]
theorem bytesI_zeros (n : Nat) : bytesI (List.replicate n 0) = List.replicate n 0 := by simp [bytesI]

theorem tail_eq (K h : List Int) (n : Int) (r : List UInt8) (hr : r.length < 64) : foldB K h (padG n r) ((padG n r).length / 64) = tailOn K h r n := by
  have he : (toBytes (eightTo n 8)).length = 8 := by rw [toBytes_length, eightTo_length]
  have hlen : (padG n r).length = r.length + 1 + padN r.length + 8 := by
    unfold padG
    rw [List.length_append, List.length_append, List.length_cons, List.length_replicate, he]
    omega
  unfold tailOn
  by_cases h56 : 56 ≤ r.length
  · have hp : padN r.length = (63 - r.length) + 56 := by unfold padN; omega
    rw [if_pos h56, hlen, hp, show (r.length + 1 + (63 - r.length + 56) + 8) / 64 = 1 + 1 by omega]
    have hs : padG n r = (r ++ (128 :: List.replicate (63 - r.length) 0)) ++ (List.replicate 56 0 ++ toBytes (eightTo n 8)) := by
      unfold padG
      rw [hp, ← List.replicate_append_replicate]
      simp
    rw [hs, foldB_split _ 1 (by simp; omega) 1]
    show blockOn K (blockOn K h (blk 64 (List.drop 0 _))) (blk 64 (List.drop 0 _)) = _
    rw [List.drop_zero, List.drop_zero, blk_whole (by simp; omega), blk_whole (by simp [he]), marked_eq hr, bytesI_append, bytesI_append, bytesI_zeros, bytesI_toBytes (eightTo_B n 8)]
    congr 3
    show _ :: bytesI _ = _
    rw [bytesI_zeros]
    rfl
  · have hp : padN r.length = 55 - r.length := by unfold padN; omega
    rw [if_neg h56, hlen, hp, show (r.length + 1 + (55 - r.length) + 8) / 64 = 1 by omega]
    show blockOn K h (blk 64 (List.drop 0 _)) = _
    rw [List.drop_zero, blk_whole (by rw [hlen, hp]; omega), marked_eq hr]
    congr 1
    unfold padG
    rw [bytesI_append, bytesI_append, bytesI_toBytes (eightTo_B n 8), hp]
    congr 1
    rw [List.take_append, List.take_of_length_le (by rw [bytesI_length]; omega), bytesI_length, show 56 - r.length = (55 - r.length) + 1 by omega, List.take_succ_cons, List.take_replicate, show min (55 - r.length) (63 - r.length) = 55 - r.length by omega]
    congr 1
    show _ :: bytesI _ = _
    rw [bytesI_zeros]
    rfl

theorem padG_tail (n : Int) (l : List UInt8) : padG n l = l.take (64 * (l.length / 64)) ++ padG n (l.drop (64 * (l.length / 64))) := by
  have h1 : padN (l.drop (64 * (l.length / 64))).length = padN l.length := by
    rw [List.length_drop]
    unfold padN
    rw [show (l.length - 64 * (l.length / 64)) % 64 = l.length % 64 by omega]
  unfold padG
  rw [h1, ← List.append_assoc, ← List.append_assoc, List.take_append_drop]
theorem sum_eq (h : List Int) (n : Int) (l : List UInt8) : foldB K0 h (padG n l) ((padG n l).length / 64) = tailOn K0 (foldB K0 h l (l.length / 64)) (l.drop (64 * (l.length / 64))) n := by
  have hq : 64 * (l.length / 64) ≤ l.length := Nat.mul_div_le _ _
  have ht : (l.take (64 * (l.length / 64))).length = 64 * (l.length / 64) := by rw [List.length_take]; omega
  rw [← tail_eq K0 (foldB K0 h l (l.length / 64)) n (l.drop (64 * (l.length / 64))) (by rw [List.length_drop]; omega)]
  rw [padG_tail, List.length_append, ht, Nat.mul_add_div (by omega), foldB_split _ _ ht, foldB_take _ _ hq]
theorem sumSpecRef_eq (l : List UInt8) : sumSpecRef l = sumSpec K0 H0 0 l := by
  unfold sumSpecRef sumSpec
  have h := sum_eq H0 (8 * l.length) l
  unfold padG at h
  unfold padded
  rw [h, show (8 * (l.length : Int)) = (0 + l.length) * 8 by omega]
theorem foldB_one (K h : List Int) {b : List Int} (hb : b.length = 64) (hB : ∀ x ∈ b, isB x) : foldB K h (toBytes b) 1 = blockOn K h b := by
  show blockOn K h (blk 64 (List.drop 0 _)) = _
  rw [List.drop_zero, blk_whole (by rw [toBytes_length, hb]), bytesI_toBytes hB]
theorem sumSpecRef_behind {b : List Int} (hb : b.length = 64) (hB : ∀ x ∈ b, isB x) (l : List UInt8) : sumSpecRef (toBytes b ++ l) = sumSpec K0 (blockOn K0 H0 b) 64 l := by
  have hl : (toBytes b).length = 64 * 1 := by rw [toBytes_length, hb]
  have hp : padded (toBytes b ++ l) = toBytes b ++ padG ((64 + l.length) * 8) l := by
    unfold padded padG
    rw [List.length_append, hl, show padN (64 * 1 + l.length) = padN l.length by unfold padN; omega, show (8 * ((64 * 1 + l.length : Nat) : Int)) = (64 + l.length) * 8 by omega]
    simp
  unfold sumSpecRef sumSpec
  rw [hp, List.length_append, hl, Nat.mul_add_div (by omega), foldB_split _ 1 hl, sum_eq]
  rw [foldB_one _ _ hb hB]

theorem sumRef_length (l : List UInt8) : (sumSpecRef l).length = 32 := by rw [sumSpecRef_eq]; exact sumSpec_length H0 W8_H0 _ _
theorem refSeal_eq {k : List UInt8} (hk : k.length ≤ 20) (t : List UInt8) : refSeal sumSpecRef k t = sealSpec (blk 20 k) t := by
  have hm : ∀ m : Int, isB m → ∀ x ∈ maskK (blk 20 k) m, isB x := fun m h => maskK_B (blk_B _ _) h
  have hl : ∀ m : Int, (maskK (blk 20 k) m).length = 64 := fun m => by simp [maskK, blk_length]
  unfold refSeal sealSpec innerSpec
  rw [refMask_eq k 54 hk, refMask_eq k 92 hk, sumSpecRef_behind (hl _) (hm _ (by unfold isB; omega)), sumSpecRef_behind (hl _) (hm _ (by unfold isB; omega))]
theorem digL_eq (x : Int) : digL x 6 = digTo (x % 1000000) 6 := by
  simp only [digL, digTo, List.range, List.range.loop, List.map]
  simp
  omega
end Go.Proofs.YtaokemapkgggoaaDoor
