import Derived.Test.YtaokemapkgggoaaDoorKb01
import Derived.Test.YtaokemapkgggoaaDoorKb02
import Derived.Deep.RegionLaw
import Derived.Deep.MidRow
import Derived.Laws.BytesArg
import Derived.Lib.BufferWrite
namespace Go.Proofs.YtaokemapkgggoaaDoor
open Go.RowKit

theorem arr64b : ArrT Tryd.prog 95 64 (.int .u8 0) := ⟨⟨5, by kernel_rfl⟩, by kernel_rfl⟩
theorem arr32b : ArrT Tryd.prog 24 32 (.int .u8 0) := ⟨⟨5, by kernel_rfl⟩, by kernel_rfl⟩
theorem arr21b : ArrT Tryd.prog 63 21 (.int .u8 0) := ⟨⟨5, by kernel_rfl⟩, by kernel_rfl⟩
theorem arr4b : ArrT Tryd.prog 118 4 (.int .u8 0) := ⟨⟨5, by kernel_rfl⟩, by kernel_rfl⟩
theorem arr8b : ArrT Tryd.prog 71 8 (.int .u8 0) := ⟨⟨5, by kernel_rfl⟩, by kernel_rfl⟩
theorem arr6b : ArrT Tryd.prog 121 6 (.int .u8 0) := ⟨⟨5, by kernel_rfl⟩, by kernel_rfl⟩
theorem arr8w : ArrT Tryd.prog 69 8 (.int .u32 0) := ⟨⟨68, by kernel_rfl⟩, by kernel_rfl⟩
theorem arr64w : ArrT Tryd.prog 115 64 (.int .u32 0) := ⟨⟨68, by kernel_rfl⟩, by kernel_rfl⟩

theorem under_bytes : Tryd.prog.underlying 28 = some (.slice 5) := by kernel_rfl
theorem size_byte : (Tryd.prog.info? 5).map (·.size) = some 1 := by kernel_rfl

/-- a text's first n bytes, and bytes 0 behind them -/
def blk (n : Nat) (l : List UInt8) : List Int := bytesI (l.take n) ++ List.replicate (n - (l.take n).length) 0
theorem blk_length (n : Nat) (l : List UInt8) : (blk n l).length = n := by simp [blk, bytesI]; omega
theorem blk_cells (n : Nat) (l : List UInt8) : bcells (l.take n) ++ (zrow n (.int .u8 0)).drop (l.take n).length = u8s (blk n l) := by
  rw [bcells_eq]; simp [zrow, blk, u8s]

set_option maxRecDepth 100000 in
set_option maxHeartbeats 400000 in
theorem prog_blockOf (s : ByteArray) (w : World) :
    Calls Tryd.prog 47 #[.string s] w fun r w' => r = .returned (.agg (u8s (blk 64 s.data.toList)).toArray) ∧ Below w.heap.size w w' := by
  have hcp := run_copyStr_made (P := Tryd.prog) (w.alloc (.cells (zrow 64 (.int .u8 0)).toArray 95)) 28 9 3 5 (w.heap.size + 1) 64 64 s (zrow 64 (.int .u8 0)) 95 (by simp) under_bytes size_byte (by rw [zrow_length]; omega)
  rw [blk_cells] at hcp
  have hl := blk_length 64 s.data.toList
  have HL : Hid ((blk 64 s.data.toList).length = 64) := hl
  clear hl
  generalize blk 64 s.data.toList = b at *
  go_enter Tryd.func47, Tryd.ntmps47
  go_wp2_with (first | refine wpList_allocR rfl 95 rfl 64 (.int .u8 0) arr64b ?_ | refine wpList_loadR rfl 95 _ rfl (w.heap.size + 1) rfl 95 (u8s b) 64 (.int .u8 0) (Row.made1 _ _ _ _) arr64b (by rw [u8s_length]; exact HL.out) ?_ | refine wpList_storeR rfl 95 _ _ rfl w.heap.size rfl (u8s b) rfl 95 (zrow 64 (.int .u8 0)) 64 (.int .u8 0) ((Row.made _ _ _).alloc _) arr64b (by rw [u8s_length]; exact HL.out) (zrow_length _ _) (u8s_one _) ?_)
  refine bodyPost_ret (v := .agg (u8s b).toArray) (results_row Tryd.results47 _ w.heap.size 95 (u8s b) 64 (.int .u8 0) rfl (Row.setRow ((Row.made _ _ _).alloc _) _) arr64b (by rw [u8s_length]; exact HL.out)) rfl ⟨rfl, ?_⟩
  exact below_setRow (((Below.refl _ _).alloc (Nat.le_refl _) _).alloc (by simp) _) (Nat.le_refl _) _
end Go.Proofs.YtaokemapkgggoaaDoor

namespace Go.Proofs.YtaokemapkgggoaaDoor
open Go.RowKit

/-- four bytes of a word, the highest first -/
def four (x : Int) : List Int := [x / 16777216, x / 65536 % 256, x / 256 % 256, x % 256]
def outTo (hs : List Int) (k : Nat) : List Int := (hs.take k).flatMap four ++ List.replicate (32 - 4 * k) 0
theorem flat_length (l : List Int) : (l.flatMap four).length = 4 * l.length := by
  induction l with
  | nil => rfl
  | cons a l ih => simp only [List.flatMap_cons, List.length_append, ih, List.length_cons]; simp [four]; omega
theorem outTo_length (hs : List Int) (k : Nat) (h : hs.length = 8) (hk : k ≤ 8) : (outTo hs k).length = 32 := by
  simp only [outTo, List.length_append, flat_length, List.length_replicate, List.length_take]; omega
theorem set_four (A : List Int) (m : Nat) (a b c d : Int) :
    ((((A ++ List.replicate (m + 4) 0).set A.length a).set (A.length + 1) b).set (A.length + 2) c).set (A.length + 3) d = A ++ [a, b, c, d] ++ List.replicate m 0 := by
  rw [List.set_append_right _ _ (Nat.le_refl _), List.set_append_right _ _ (by omega), List.set_append_right _ _ (by omega), List.set_append_right _ _ (by omega)]
  rw [show A.length - A.length = 0 by omega, show A.length + 1 - A.length = 1 by omega, show A.length + 2 - A.length = 2 by omega, show A.length + 3 - A.length = 3 by omega]
  simp [List.replicate_succ]
theorem outTo_set (hs : List Int) (k : Nat) (h : hs.length = 8) (hk : k < 8) :
    ((((outTo hs k).set (4 * k) (hs.getD k 0 / 16777216)).set (4 * k + 1) (hs.getD k 0 / 65536 % 256)).set (4 * k + 2) (hs.getD k 0 / 256 % 256)).set (4 * k + 3) (hs.getD k 0 % 256) = outTo hs (k + 1) := by
  have hl : ((hs.take k).flatMap four).length = 4 * k := by rw [flat_length, List.length_take]; omega
  have := set_four ((hs.take k).flatMap four) (32 - 4 * (k + 1)) (hs.getD k 0 / 16777216) (hs.getD k 0 / 65536 % 256) (hs.getD k 0 / 256 % 256) (hs.getD k 0 % 256)
  rw [hl, show 32 - 4 * (k + 1) + 4 = 32 - 4 * k by omega] at this
  unfold outTo
  rw [this]
  congr 1
  rw [List.take_succ_eq_append_getElem (by omega), List.flatMap_append]
  simp [four, List.getD, hk, h]

theorem run_indexAgg {P : Program} (w : World) (t e : TypeId) (n : Nat) (cs : List Value) (k : Nat) (v : Value) (hu : P.underlying t = some (.array n e)) (hs : (P.info? e).map (·.size) = some 1) (ha : P.underlying e = some (.int .u32))
    (hk : k < n) (hv : cs[k]? = some v) : (Instr.index t (.agg cs.toArray) (.int .i64 k)).run P w = .ok v w := by
  cases hq : P.info? e with
  | none => simp [hq] at hs
  | some i =>
    have hi : i.size = 1 := by simpa [hq] using hs
    simp [Instr.index, asIntOf, run_underlying hu, sizeOf, typeInfo, hq, hi, part, isAgg, run_underlying ha, hv]
    omega

theorem under8w : Tryd.prog.underlying 69 = some (.array 8 68) := by kernel_rfl
theorem under_w : Tryd.prog.underlying 68 = some (.int .u32) := by kernel_rfl
theorem size_w : (Tryd.prog.info? 68).map (·.size) = some 1 := by kernel_rfl


theorem run_sliceArr {P : Program} (w : World) (t e : TypeId) (n : Nat) (hu : P.underlying t = some (.array n e)) (hs : (P.info? e).map (·.size) = some 1) (g o l : Nat) (h : l < n) (i : Int) (hi : i = l) :
    (Instr.sliceAt t (.pointer (some ⟨g, o, none⟩)) (some (.int .i64 i)) none none).run P w = .ok (.slice (some ⟨g, o + l, none⟩) (n - l) (n - l)) w := by
  subst hi
  have ha : P.arrayLen t = n := by simp [Program.arrayLen, hu]
  have he : P.elem t = e := by simp [Program.elem, hu]
  have hu' : P.underlying t = some (.array (P.arrayLen t) (P.elem t)) := by rw [ha, he]; exact hu
  rw [run_sliceAt_array_l w t ⟨g, o, none⟩ hu' .i64 l (by omega) (by rw [ha]; omega), ha, he]
  cases hq : P.info? e with
  | none => simp [hq] at hs
  | some x =>
    have hx : x.size = 1 := by simpa [hq] using hs
    simp [sizeOf, typeInfo, hq, hx, slicedAt, Addr.add]
    rw [if_neg (by omega)]
    split <;> simp_all
theorem run_sliceArr2 {P : Program} (w : World) (t e : TypeId) (n : Nat) (hu : P.underlying t = some (.array n e)) (hs : (P.info? e).map (·.size) = some 1) (g o l m : Nat) (h : l < n) (hl : l ≤ m) (hm : m ≤ n) (i j : Int) (hi : i = l) (hj : j = m) :
    (Instr.sliceAt t (.pointer (some ⟨g, o, none⟩)) (some (.int .i64 i)) (some (.int .i64 j)) none).run P w = .ok (.slice (some ⟨g, o + l, none⟩) (m - l) (n - l)) w := by
  subst hi hj
  have ha : P.arrayLen t = n := by simp [Program.arrayLen, hu]
  have he : P.elem t = e := by simp [Program.elem, hu]
  have hu' : P.underlying t = some (.array (P.arrayLen t) (P.elem t)) := by rw [ha, he]; exact hu
  rw [run_sliceAt_array_lh w t ⟨g, o, none⟩ hu' .i64 .i64 l m (by omega) (by omega) (by rw [ha]; omega), ha, he]
  cases hq : P.info? e with
  | none => simp [hq] at hs
  | some x =>
    have hx : x.size = 1 := by simpa [hq] using hs
    simp [sizeOf, typeInfo, hq, hx, slicedAt, Addr.add]
    rw [if_neg (by omega)]
    split <;> simp_all
theorem row_src {w : World} {g : Nat} {cs : List Value} {t : TypeId} (h : Row w g cs t) : ∀ j v, cs[j]? = some v → w.cell? ((⟨g, 0, none⟩ : Addr).add j) = some v := by
  intro j v hv
  have hadd : (⟨g, 0, none⟩ : Addr).add j = ⟨g, j, none⟩ := by unfold Addr.add; split <;> simp_all
  rw [hadd, h.cell, hv]
theorem row_src_at {w : World} {g : Nat} {cs : List Value} {t : TypeId} (h : Row w g cs t) (o : Nat) : ∀ j v, (cs.drop o)[j]? = some v → w.cell? ((⟨g, o, none⟩ : Addr).add j) = some v := by
  intro j v hv
  have e : (⟨g, o, none⟩ : Addr).add j = ⟨g, o + j, none⟩ := by unfold Addr.add; split <;> simp_all
  rw [e, h.cell, ← List.getElem?_drop]; exact hv
theorem under32b : Tryd.prog.underlying 24 = some (.array 32 5) := by kernel_rfl
theorem build4 : Tryd.prog.underlying 118 = some (.array 4 5) := by kernel_rfl

set_option maxRecDepth 100000 in
set_option maxHeartbeats 400000 in
theorem prog_fourBytes (x : Int) (w : World) (hx : isW x) :
    Calls Tryd.prog 63 #[.int .u32 x] w fun r w' => r = .returned (.agg (u8s (four x)).toArray) ∧ Below w.heap.size w w' := by
  obtain ⟨hx0, hx1⟩ := hx
  go_enter Tryd.func63, Tryd.ntmps63
  go_wp2_with (first | (refine wpList_allocR rfl 118 rfl 4 (.int .u8 0) arr4b ?_; go_simp) | (refine wpList_storeM rfl 118 _ _ rfl _ rfl rfl (u8s (four x)) rfl 118 _ 4 (.int .u8 0) arr4b rfl (zrow_length _ _) (u8s_one _) ?_; go_simp))
  exact bodyPost_ret (v := .agg (u8s (four x)).toArray) (results_row Tryd.results63 _ w.heap.size 118 (u8s (four x)) 4 (.int .u8 0) rfl (Row.made _ _ _) arr4b rfl) rfl ⟨rfl, (Below.refl _ _).alloc (Nat.le_refl _) _⟩

theorem outTo_splice (hs : List Int) (k : Nat) (h : hs.length = 8) (hk : k < 8) : splice (u8s (outTo hs k)) (4 * k) (u8s (four (hs.getD k 0))) = u8s (outTo hs (k + 1)) := by
  have hl : ((hs.take k).flatMap four).length = 4 * k := by rw [flat_length, List.length_take]; omega
  unfold splice
  rw [show (u8s (four (hs.getD k 0))).length = 4 from rfl]
  simp only [u8s, ← List.map_take, ← List.map_drop, ← List.map_append]
  congr 1
  unfold outTo
  rw [List.take_append_of_le_length (by omega), List.take_of_length_le (by omega), List.drop_append, hl, List.drop_eq_nil_of_le (by omega), List.nil_append, List.drop_replicate]
  rw [List.take_succ_eq_append_getElem (by omega), List.flatMap_append, List.append_assoc]
  rw [show 32 - 4 * k - (4 * k + 4 - 4 * k) = 32 - 4 * (k + 1) by omega]
  simp [List.getD, hk, h]

set_option maxRecDepth 100000 in
set_option maxHeartbeats 400000 in
theorem prog_bytesOf (hs : List Int) (w : World) (hl : hs.length = 8) (hw : ∀ x ∈ hs, isW x) :
    Calls Tryd.prog 48 #[.agg (u32s hs).toArray] w fun r w' => r = .returned (.agg (u8s (hs.flatMap four)).toArray) ∧ Below w.heap.size w w' := by
  have HL : Hid (hs.length = 8) := hl
  clear hl
  go_enter Tryd.func48, Tryd.ntmps48
  go_wp2_with (first | refine wpList_allocR rfl 24 rfl 32 (.int .u8 0) arr32b ?_ | refine wpList_boxR rfl 69 _ rfl (u32s hs) rfl ?_ | refine wpList_loadR rfl 69 _ rfl w.heap.size rfl 69 (u32s hs) 8 (.int .u32 0) (((Row.made _ _ _).alloc _).alloc _) arr8w (by rw [u32s_length]; exact HL.out) ?_)
  go_loopw [8] (fun c wr => ∃ k : Nat, k ≤ 8 ∧ c = .int .i64 k ∧ Row wr (w.heap.size + 1 + 1) (u8s (outTo hs k)) 24 ∧ Below (w.heap.size + 1 + 1) ((w.alloc (.cells (u32s hs).toArray 69)).alloc (.cells (zrow 32 (.int .u8 0)).toArray 24)) wr)
    (fun c _ => 8 - (intOf c).toNat)
  case atStart =>
    refine ⟨0, by omega, rfl, ?_, ?_⟩
    · have := Row.made1 (w.alloc (.cells (u32s hs).toArray 69)) (.cells (zrow 32 (.int .u8 0)).toArray 24) (zrow 32 (.int .u8 0)) 24
      rw [World.size_alloc, zrow_u8] at this
      simpa [outTo, zrow_u8] using this
    · exact (Below.refl _ _).alloc (by simp) _
  case round =>
    obtain ⟨k, hk, rfl, hR, hB⟩ := hrel
    by_cases hlt : k < 8
    · have hlen := outTo_length hs k HL.out (by omega)
      have hix := fun wx => run_indexAgg (P := Tryd.prog) wx 69 68 8 (u32s hs) k (.int .u32 (hs.getD k 0)) under8w size_w under_w hlt (u32s_get _ _ (by rw [HL.out]; exact hlt))
      have hx : isW (hs.getD k 0) := by
        have : hs.getD k 0 = hs[k]'(by rw [HL.out]; exact hlt) := by simp [List.getD, HL.out, hlt]
        rw [this]; exact hw _ (List.getElem_mem _)
      have HS : Hid _ := outTo_splice hs k HL.out hlt
      have HLen : Hid _ := hlen
      clear hlen
      generalize hs.getD k 0 = x at *
      go_wp2_with (first | (go_at_call 63; refine (prog_fourBytes _ _ hx).mono ?_; rintro _ w1 ⟨rfl, hb1⟩; have a2 := hR.below hb1 hR.lt; have aw := hB.trans (hb1.mono (by have := hR.lt; omega)); have HFL : Hid ((u8s (four x)).length = 4) := rfl; have HFO := u8s_one (four x); generalize u8s (four x) = fx at *) | (refine wpList_allocR rfl 118 rfl 4 (.int .u8 0) arr4b ?_; go_simp) | (refine wpList_storeMA rfl 118 _ _ rfl _ rfl rfl fx rfl 118 _ 4 (.int .u8 0) arr4b HFL.out (zrow_length _ _) HFO ?_; intro w3 hr5 hb3; have c2 := a2.below hb3 a2.lt; have cw := aw.trans (hb3.mono (by have := a2.lt; omega)); go_simp))
      have HM4 : Hid (fx.length = Nat.min 4 (32 - 4 * k)) := by show _ = _; rw [HFL.out]; exact (Nat.min_eq_left (by omega)).symm
      have hw4 : IntKind.i64.wrap (4 * (k : Int)) = 4 * (k : Int) := by simp only [IntKind.wrap, IntKind.bits, IntKind.signed]; simp; omega
      have hsl := fun wx => run_sliceArr (P := Tryd.prog) wx 24 5 32 under32b size_byte (w.heap.size + 1 + 1) 0 (4 * k) (by omega) (4 * (k : Int)) (by omega)
      go_region_law (refine step_copy_splice rfl (.tmp 16) (.tmp 17) 28 28 rfl 5 under_bytes size_byte (some ⟨w.heap.size + 1 + 1, 4 * k, none⟩) (some ⟨w1.heap.size, 0, none⟩) (32 - 4 * k) (32 - 4 * k) 4 4 rfl rfl (w.heap.size + 1 + 1) (4 * k) (u8s (outTo hs k)) 24 c2 fx HM4.out (fun _ => ⟨rfl, _, rfl, row_src (show Row _ _ _ _ from hr5)⟩) (by rw [HFL.out, u8s_length, HLen.out]; omega) HFO (w.heap.size + 1 + 1) _ (Below.refl _ _) (Nat.le_refl _) ?_; intro w6 hg6 hb6)
      have g6 : Row w6 (w.heap.size + 1 + 1) (u8s (outTo hs (k + 1))) 24 := by have := hg6.out; rw [HS.out] at this; exact this
      have gw := cw.drew.trans hb6
      clear hg6 hb6 c2 cw hr5 hb3 a2 aw hb1 hB hR
      go_wp2
      exact ⟨⟨k + 1, by omega, by go_num, g6, gw⟩, by simp [intOf]; omega⟩
    · have hk8 : k = 8 := by omega
      subst hk8
      have e8 : outTo hs 8 = hs.flatMap four := by
        have h8 := HL.out
        simp [outTo, List.take_of_length_le (show hs.length ≤ 8 by omega)]
      rw [e8] at hR
      have hlen : (u8s (hs.flatMap four)).length = 32 := by rw [u8s_length, flat_length, HL.out]
      have HLen : Hid _ := hlen
      clear hlen
      have hO : Row wr (w.heap.size + 1) (zrow 32 (.int .u8 0)) 24 := (Row.made1 w _ _ _).below hB (Nat.lt_succ_self _)
      go_wp2_with (first | refine wpList_loadR rfl 24 _ rfl (w.heap.size + 1 + 1) rfl 24 (u8s (hs.flatMap four)) 32 (.int .u8 0) hR arr32b HLen.out ?_ | refine wpList_storeR rfl 24 _ _ rfl (w.heap.size + 1) rfl (u8s (hs.flatMap four)) rfl 24 (zrow 32 (.int .u8 0)) 32 (.int .u8 0) hO arr32b HLen.out (zrow_length _ _) (u8s_one _) ?_)
      refine bodyPost_ret (v := .agg (u8s (hs.flatMap four)).toArray) (results_row Tryd.results48 _ (w.heap.size + 1) 24 (u8s (hs.flatMap four)) 32 (.int .u8 0) rfl (Row.setRow hO _) arr32b HLen.out) rfl ⟨rfl, ?_⟩
      exact below_setRow ((((Below.refl _ _).alloc (Nat.le_refl _) _).alloc (by simp) _).trans (hB.mono (by omega))) (by omega) _
end Go.Proofs.YtaokemapkgggoaaDoor

namespace Go.Proofs.YtaokemapkgggoaaDoor
open Go.RowKit

theorem results_row2 {P : Program} {fn : Func} {p u : Tmp} {ty : TypeId} (hf : fn.results = #[.cell p ty, .tmp u]) (tmps : Array Value) (w : World) (g : Nat) (t : TypeId) (cs : List Value) (n : Nat) (z v : Value)
    (hp : tmps.getD p undef = .pointer (some ⟨g, 0, none⟩)) (hu : tmps.getD u undef = v) (hr : Row w g cs t) (ht : ArrT P ty n z) (hn : cs.length = n) : (results fn tmps).run P w = .ok (.tuple #[.agg cs.toArray, v]) w := by
  obtain ⟨e, hue⟩ := ht.u
  have hl := run_loadVar_row (P := P) w g t ty cs.toArray (0, 0) _ hr hue rfl (by rw [ht.size]; simp [hn])
  rw [results_cell_tmp hf, hp, hu]
  simp [asAddr, hl]

/-- a field of n cells with a text in it: its length, its bytes, bytes 0 -/
def fieldOf (n : Nat) (l : List UInt8) : List Int := (l.length : Int) :: blk (n - 1) l
theorem fieldOf_length (n : Nat) (l : List UInt8) (h : 1 ≤ n) : (fieldOf n l).length = n := by simp [fieldOf, blk_length]; omega
theorem field_cells (n : Nat) (l : List UInt8) (h : l.length < n) :
    ((zrow n (.int .u8 0)).set 0 (.int .u8 (l.length : Int))).take 1 ++ Lib.byteCells l ++ ((zrow n (.int .u8 0)).set 0 (.int .u8 (l.length : Int))).drop (1 + l.length) = u8s (fieldOf n l) := by
  obtain ⟨m, rfl⟩ : ∃ m, n = m + 1 := ⟨n - 1, by omega⟩
  have e : zrow (m + 1) (.int .u8 0) = .int .u8 0 :: zrow m (.int .u8 0) := by simp [zrow, List.replicate_succ]
  rw [e, List.set_cons_zero, Nat.add_comm 1]
  simp only [List.take_succ_cons, List.take_zero, List.drop_succ_cons]
  have hl : l.take m = l := List.take_of_length_le (by omega)
  simp [fieldOf, blk, hl, u8s, bytesI, zrow, Lib.byteCells]

set_option maxRecDepth 100000 in
set_option maxHeartbeats 400000 in
theorem prog_fill_no (s : ByteArray) (w : World) (p : Option Addr) (n : Nat) (h : n ≤ s.size) :
    Calls Tryd.prog 44 #[.slice p n n, .string s] w fun r w' => r = .returned (.bool false) ∧ w' = w := by
  have h' : (n : Int) ≤ s.size := by omega
  go_enter Tryd.func44, Tryd.ntmps44
  go_wp2
  go_ret
  exact ⟨rfl, rfl⟩

set_option maxRecDepth 100000 in
set_option maxHeartbeats 400000 in
theorem prog_fill_yes (s : ByteArray) (w : World) (g n : Nat) (t : TypeId) (hR : Row w g (zrow n (.int .u8 0)) t) (h : s.size < n) (hn : n ≤ 100) (h2 : 2 ≤ n) :
    Calls Tryd.prog 44 #[.slice (some ⟨g, 0, none⟩) n n, .string s] w fun r w' => r = .returned (.bool true) ∧ Row w' g (u8s (fieldOf n s.data.toList)) t ∧ Below g w w' := by
  have h' : ¬ (n : Int) ≤ s.size := by omega
  have h1n : ¬ n = 1 := by omega
  have hc : w.cell? ⟨g, 0, none⟩ = some (.int .u8 0) := by rw [hR.cell]; unfold zrow; rw [List.getElem?_replicate, if_pos (by omega)]
  have hf := hR.frozen 0
  have hR' := hR.setCell 0 (.int .u8 (s.size : Int))
  have hsz : s.size = s.data.toList.length := by rw [Array.length_toList]; rfl
  have hcp := Lib.run_copy_row_string (P := Tryd.prog) (w.setCell ⟨g, 0, none⟩ (.int .u8 (s.size : Int))) 28 9 3 5 g 1 (n - 1) (n - 1) s _ t under_bytes size_byte hR' (by omega) (by simp [zrow]; omega)
  rw [List.toList_toArray, hsz, field_cells n s.data.toList (by omega), ← hsz] at hcp
  clear hsz
  go_enter Tryd.func44, Tryd.ntmps44
  go_wp2
  go_ret
  exact ⟨rfl, hR'.setRow _, below_setRow ((Below.refl g w).setCell (Nat.le_refl g) _) (Nat.le_refl g) _⟩

set_option maxRecDepth 100000 in
set_option maxHeartbeats 1000000 in
theorem prog_keyOf_no (s : ByteArray) (w : World) (hs : 20 < s.size) :
    Calls Tryd.prog 31 #[.string s] w fun r w' => r = .returned (.tuple #[.agg (zrow 21 (.int .u8 0)).toArray, .bool false]) ∧ Below w.heap.size w w' := by
  go_enter Tryd.func31, Tryd.ntmps31
  go_wp2_with (first | (refine wpList_allocR rfl 63 rfl 21 (.int .u8 0) arr21b ?_; go_simp) | (go_at_call 44; refine (prog_fill_no s _ _ 21 (by omega)).mono ?_; rintro _ _ ⟨rfl, rfl⟩) | (refine wpList_loadR rfl 63 _ rfl (w.heap.size + 1) rfl 63 (zrow 21 (.int .u8 0)) 21 (.int .u8 0) (Row.made1 _ _ _ _) arr21b (zrow_length _ _) ?_; go_simp) | (refine wpList_storeR rfl 63 _ _ rfl w.heap.size rfl (zrow 21 (.int .u8 0)) rfl 63 (zrow 21 (.int .u8 0)) 21 (.int .u8 0) ((Row.made _ _ _).alloc _) arr21b (zrow_length _ _) (zrow_length _ _) (by rw [zrow_u8]; exact u8s_one _) ?_; go_simp))
  refine bodyPost_ret (v := .tuple #[.agg (zrow 21 (.int .u8 0)).toArray, .bool false]) (results_row2 Tryd.results31 _ _ w.heap.size 63 (zrow 21 (.int .u8 0)) 21 (.int .u8 0) (.bool false) rfl rfl (Row.setRow ((Row.made _ _ _).alloc _) _) arr21b (zrow_length _ _)) rfl ⟨rfl, ?_⟩
  exact below_setRow (((Below.refl _ _).alloc (Nat.le_refl _) _).alloc (by simp) _) (Nat.le_refl _) _

set_option maxRecDepth 100000 in
set_option maxHeartbeats 1000000 in
theorem prog_keyOf_yes (s : ByteArray) (w : World) (h2 : s.size ≤ 20) :
    Calls Tryd.prog 31 #[.string s] w fun r w' => r = .returned (.tuple #[.agg (u8s (fieldOf 21 s.data.toList)).toArray, .bool true]) ∧ Below w.heap.size w w' := by
  obtain ⟨b, HB⟩ : ∃ b, Hid (b = fieldOf 21 s.data.toList) := ⟨_, rfl⟩
  have HL : Hid ((u8s b).length = 21) := by show _ = _; rw [HB.out, u8s_length, fieldOf_length _ _ (by omega)]
  go_enter Tryd.func31, Tryd.ntmps31
  go_wp2_with (first | (refine wpList_allocR rfl 63 rfl 21 (.int .u8 0) arr21b ?_; go_simp) | (go_at_call 44; refine (prog_fill_yes s _ (w.heap.size + 1) 21 63 (Row.made1 _ _ _ _) (by omega) (by omega) (by omega)).mono ?_; rintro _ w1 ⟨rfl, hr1, hb1⟩; rw [← HB.out] at hr1; have ho : Row w1 w.heap.size (zrow 21 (.int .u8 0)) 63 := ((Row.made w _ _).alloc _).below hb1 (Nat.lt_succ_self _); have hw : Below w.heap.size w w1 := (((Below.refl _ _).alloc (Nat.le_refl _) _).alloc (by simp) _).trans (hb1.mono (Nat.le_succ _)); clear hb1) | (refine wpList_loadR rfl 63 _ rfl (w.heap.size + 1) rfl 63 (u8s b) 21 (.int .u8 0) hr1 arr21b HL.out ?_; go_simp) | (refine wpList_storeR rfl 63 _ _ rfl w.heap.size rfl (u8s b) rfl 63 (zrow 21 (.int .u8 0)) 21 (.int .u8 0) ho arr21b HL.out (zrow_length _ _) (u8s_one _) ?_; go_simp))
  refine bodyPost_ret (v := .tuple #[.agg (u8s b).toArray, .bool true]) (results_row2 Tryd.results31 _ _ w.heap.size 63 (u8s b) 21 (.int .u8 0) (.bool true) rfl rfl (Row.setRow ho _) arr21b HL.out) rfl ⟨by rw [HB.out], ?_⟩
  exact below_setRow hw (Nat.le_refl _) _

set_option maxRecDepth 100000 in
set_option maxHeartbeats 400000 in
/-- no key: by its length -/
theorem prog_none_yes (w : World) (g o : Nat) (hc : w.cell? ⟨g, o, none⟩ = some (.int .u8 0)) :
    Calls Tryd.prog 32 #[.pointer (some ⟨g, o, none⟩)] w fun r w' => r = .returned (.bool true) ∧ w' = w := by
  go_enter Tryd.func32, Tryd.ntmps32
  go_wp2
  go_ret
  exact ⟨rfl, rfl⟩

set_option maxRecDepth 100000 in
set_option maxHeartbeats 400000 in
theorem prog_none_no (w : World) (g o : Nat) (x : Int) (hx : ¬ x = 0) (hc : w.cell? ⟨g, o, none⟩ = some (.int .u8 x)) :
    Calls Tryd.prog 32 #[.pointer (some ⟨g, o, none⟩)] w fun r w' => r = .returned (.bool false) ∧ w' = w := by
  go_enter Tryd.func32, Tryd.ntmps32
  go_wp2
  go_ret
  exact ⟨by simp [hx], rfl⟩
end Go.Proofs.YtaokemapkgggoaaDoor

namespace Go.Proofs.YtaokemapkgggoaaDoor
open Go.RowKit

theorem u32_xor_w {a b : Int} (ha : isW a) (hb : isW b) : bits .xor .u32 a b = xr a b := u32_xor a b ha.1 ha.2 hb.1 hb.2
theorem u32_and_w {a b : Int} (ha : isW a) (hb : isW b) : bits .and .u32 a b = an a b := u32_and a b ha.1 ha.2 hb.1 hb.2
theorem u32_not_w {a : Int} (ha : isW a) : bits .xor .u32 IntKind.u32.max a = 4294967295 - a := by
  rw [show IntKind.u32.max = 4294967295 from rfl, u32_xor _ _ (by omega) (by omega) ha.1 ha.2]
  obtain ⟨h0, h1⟩ := ha
  obtain ⟨x, rfl⟩ := Int.eq_ofNat_of_zero_le h0
  have hx : x < 4294967296 := by omega
  have : (4294967295 : Nat) ^^^ x = 4294967295 - x := by
    have h1 : ((BitVec.allOnes 32) ^^^ (BitVec.ofNat 32 x)).toNat = 4294967295 - x := by
      rw [BitVec.allOnes_xor, BitVec.toNat_not, BitVec.toNat_ofNat]
      rw [Nat.mod_eq_of_lt (by omega)]
    have h2 : ((BitVec.allOnes 32) ^^^ (BitVec.ofNat 32 x)).toNat = 4294967295 ^^^ x := by
      rw [BitVec.toNat_xor, BitVec.toNat_ofNat, Nat.mod_eq_of_lt (by omega), BitVec.toNat_allOnes]
    rw [← h2, h1]
  show (((4294967295 : Int).toNat ^^^ (x : Int).toNat : Nat) : Int) = _
  rw [Int.toNat_natCast, show (4294967295 : Int).toNat = 4294967295 from rfl, this]
  omega

set_option maxHeartbeats 400000 in
theorem prog_step (a b c d e f g h1 kw : Int) (w : World) (ha : isW a) (hb : isW b) (hc : isW c) (he : isW e) (hf : isW f) (hg : isW g) :
    Calls Tryd.prog 62 #[.agg #[.int .u32 a, .int .u32 b, .int .u32 c, .int .u32 d, .int .u32 e, .int .u32 f, .int .u32 g, .int .u32 h1], .int .u32 kw] w fun r w' =>
      r = .returned (.agg #[.int .u32 ((h1 + bigE e + choose e f g + kw + (bigA a + most a b c)) % 4294967296), .int .u32 a, .int .u32 b, .int .u32 c, .int .u32 ((d + (h1 + bigE e + choose e f g + kw)) % 4294967296), .int .u32 e, .int .u32 f, .int .u32 g]) ∧ Below w.heap.size w w' := by
  have e1 : bits .xor .u32 (bits .xor .u32 (rr 6 e) (rr 11 e)) (rr 25 e) = bigE e := by
    rw [u32_xor_w (rr_w 6 (by omega) he) (rr_w 11 (by omega) he), u32_xor_w (xr_w (rr_w 6 (by omega) he) (rr_w 11 (by omega) he)) (rr_w 25 (by omega) he)]; rfl
  have e2 : bits .xor .u32 (bits .and .u32 e f) (bits .and .u32 (bits .xor .u32 IntKind.u32.max e) g) = choose e f g := by
    rw [u32_not_w he, u32_and_w he hf, u32_and_w (a := 4294967295 - e) (by unfold isW at *; omega) hg, u32_xor_w (an_w hf) (an_w hg)]; rfl
  have e3 : bits .xor .u32 (bits .xor .u32 (rr 2 a) (rr 13 a)) (rr 22 a) = bigA a := by
    rw [u32_xor_w (rr_w 2 (by omega) ha) (rr_w 13 (by omega) ha), u32_xor_w (xr_w (rr_w 2 (by omega) ha) (rr_w 13 (by omega) ha)) (rr_w 22 (by omega) ha)]; rfl
  have e4 : bits .xor .u32 (bits .xor .u32 (bits .and .u32 a b) (bits .and .u32 a c)) (bits .and .u32 b c) = most a b c := by
    rw [u32_and_w ha hb, u32_and_w ha hc, u32_and_w hb hc, u32_xor_w (an_w hb) (an_w hc), u32_xor_w (xr_w (an_w hb) (an_w hc)) (an_w hc)]; rfl
  go_enter Tryd.func62, Tryd.ntmps62
  go_wp2
  go_quiet (fail)
  go_wp2_with (go_at_call 72; refine (prog_right _ _ _ (by assumption) (by omega) (by omega)).mono ?_; rintro _ _ ⟨rfl, rfl⟩)
  refine bodyPost_ret (v := .agg #[.int .u32 ((h1 + bigE e + choose e f g + kw + (bigA a + most a b c)) % 4294967296), .int .u32 a, .int .u32 b, .int .u32 c, .int .u32 ((d + (h1 + bigE e + choose e f g + kw)) % 4294967296), .int .u32 e, .int .u32 f, .int .u32 g]) (by simp [results, Tryd.results62, go_sem]) rfl ⟨rfl, ?_⟩
  have hb0 : Below w.heap.size w (((w.alloc (.cells #[.int .u32 a, .int .u32 b, .int .u32 c, .int .u32 d, .int .u32 e, .int .u32 f, .int .u32 g, .int .u32 h1] 69)).alloc (.cells #[.int .u32 0, .int .u32 0, .int .u32 0, .int .u32 0, .int .u32 0, .int .u32 0, .int .u32 0, .int .u32 0] 69)).drewN nq) :=
    below_drewN (((Below.refl _ _).alloc (Nat.le_refl _) _).alloc (by simp) _) _
  exact (((((((hb0.setCell (Nat.le_succ _) _).setCell (Nat.le_succ _) _).setCell (Nat.le_succ _) _).setCell (Nat.le_succ _) _).setCell (Nat.le_succ _) _).setCell (Nat.le_succ _) _).setCell (Nat.le_succ _) _).setCell (Nat.le_succ _) _
end Go.Proofs.YtaokemapkgggoaaDoor
