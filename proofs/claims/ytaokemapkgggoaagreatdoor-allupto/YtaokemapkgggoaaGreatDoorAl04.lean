import Derived.Test.YtaokemapkgggoaaGreatDoorAl03
import Derived.Deep.RegionLaw
import Derived.Deep.MidRow
import Derived.Laws.BytesArg
import Derived.Lib.BufferWrite
import Derived.Deep.RegionHeld3
namespace Go.Proofs.YtaokemapkgggoaaGreatDoor
open Go.RowKit

/-- four bytes of a word, the highest first -/
def four (x : Int) : List Int := [x / 16777216, x / 65536 % 256, x / 256 % 256, x % 256]
def outTo (hs : List Int) (k : Nat) : List Int := (hs.take k).flatMap four ++ List.replicate (32 - 4 * k) 0
theorem flat_length (l : List Int) : (l.flatMap four).length = 4 * l.length := by
  induction l with
  | nil => rfl
  | cons a l ih => simp only [List.flatMap_cons, List.length_append, ih, List.length_cons]; simp [four]; omega
theorem outTo_length (hs : List Int) (k : Nat) (h : hs.length = 8) (hk : k ≤ 8) : (outTo hs k).length = 32 := by
  simp only [outTo, List.length_append, flat_length, List.length_replicate, List.length_take]; omega
theorem run_indexAgg {P : Program} (w : World) (t e : TypeId) (n : Nat) (cs : List Value) (k : Nat) (v : Value) (hu : P.underlying t = some (.array n e)) (hs : (P.info? e).map (·.size) = some 1) (ha : P.underlying e = some (.int .u32))
    (hk : k < n) (hv : cs[k]? = some v) : (Instr.index t (.agg cs.toArray) (.int .i64 k)).run P w = .ok v w := by
  cases hq : P.info? e with
  | none => simp [hq] at hs
  | some i =>
    have hi : i.size = 1 := by simpa [hq] using hs
    simp [Instr.index, asIntOf, run_underlying hu, sizeOf, typeInfo, hq, hi, part, isAgg, run_underlying ha, hv]
    omega

theorem under8w : Tryz.prog.underlying 76 = some (.array 8 75) := by kernel_rfl
theorem under_w : Tryz.prog.underlying 75 = some (.int .u32) := by kernel_rfl
theorem size_w : (Tryz.prog.info? 75).map (·.size) = some 1 := by kernel_rfl

theorem run_sliceArr {P : Program} (w : World) (t e : TypeId) (n : Nat) (hu : P.underlying t = some (.array n e)) (hs : (P.info? e).map (·.size) = some 1) (g o l : Nat) (h : l < n) (i : Int) (hi : i = l) :
    (Instr.sliceAt t (.pointer (some ⟨g, o, none⟩)) (some (.int .i64 i)) none none).run P w = .ok (.slice (some ⟨g, o + l, none⟩) (n - l) (n - l)) w := by
  subst hi
  have ha : P.arrayLen t = n := by simp [Program.arrayLen, hu]
  have he : P.elem t = e := by simp [Program.elem, hu]
  have hu' : P.underlying t = some (.array (P.arrayLen t) (P.elem t)) := by rw [ha, he]; exact hu
  rw [run_sliceAt_array_l w t ⟨g, o, none⟩ hu' .i64 l (by omega) (by rw [ha]; omega), ha, he]
  cases hq : P.info? e with
  | none => simp [hq] at hs
  | some x =>
    have hx : x.size = 1 := by simpa [hq] using hs
    simp [sizeOf, typeInfo, hq, hx, slicedAt, Addr.add]
    rw [if_neg (by omega)]
    split <;> simp_all
theorem run_sliceArr2 {P : Program} (w : World) (t e : TypeId) (n : Nat) (hu : P.underlying t = some (.array n e)) (hs : (P.info? e).map (·.size) = some 1) (g o l m : Nat) (h : l < n) (hl : l ≤ m) (hm : m ≤ n) (i j : Int) (hi : i = l) (hj : j = m) :
    (Instr.sliceAt t (.pointer (some ⟨g, o, none⟩)) (some (.int .i64 i)) (some (.int .i64 j)) none).run P w = .ok (.slice (some ⟨g, o + l, none⟩) (m - l) (n - l)) w := by
  subst hi hj
  have ha : P.arrayLen t = n := by simp [Program.arrayLen, hu]
  have he : P.elem t = e := by simp [Program.elem, hu]
  have hu' : P.underlying t = some (.array (P.arrayLen t) (P.elem t)) := by rw [ha, he]; exact hu
  rw [run_sliceAt_array_lh w t ⟨g, o, none⟩ hu' .i64 .i64 l m (by omega) (by omega) (by rw [ha]; omega), ha, he]
  cases hq : P.info? e with
  | none => simp [hq] at hs
  | some x =>
    have hx : x.size = 1 := by simpa [hq] using hs
    simp [sizeOf, typeInfo, hq, hx, slicedAt, Addr.add]
    rw [if_neg (by omega)]
    split <;> simp_all
theorem row_src {w : World} {g : Nat} {cs : List Value} {t : TypeId} (h : Row w g cs t) : ∀ j v, cs[j]? = some v → w.cell? ((⟨g, 0, none⟩ : Addr).add j) = some v := by
  intro j v hv
  have hadd : (⟨g, 0, none⟩ : Addr).add j = ⟨g, j, none⟩ := by unfold Addr.add; split <;> simp_all
  rw [hadd, h.cell, hv]
theorem row_src_at {w : World} {g : Nat} {cs : List Value} {t : TypeId} (h : Row w g cs t) (o : Nat) : ∀ j v, (cs.drop o)[j]? = some v → w.cell? ((⟨g, o, none⟩ : Addr).add j) = some v := by
  intro j v hv
  have e : (⟨g, o, none⟩ : Addr).add j = ⟨g, o + j, none⟩ := by unfold Addr.add; split <;> simp_all
  rw [e, h.cell, ← List.getElem?_drop]; exact hv
theorem under32b : Tryz.prog.underlying 47 = some (.array 32 5) := by kernel_rfl
set_option maxRecDepth 100000 in
set_option maxHeartbeats 400000 in
theorem prog_fourBytes (x : Int) (w : World) (hx : isW x) :
    Calls Tryz.prog 87 #[.int .u32 x] w fun r w' => r = .returned (.agg (u8s (four x)).toArray) ∧ Below w.heap.size w w' := by
  obtain ⟨hx0, hx1⟩ := hx
  go_enter Tryz.func87, Tryz.ntmps87
  go_wp2_with (first | (refine wpList_allocR rfl 144 rfl 4 (.int .u8 0) arr4b ?_; go_simp) | (refine wpList_storeM rfl 144 _ _ rfl _ rfl rfl (u8s (four x)) rfl 144 _ 4 (.int .u8 0) arr4b rfl (zrow_length _ _) (u8s_one _) ?_; go_simp))
  exact bodyPost_ret (v := .agg (u8s (four x)).toArray) (results_row Tryz.results87 _ w.heap.size 144 (u8s (four x)) 4 (.int .u8 0) rfl (Row.made _ _ _) arr4b rfl) rfl ⟨rfl, (Below.refl _ _).alloc (Nat.le_refl _) _⟩

theorem outTo_splice (hs : List Int) (k : Nat) (h : hs.length = 8) (hk : k < 8) : splice (u8s (outTo hs k)) (4 * k) (u8s (four (hs.getD k 0))) = u8s (outTo hs (k + 1)) := by
  have hl : ((hs.take k).flatMap four).length = 4 * k := by rw [flat_length, List.length_take]; omega
  unfold splice
  rw [show (u8s (four (hs.getD k 0))).length = 4 from rfl]
  simp only [u8s, ← List.map_take, ← List.map_drop, ← List.map_append]
  congr 1
  unfold outTo
  rw [List.take_append_of_le_length (by omega), List.take_of_length_le (by omega), List.drop_append, hl, List.drop_eq_nil_of_le (by omega), List.nil_append, List.drop_replicate]
  rw [List.take_succ_eq_append_getElem (by omega), List.flatMap_append, List.append_assoc]
  rw [show 32 - 4 * k - (4 * k + 4 - 4 * k) = 32 - 4 * (k + 1) by omega]
  simp [List.getD, hk, h]

set_option maxRecDepth 100000 in
set_option maxHeartbeats 400000 in
theorem prog_bytesOf (hs : List Int) (w : World) (hl : hs.length = 8) (hw : ∀ x ∈ hs, isW x) :
    Calls Tryz.prog 66 #[.agg (u32s hs).toArray] w fun r w' => r = .returned (.agg (u8s (hs.flatMap four)).toArray) ∧ Below w.heap.size w w' := by
  have HL : Hid (hs.length = 8) := hl
  clear hl
  go_enter Tryz.func66, Tryz.ntmps66
  go_wp2_with (first | refine wpList_allocR rfl 47 rfl 32 (.int .u8 0) arr32b ?_ | refine wpList_boxR rfl 76 _ rfl (u32s hs) rfl ?_ | refine wpList_loadR rfl 76 _ rfl w.heap.size rfl 76 (u32s hs) 8 (.int .u32 0) (((Row.made _ _ _).alloc _).alloc _) arr8w (by rw [u32s_length]; exact HL.out) ?_)
  go_loopw [8] (fun c wr => ∃ k : Nat, k ≤ 8 ∧ c = .int .i64 k ∧ Row wr (w.heap.size + 1 + 1) (u8s (outTo hs k)) 47 ∧ Below (w.heap.size + 1 + 1) ((w.alloc (.cells (u32s hs).toArray 76)).alloc (.cells (zrow 32 (.int .u8 0)).toArray 47)) wr)
    (fun c _ => 8 - (intOf c).toNat)
  case atStart =>
    refine ⟨0, by omega, rfl, ?_, ?_⟩
    · have := Row.made1 (w.alloc (.cells (u32s hs).toArray 76)) (.cells (zrow 32 (.int .u8 0)).toArray 47) (zrow 32 (.int .u8 0)) 47
      rw [World.size_alloc, zrow_u8] at this
      simpa [outTo, zrow_u8] using this
    · exact (Below.refl _ _).alloc (by simp) _
  case round =>
    obtain ⟨k, hk, rfl, hR, hB⟩ := hrel
    by_cases hlt : k < 8
    · have hlen := outTo_length hs k HL.out (by omega)
      have hix := fun wx => run_indexAgg (P := Tryz.prog) wx 76 75 8 (u32s hs) k (.int .u32 (hs.getD k 0)) under8w size_w under_w hlt (u32s_get _ _ (by rw [HL.out]; exact hlt))
      have hx : isW (hs.getD k 0) := by
        have : hs.getD k 0 = hs[k]'(by rw [HL.out]; exact hlt) := by simp [List.getD, HL.out, hlt]
        rw [this]; exact hw _ (List.getElem_mem _)
      have HS : Hid _ := outTo_splice hs k HL.out hlt
      have HLen : Hid _ := hlen
      clear hlen
      generalize hs.getD k 0 = x at *
      go_wp2_with (first | (go_at_call 87; refine (prog_fourBytes _ _ hx).mono ?_; rintro _ w1 ⟨rfl, hb1⟩; have a2 := hR.below hb1 hR.lt; have aw := hB.trans (hb1.mono (by have := hR.lt; omega)); have HFL : Hid ((u8s (four x)).length = 4) := rfl; have HFO := u8s_one (four x); generalize u8s (four x) = fx at *) | (refine wpList_allocR rfl 144 rfl 4 (.int .u8 0) arr4b ?_; go_simp) | (refine wpList_storeMA rfl 144 _ _ rfl _ rfl rfl fx rfl 144 _ 4 (.int .u8 0) arr4b HFL.out (zrow_length _ _) HFO ?_; intro w3 hr5 hb3; have c2 := a2.below hb3 a2.lt; have cw := aw.trans (hb3.mono (by have := a2.lt; omega)); go_simp))
      have HM4 : Hid (fx.length = Nat.min 4 (32 - 4 * k)) := by show _ = _; rw [HFL.out]; exact (Nat.min_eq_left (by omega)).symm
      have hw4 : IntKind.i64.wrap (4 * (k : Int)) = 4 * (k : Int) := by simp only [IntKind.wrap, IntKind.bits, IntKind.signed]; simp; omega
      have hsl := fun wx => run_sliceArr (P := Tryz.prog) wx 47 5 32 under32b size_byte (w.heap.size + 1 + 1) 0 (4 * k) (by omega) (4 * (k : Int)) (by omega)
      go_region_law (refine step_copy_splice rfl (.tmp 16) (.tmp 17) 49 49 rfl 5 under_bytes size_byte (some ⟨w.heap.size + 1 + 1, 4 * k, none⟩) (some ⟨w1.heap.size, 0, none⟩) (32 - 4 * k) (32 - 4 * k) 4 4 rfl rfl (w.heap.size + 1 + 1) (4 * k) (u8s (outTo hs k)) 47 c2 fx HM4.out (fun _ => ⟨rfl, _, rfl, row_src (show Row _ _ _ _ from hr5)⟩) (by rw [HFL.out, u8s_length, HLen.out]; omega) HFO (w.heap.size + 1 + 1) _ (Below.refl _ _) (Nat.le_refl _) ?_; intro w6 hg6 hb6)
      have g6 : Row w6 (w.heap.size + 1 + 1) (u8s (outTo hs (k + 1))) 47 := by have := hg6.out; rw [HS.out] at this; exact this
      have gw := cw.drew.trans hb6
      clear hg6 hb6 c2 cw hr5 hb3 a2 aw hb1 hB hR
      go_wp2
      exact ⟨⟨k + 1, by omega, by go_num, g6, gw⟩, by simp [intOf]; omega⟩
    · have hk8 : k = 8 := by omega
      subst hk8
      have e8 : outTo hs 8 = hs.flatMap four := by
        have h8 := HL.out
        simp [outTo, List.take_of_length_le (show hs.length ≤ 8 by omega)]
      rw [e8] at hR
      have hlen : (u8s (hs.flatMap four)).length = 32 := by rw [u8s_length, flat_length, HL.out]
      have HLen : Hid _ := hlen
      clear hlen
      have hO : Row wr (w.heap.size + 1) (zrow 32 (.int .u8 0)) 47 := (Row.made1 w _ _ _).below hB (Nat.lt_succ_self _)
      go_wp2_with (first | refine wpList_loadR rfl 47 _ rfl (w.heap.size + 1 + 1) rfl 47 (u8s (hs.flatMap four)) 32 (.int .u8 0) hR arr32b HLen.out ?_ | refine wpList_storeR rfl 47 _ _ rfl (w.heap.size + 1) rfl (u8s (hs.flatMap four)) rfl 47 (zrow 32 (.int .u8 0)) 32 (.int .u8 0) hO arr32b HLen.out (zrow_length _ _) (u8s_one _) ?_)
      refine bodyPost_ret (v := .agg (u8s (hs.flatMap four)).toArray) (results_row Tryz.results66 _ (w.heap.size + 1) 47 (u8s (hs.flatMap four)) 32 (.int .u8 0) rfl (Row.setRow hO _) arr32b HLen.out) rfl ⟨rfl, ?_⟩
      exact below_setRow ((((Below.refl _ _).alloc (Nat.le_refl _) _).alloc (by simp) _).trans (hB.mono (by omega))) (by omega) _
end Go.Proofs.YtaokemapkgggoaaGreatDoor

namespace Go.Proofs.YtaokemapkgggoaaGreatDoor
open Go.RowKit

theorem results_row2 {P : Program} {fn : Func} {p u : Tmp} {ty : TypeId} (hf : fn.results = #[.cell p ty, .tmp u]) (tmps : Array Value) (w : World) (g : Nat) (t : TypeId) (cs : List Value) (n : Nat) (z v : Value)
    (hp : tmps.getD p undef = .pointer (some ⟨g, 0, none⟩)) (hu : tmps.getD u undef = v) (hr : Row w g cs t) (ht : ArrT P ty n z) (hn : cs.length = n) : (results fn tmps).run P w = .ok (.tuple #[.agg cs.toArray, v]) w := by
  obtain ⟨e, hue⟩ := ht.u
  have hl := run_loadVar_row (P := P) w g t ty cs.toArray (0, 0) _ hr hue rfl (by rw [ht.size]; simp [hn])
  rw [results_cell_tmp hf, hp, hu]
  simp [asAddr, hl]

/-- a field of n cells with a text in it: its length, its bytes, bytes 0 -/
def fieldOf (n : Nat) (l : List UInt8) : List Int := (l.length : Int) :: blk (n - 1) l
theorem fieldOf_length (n : Nat) (l : List UInt8) (h : 1 ≤ n) : (fieldOf n l).length = n := by simp [fieldOf, blk_length]; omega
theorem field_cells (n : Nat) (l : List UInt8) (h : l.length < n) :
    ((zrow n (.int .u8 0)).set 0 (.int .u8 (l.length : Int))).take 1 ++ Lib.byteCells l ++ ((zrow n (.int .u8 0)).set 0 (.int .u8 (l.length : Int))).drop (1 + l.length) = u8s (fieldOf n l) := by
  obtain ⟨m, rfl⟩ : ∃ m, n = m + 1 := ⟨n - 1, by omega⟩
  have e : zrow (m + 1) (.int .u8 0) = .int .u8 0 :: zrow m (.int .u8 0) := by simp [zrow, List.replicate_succ]
  rw [e, List.set_cons_zero, Nat.add_comm 1]
  simp only [List.take_succ_cons, List.take_zero, List.drop_succ_cons]
  have hl : l.take m = l := List.take_of_length_le (by omega)
  simp [fieldOf, blk, hl, u8s, bytesI, zrow, Lib.byteCells]

set_option maxRecDepth 100000 in
set_option maxHeartbeats 400000 in
theorem prog_fill_no (s : ByteArray) (w : World) (p : Option Addr) (n : Nat) (h : n ≤ s.size) :
    Calls Tryz.prog 67 #[.slice p n n, .string s] w fun r w' => r = .returned (.bool false) ∧ w' = w := by
  have h' : (n : Int) ≤ s.size := by omega
  go_enter Tryz.func67, Tryz.ntmps67
  go_wp2
  go_ret
  exact ⟨rfl, rfl⟩

set_option maxRecDepth 100000 in
set_option maxHeartbeats 400000 in
theorem prog_fill_yes (s : ByteArray) (w : World) (g n : Nat) (t : TypeId) (hR : Row w g (zrow n (.int .u8 0)) t) (h : s.size < n) (hn : n ≤ 100) (h2 : 2 ≤ n) :
    Calls Tryz.prog 67 #[.slice (some ⟨g, 0, none⟩) n n, .string s] w fun r w' => r = .returned (.bool true) ∧ Row w' g (u8s (fieldOf n s.data.toList)) t ∧ Below g w w' := by
  have h' : ¬ (n : Int) ≤ s.size := by omega
  have h1n : ¬ n = 1 := by omega
  have hc : w.cell? ⟨g, 0, none⟩ = some (.int .u8 0) := by rw [hR.cell]; unfold zrow; rw [List.getElem?_replicate, if_pos (by omega)]
  have hf := hR.frozen 0
  have hR' := hR.setCell 0 (.int .u8 (s.size : Int))
  have hsz : s.size = s.data.toList.length := by rw [Array.length_toList]; rfl
  have hcp := Lib.run_copy_row_string (P := Tryz.prog) (w.setCell ⟨g, 0, none⟩ (.int .u8 (s.size : Int))) 49 9 3 5 g 1 (n - 1) (n - 1) s _ t under_bytes size_byte hR' (by omega) (by simp [zrow]; omega)
  rw [List.toList_toArray, hsz, field_cells n s.data.toList (by omega), ← hsz] at hcp
  clear hsz
  go_enter Tryz.func67, Tryz.ntmps67
  go_wp2
  go_ret
  exact ⟨rfl, hR'.setRow _, below_setRow ((Below.refl g w).setCell (Nat.le_refl g) _) (Nat.le_refl g) _⟩

set_option maxRecDepth 100000 in
set_option maxHeartbeats 1000000 in
theorem prog_keyOf_no (s : ByteArray) (w : World) (hs : 20 < s.size) :
    Calls Tryz.prog 44 #[.string s] w fun r w' => r = .returned (.tuple #[.agg (zrow 21 (.int .u8 0)).toArray, .bool false]) ∧ Below w.heap.size w w' := by
  go_enter Tryz.func44, Tryz.ntmps44
  go_wp2_with (first | (refine wpList_allocR rfl 79 rfl 21 (.int .u8 0) arr21b ?_; go_simp) | (go_at_call 67; refine (prog_fill_no s _ _ 21 (by omega)).mono ?_; rintro _ _ ⟨rfl, rfl⟩) | (refine wpList_loadR rfl 79 _ rfl (w.heap.size + 1) rfl 79 (zrow 21 (.int .u8 0)) 21 (.int .u8 0) (Row.made1 _ _ _ _) arr21b (zrow_length _ _) ?_; go_simp) | (refine wpList_storeR rfl 79 _ _ rfl w.heap.size rfl (zrow 21 (.int .u8 0)) rfl 79 (zrow 21 (.int .u8 0)) 21 (.int .u8 0) ((Row.made _ _ _).alloc _) arr21b (zrow_length _ _) (zrow_length _ _) (by rw [zrow_u8]; exact u8s_one _) ?_; go_simp))
  refine bodyPost_ret (v := .tuple #[.agg (zrow 21 (.int .u8 0)).toArray, .bool false]) (results_row2 Tryz.results44 _ _ w.heap.size 79 (zrow 21 (.int .u8 0)) 21 (.int .u8 0) (.bool false) rfl rfl (Row.setRow ((Row.made _ _ _).alloc _) _) arr21b (zrow_length _ _)) rfl ⟨rfl, ?_⟩
  exact below_setRow (((Below.refl _ _).alloc (Nat.le_refl _) _).alloc (by simp) _) (Nat.le_refl _) _

set_option maxRecDepth 100000 in
set_option maxHeartbeats 1000000 in
theorem prog_keyOf_yes (s : ByteArray) (w : World) (h2 : s.size ≤ 20) :
    Calls Tryz.prog 44 #[.string s] w fun r w' => r = .returned (.tuple #[.agg (u8s (fieldOf 21 s.data.toList)).toArray, .bool true]) ∧ Below w.heap.size w w' := by
  obtain ⟨b, HB⟩ : ∃ b, Hid (b = fieldOf 21 s.data.toList) := ⟨_, rfl⟩
  have HL : Hid ((u8s b).length = 21) := by show _ = _; rw [HB.out, u8s_length, fieldOf_length _ _ (by omega)]
  go_enter Tryz.func44, Tryz.ntmps44
  go_wp2_with (first | (refine wpList_allocR rfl 79 rfl 21 (.int .u8 0) arr21b ?_; go_simp) | (go_at_call 67; refine (prog_fill_yes s _ (w.heap.size + 1) 21 79 (Row.made1 _ _ _ _) (by omega) (by omega) (by omega)).mono ?_; rintro _ w1 ⟨rfl, hr1, hb1⟩; rw [← HB.out] at hr1; have ho : Row w1 w.heap.size (zrow 21 (.int .u8 0)) 79 := ((Row.made w _ _).alloc _).below hb1 (Nat.lt_succ_self _); have hw : Below w.heap.size w w1 := (((Below.refl _ _).alloc (Nat.le_refl _) _).alloc (by simp) _).trans (hb1.mono (Nat.le_succ _)); clear hb1) | (refine wpList_loadR rfl 79 _ rfl (w.heap.size + 1) rfl 79 (u8s b) 21 (.int .u8 0) hr1 arr21b HL.out ?_; go_simp) | (refine wpList_storeR rfl 79 _ _ rfl w.heap.size rfl (u8s b) rfl 79 (zrow 21 (.int .u8 0)) 21 (.int .u8 0) ho arr21b HL.out (zrow_length _ _) (u8s_one _) ?_; go_simp))
  refine bodyPost_ret (v := .tuple #[.agg (u8s b).toArray, .bool true]) (results_row2 Tryz.results44 _ _ w.heap.size 79 (u8s b) 21 (.int .u8 0) (.bool true) rfl rfl (Row.setRow ho _) arr21b HL.out) rfl ⟨by rw [HB.out], ?_⟩
  exact below_setRow hw (Nat.le_refl _) _

set_option maxRecDepth 100000 in
set_option maxHeartbeats 400000 in
/-- no key: by its length -/
theorem prog_none_yes (w : World) (g o : Nat) (hc : w.cell? ⟨g, o, none⟩ = some (.int .u8 0)) :
    Calls Tryz.prog 45 #[.pointer (some ⟨g, o, none⟩)] w fun r w' => r = .returned (.bool true) ∧ w' = w := by
  go_enter Tryz.func45, Tryz.ntmps45
  go_wp2
  go_ret
  exact ⟨rfl, rfl⟩

set_option maxRecDepth 100000 in
set_option maxHeartbeats 400000 in
theorem prog_none_no (w : World) (g o : Nat) (x : Int) (hx : ¬ x = 0) (hc : w.cell? ⟨g, o, none⟩ = some (.int .u8 x)) :
    Calls Tryz.prog 45 #[.pointer (some ⟨g, o, none⟩)] w fun r w' => r = .returned (.bool false) ∧ w' = w := by
  go_enter Tryz.func45, Tryz.ntmps45
  go_wp2
  go_ret
  exact ⟨by simp [hx], rfl⟩
end Go.Proofs.YtaokemapkgggoaaGreatDoor

namespace Go.Proofs.YtaokemapkgggoaaGreatDoor
open Go.RowKit

theorem u32_xor_w {a b : Int} (ha : isW a) (hb : isW b) : bits .xor .u32 a b = xr a b := u32_xor a b ha.1 ha.2 hb.1 hb.2
theorem u32_and_w {a b : Int} (ha : isW a) (hb : isW b) : bits .and .u32 a b = an a b := u32_and a b ha.1 ha.2 hb.1 hb.2
theorem u32_not_w {a : Int} (ha : isW a) : bits .xor .u32 IntKind.u32.max a = 4294967295 - a := by
  rw [show IntKind.u32.max = 4294967295 from rfl, u32_xor _ _ (by omega) (by omega) ha.1 ha.2]
  obtain ⟨h0, h1⟩ := ha
  obtain ⟨x, rfl⟩ := Int.eq_ofNat_of_zero_le h0
  have hx : x < 4294967296 := by omega
  have : (4294967295 : Nat) ^^^ x = 4294967295 - x := by
    have h1 : ((BitVec.allOnes 32) ^^^ (BitVec.ofNat 32 x)).toNat = 4294967295 - x := by
      rw [BitVec.allOnes_xor, BitVec.toNat_not, BitVec.toNat_ofNat]
      rw [Nat.mod_eq_of_lt (by omega)]
    have h2 : ((BitVec.allOnes 32) ^^^ (BitVec.ofNat 32 x)).toNat = 4294967295 ^^^ x := by
      rw [BitVec.toNat_xor, BitVec.toNat_ofNat, Nat.mod_eq_of_lt (by omega), BitVec.toNat_allOnes]
    rw [← h2, h1]
  show (((4294967295 : Int).toNat ^^^ (x : Int).toNat : Nat) : Int) = _
  rw [Int.toNat_natCast, show (4294967295 : Int).toNat = 4294967295 from rfl, this]
  omega

set_option maxHeartbeats 400000 in
theorem prog_step (a b c d e f g h1 kw : Int) (w : World) (ha : isW a) (hb : isW b) (hc : isW c) (he : isW e) (hf : isW f) (hg : isW g) :
    Calls Tryz.prog 86 #[.agg #[.int .u32 a, .int .u32 b, .int .u32 c, .int .u32 d, .int .u32 e, .int .u32 f, .int .u32 g, .int .u32 h1], .int .u32 kw] w fun r w' =>
      r = .returned (.agg #[.int .u32 ((h1 + bigE e + choose e f g + kw + (bigA a + most a b c)) % 4294967296), .int .u32 a, .int .u32 b, .int .u32 c, .int .u32 ((d + (h1 + bigE e + choose e f g + kw)) % 4294967296), .int .u32 e, .int .u32 f, .int .u32 g]) ∧ Below w.heap.size w w' := by
  have e1 : bits .xor .u32 (bits .xor .u32 (rr 6 e) (rr 11 e)) (rr 25 e) = bigE e := by
    rw [u32_xor_w (rr_w 6 (by omega) he) (rr_w 11 (by omega) he), u32_xor_w (xr_w (rr_w 6 (by omega) he) (rr_w 11 (by omega) he)) (rr_w 25 (by omega) he)]; rfl
  have e2 : bits .xor .u32 (bits .and .u32 e f) (bits .and .u32 (bits .xor .u32 IntKind.u32.max e) g) = choose e f g := by
    rw [u32_not_w he, u32_and_w he hf, u32_and_w (a := 4294967295 - e) (by unfold isW at *; omega) hg, u32_xor_w (an_w hf) (an_w hg)]; rfl
  have e3 : bits .xor .u32 (bits .xor .u32 (rr 2 a) (rr 13 a)) (rr 22 a) = bigA a := by
    rw [u32_xor_w (rr_w 2 (by omega) ha) (rr_w 13 (by omega) ha), u32_xor_w (xr_w (rr_w 2 (by omega) ha) (rr_w 13 (by omega) ha)) (rr_w 22 (by omega) ha)]; rfl
  have e4 : bits .xor .u32 (bits .xor .u32 (bits .and .u32 a b) (bits .and .u32 a c)) (bits .and .u32 b c) = most a b c := by
    rw [u32_and_w ha hb, u32_and_w ha hc, u32_and_w hb hc, u32_xor_w (an_w hb) (an_w hc), u32_xor_w (xr_w (an_w hb) (an_w hc)) (an_w hc)]; rfl
  go_enter Tryz.func86, Tryz.ntmps86
  go_wp2
  go_quiet (fail)
  go_wp2_with (go_at_call 96; refine (prog_right _ _ _ (by assumption) (by omega) (by omega)).mono ?_; rintro _ _ ⟨rfl, rfl⟩)
  refine bodyPost_ret (v := .agg #[.int .u32 ((h1 + bigE e + choose e f g + kw + (bigA a + most a b c)) % 4294967296), .int .u32 a, .int .u32 b, .int .u32 c, .int .u32 ((d + (h1 + bigE e + choose e f g + kw)) % 4294967296), .int .u32 e, .int .u32 f, .int .u32 g]) (by simp [results, Tryz.results86, go_sem]) rfl ⟨rfl, ?_⟩
  have hb0 : Below w.heap.size w (((w.alloc (.cells #[.int .u32 a, .int .u32 b, .int .u32 c, .int .u32 d, .int .u32 e, .int .u32 f, .int .u32 g, .int .u32 h1] 76)).alloc (.cells #[.int .u32 0, .int .u32 0, .int .u32 0, .int .u32 0, .int .u32 0, .int .u32 0, .int .u32 0, .int .u32 0] 76)).drewN nq) :=
    below_drewN (((Below.refl _ _).alloc (Nat.le_refl _) _).alloc (by simp) _) _
  exact (((((((hb0.setCell (Nat.le_succ _) _).setCell (Nat.le_succ _) _).setCell (Nat.le_succ _) _).setCell (Nat.le_succ _) _).setCell (Nat.le_succ _) _).setCell (Nat.le_succ _) _).setCell (Nat.le_succ _) _).setCell (Nat.le_succ _) _
end Go.Proofs.YtaokemapkgggoaaGreatDoor

namespace Go.Proofs.YtaokemapkgggoaaGreatDoor
open Go.RowKit

theorem wrap_id (n : Int) (h0 : -9223372036854775808 ≤ n) (h1 : n ≤ 9223372036854775807) : IntKind.i64.wrap n = n := by
  simp only [IntKind.wrap, IntKind.bits, IntKind.signed]
  simp
  omega

theorem cell_set_off (w : World) (a b : Addr) (v : Value) (h : b.block ≠ a.block) : (w.setCell a v).drew.cell? b = w.cell? b :=
  World.cell?_of_block (w := w) (Below.heap_setCell w a v b.block h)

/-- a list of bytes -/
def isB (x : Int) : Prop := 0 ≤ x ∧ x < 256
theorem getD_isB {b : List Int} (h : ∀ x ∈ b, isB x) (i : Nat) : 0 ≤ b.getD i 0 ∧ b.getD i 0 < 256 := by
  by_cases hi : i < b.length
  · have : b.getD i 0 = b[i] := by simp [List.getD, hi]
    rw [this]; exact h _ (List.getElem_mem _)
  · have : b.getD i 0 = 0 := by simp [List.getD, List.getElem?_eq_none (Nat.le_of_not_lt hi)]
    rw [this]; omega
theorem getD_isW {b : List Int} (h : ∀ x ∈ b, isW x) (i : Nat) : isW (b.getD i 0) := by
  by_cases hi : i < b.length
  · have : b.getD i 0 = b[i] := by simp [List.getD, hi]
    rw [this]; exact h _ (List.getElem_mem _)
  · have : b.getD i 0 = 0 := by simp [List.getD, List.getElem?_eq_none (Nat.le_of_not_lt hi)]
    rw [this]; unfold isW; omega

/-- the t-th word of W, of the words ahead of it -/
def wordAt (b l : List Int) (t : Nat) : Int :=
  if t < 16 then word4 (b.getD (4 * t) 0) (b.getD (4 * t + 1) 0) (b.getD (4 * t + 2) 0) (b.getD (4 * t + 3) 0)
  else nextW (l.getD (t - 16) 0) (l.getD (t - 15) 0) (l.getD (t - 7) 0) (l.getD (t - 2) 0)
theorem rowW_succ (b : List Int) (t : Nat) : rowW b (t + 1) = rowW b t ++ [wordAt b (rowW b t) t] := rfl
theorem wordAt_w {b : List Int} (h : ∀ x ∈ b, isB x) (l : List Int) (t : Nat) : isW (wordAt b l t) := by
  unfold wordAt
  split
  · exact word4_w (getD_isB h _) (getD_isB h _) (getD_isB h _) (getD_isB h _)
  · exact mod_w _
theorem rowW_w {b : List Int} (h : ∀ x ∈ b, isB x) (t : Nat) : ∀ x ∈ rowW b t, isW x := by
  induction t with
  | zero => intro x hx; cases hx
  | succ t ih =>
    intro x hx
    rw [rowW_succ, List.mem_append] at hx
    rcases hx with hx | hx
    · exact ih x hx
    · simp only [List.mem_singleton] at hx; subst hx; exact wordAt_w h _ _

def padW (b : List Int) (k : Nat) : List Int := rowW b k ++ List.replicate (64 - k) 0
theorem padW_length (b : List Int) (k : Nat) (h : k ≤ 64) : (padW b k).length = 64 := by simp [padW, rowW_length]; omega
theorem padW_set (b : List Int) (k : Nat) (h : k < 64) : (padW b k).set k (wordAt b (rowW b k) k) = padW b (k + 1) := by
  unfold padW
  rw [List.set_append_right _ _ (by rw [rowW_length]; exact Nat.le_refl _), rowW_length, Nat.sub_self, show 64 - k = (64 - (k + 1)) + 1 by omega, List.replicate_succ, List.set_cons_zero, rowW_succ]
  simp
theorem s0_bits {x : Int} (h : isW x) : bits .xor .u32 (bits .xor .u32 (rr 7 x) (rr 18 x)) (x / 8) = s0 x := by
  have h3 := shr_w 3 h
  rw [show (2 : Int) ^ 3 = 8 from rfl] at h3
  rw [u32_xor_w (rr_w 7 (by omega) h) (rr_w 18 (by omega) h), u32_xor_w (xr_w (rr_w 7 (by omega) h) (rr_w 18 (by omega) h)) h3]; rfl
theorem s1_bits {x : Int} (h : isW x) : bits .xor .u32 (bits .xor .u32 (rr 17 x) (rr 19 x)) (x / 1024) = s1 x := by
  have h3 := shr_w 10 h
  rw [show (2 : Int) ^ 10 = 1024 from rfl] at h3
  rw [u32_xor_w (rr_w 17 (by omega) h) (rr_w 19 (by omega) h), u32_xor_w (xr_w (rr_w 17 (by omega) h) (rr_w 19 (by omega) h)) h3]; rfl
theorem padW_get (b : List Int) (k j : Nat) (h : j < k) : (padW b k).getD j 0 = (rowW b k).getD j 0 := by
  unfold padW
  simp [List.getD, List.getElem?_append_left (show j < (rowW b k).length by rw [rowW_length]; exact h)]

set_option maxRecDepth 100000 in
set_option maxHeartbeats 4000000 in
theorem prog_spread (b : List Int) (w : World) (hl : b.length = 64) (hbb : ∀ x ∈ b, isB x) :
    Calls Tryz.prog 85 #[.agg (u8s b).toArray] w fun r w' => r = .returned (.agg (u32s (rowW b 64)).toArray) ∧ Below w.heap.size w w' := by
  have HL : Hid (b.length = 64) := hl
  clear hl
  go_enter Tryz.func85, Tryz.ntmps85
  go_wp2_with (first | refine wpList_allocR rfl 141 rfl 64 (.int .u32 0) arr64w ?_ | refine wpList_boxR rfl 116 _ rfl (u8s b) rfl ?_)
  obtain ⟨W2, HW2⟩ : ∃ W2, Hid (W2 = (w.alloc (.cells (u8s b).toArray 116)).alloc (.cells (zrow 64 (.int .u32 0)).toArray 141)) := ⟨_, rfl⟩
  go_loopw [10] (fun c wr => ∃ k : Nat, k ≤ 16 ∧ c = .int .i64 k ∧ Row wr (w.heap.size + 1 + 1) (u32s (padW b k)) 141 ∧ Below (w.heap.size + 1 + 1) W2 wr)
    (fun c _ => 16 - (intOf c).toNat)
  case atStart =>
    refine ⟨0, by omega, rfl, ?_, ?_⟩
    · have := Row.made1 (w.alloc (.cells (u8s b).toArray 116)) (.cells (zrow 64 (.int .u32 0)).toArray 141) (zrow 64 (.int .u32 0)) 141
      rw [World.size_alloc, zrow_u32] at this
      simpa [padW, rowW, zrow_u32] using this
    · rw [HW2.out]; exact (Below.refl _ _).alloc (by simp) _
  case round =>
    obtain ⟨k, hk, rfl, hR, hB⟩ := hrel
    have hBk : Row wr w.heap.size (u8s b) 116 := (show Row W2 w.heap.size (u8s b) 116 by rw [HW2.out]; exact (Row.made _ _ _).alloc _).below hB (by omega)
    by_cases hlt : k < 16
    · have hlen := padW_length b k (by omega)
      have hL := HL.out
      have hc0 : wr.cell? ⟨w.heap.size, 4 * k, none⟩ = some (.int .u8 (b.getD (4 * k) 0)) := by rw [hBk.cell, u8s_get _ _ (by omega)]
      have hc1 : wr.cell? ⟨w.heap.size, 4 * k + 1, none⟩ = some (.int .u8 (b.getD (4 * k + 1) 0)) := by rw [hBk.cell, u8s_get _ _ (by omega)]
      have hc2 : wr.cell? ⟨w.heap.size, 4 * k + 2, none⟩ = some (.int .u8 (b.getD (4 * k + 2) 0)) := by rw [hBk.cell, u8s_get _ _ (by omega)]
      have hc3 : wr.cell? ⟨w.heap.size, 4 * k + 3, none⟩ = some (.int .u8 (b.getD (4 * k + 3) 0)) := by rw [hBk.cell, u8s_get _ _ (by omega)]
      have hc4 : wr.cell? ⟨w.heap.size + 1 + 1, k, none⟩ = some (.int .u32 ((padW b k).getD k 0)) := by rw [hR.cell, u32s_get _ _ (by omega)]
      have hf := hR.frozen k
      have b0 := getD_isB hbb (4 * k)
      have b1 := getD_isB hbb (4 * k + 1)
      have b2 := getD_isB hbb (4 * k + 2)
      have b3 := getD_isB hbb (4 * k + 3)
      have hv : Hid (word4 (b.getD (4 * k) 0) (b.getD (4 * k + 1) 0) (b.getD (4 * k + 2) 0) (b.getD (4 * k + 3) 0) = wordAt b (rowW b k) k) := by
        show _ = _; unfold wordAt; rw [if_pos hlt]
      generalize b.getD (4 * k) 0 = x0 at *
      generalize b.getD (4 * k + 1) 0 = x1 at *
      generalize b.getD (4 * k + 2) 0 = x2 at *
      generalize b.getD (4 * k + 3) 0 = x3 at *
      clear hL hlen
      have i0 : 4 * (k : Int) < 64 := by omega
      have i1 : 4 * (k : Int) + 1 < 64 := by omega
      have i2 : 4 * (k : Int) + 2 < 64 := by omega
      have i3 : 4 * (k : Int) + 3 < 64 := by omega
      have i4 : (k : Int) < 64 := by omega
      have n0 : 0 ≤ 4 * (k : Int) := by omega
      have n1 : 0 ≤ 4 * (k : Int) + 1 := by omega
      have n2 : 0 ≤ 4 * (k : Int) + 2 := by omega
      have n3 : 0 ≤ 4 * (k : Int) + 3 := by omega
      have t0 : (4 * (k : Int)).toNat = 4 * k := by omega
      have t1 : (4 * (k : Int) + 1).toNat = 4 * k + 1 := by omega
      have t2 : (4 * (k : Int) + 2).toNat = 4 * k + 2 := by omega
      have t3 : (4 * (k : Int) + 3).toNat = 4 * k + 3 := by omega
      have hoff : ∀ (v : Value) (j : Nat), (wr.setCell ⟨w.heap.size + 1 + 1, k, none⟩ v).drew.cell? ⟨w.heap.size, j, none⟩ = wr.cell? ⟨w.heap.size, j, none⟩ := fun v j => cell_set_off _ _ _ _ (by simp; omega)
      have j0 := wrap_id (4 * (k : Int)) (by omega) (by omega)
      have j1 := wrap_id (4 * (k : Int) + 1) (by omega) (by omega)
      have j2 := wrap_id (4 * (k : Int) + 2) (by omega) (by omega)
      have j3 := wrap_id (4 * (k : Int) + 3) (by omega) (by omega)
      go_wp2
      go_region_held3 (fun w' => w'.cell? ⟨w.heap.size, 4 * k, none⟩ = some (.int .u8 x0) ∧ w'.cell? ⟨w.heap.size, 4 * k + 1, none⟩ = some (.int .u8 x1) ∧ w'.cell? ⟨w.heap.size, 4 * k + 2, none⟩ = some (.int .u8 x2) ∧ w'.cell? ⟨w.heap.size, 4 * k + 3, none⟩ = some (.int .u8 x3)) (go_keep) (first | (go_at_call 69; refine (prog_word _ _ _ _ _ b0 b1 b2 b3).mono ?_; rintro _ _ ⟨rfl, rfl⟩))
      go_wp2
      refine ⟨⟨k + 1, by omega, by go_num, ?_, ?_⟩, by simp [intOf]; omega⟩
      · have := (hR.setCell k (.int .u32 (word4 x0 x1 x2 x3))).drew
        have hs := padW_set b k (by omega)
        rw [← hv.out] at hs
        rwa [u32s_set, hs] at this
      · exact (hB.setCell (Nat.le_refl _) _).drew
    · have hk8 : k = 16 := by omega
      have HK : Hid (k = 16) := hk8
      clear hBk hk8
      go_wp2
      go_loopw [5] (fun c ws => ∃ t : Nat, 16 ≤ t ∧ t ≤ 64 ∧ c = .int .i64 t ∧ Row ws (w.heap.size + 1 + 1) (u32s (padW b t)) 141 ∧ Below (w.heap.size + 1 + 1) W2 ws)
        (fun c _ => 64 - (intOf c).toNat)
      case atStart => exact ⟨16, by omega, by omega, rfl, by rw [HK.out] at hR; exact hR, hB⟩
      case round =>
        clear hR hB
        obtain ⟨t, ht0, ht, rfl, hR, hB⟩ := hrel
        by_cases hlt : t < 64
        · have hlen := padW_length b t ht
          have hx15 := getD_isW (rowW_w hbb t) (t - 15)
          have hx2 := getD_isW (rowW_w hbb t) (t - 2)
          have hx7 := getD_isW (rowW_w hbb t) (t - 7)
          have hx16 := getD_isW (rowW_w hbb t) (t - 16)
          have e0 := s0_bits hx15
          have e1 := s1_bits hx2
          have hc15 : wr.cell? ⟨w.heap.size + 1 + 1, t - 15, none⟩ = some (.int .u32 ((rowW b t).getD (t - 15) 0)) := by rw [hR.cell, u32s_get _ _ (by omega), padW_get _ _ _ (by omega)]
          have hc2 : wr.cell? ⟨w.heap.size + 1 + 1, t - 2, none⟩ = some (.int .u32 ((rowW b t).getD (t - 2) 0)) := by rw [hR.cell, u32s_get _ _ (by omega), padW_get _ _ _ (by omega)]
          have hc7 : wr.cell? ⟨w.heap.size + 1 + 1, t - 7, none⟩ = some (.int .u32 ((rowW b t).getD (t - 7) 0)) := by rw [hR.cell, u32s_get _ _ (by omega), padW_get _ _ _ (by omega)]
          have hc16 : wr.cell? ⟨w.heap.size + 1 + 1, t - 16, none⟩ = some (.int .u32 ((rowW b t).getD (t - 16) 0)) := by rw [hR.cell, u32s_get _ _ (by omega), padW_get _ _ _ (by omega)]
          have hc0 : wr.cell? ⟨w.heap.size + 1 + 1, t, none⟩ = some (.int .u32 ((padW b t).getD t 0)) := by rw [hR.cell, u32s_get _ _ (by omega)]
          have hf := hR.frozen t
          have hv : Hid (wordAt b (rowW b t) t = nextW ((rowW b t).getD (t - 16) 0) ((rowW b t).getD (t - 15) 0) ((rowW b t).getD (t - 7) 0) ((rowW b t).getD (t - 2) 0)) := by
            show _ = _; unfold wordAt; rw [if_neg (by omega)]
          generalize (rowW b t).getD (t - 15) 0 = x15 at *
          generalize (rowW b t).getD (t - 2) 0 = x2 at *
          generalize (rowW b t).getD (t - 7) 0 = x7 at *
          generalize (rowW b t).getD (t - 16) 0 = x16 at *
          clear hlen
          have i0 : (t : Int) < 64 := by omega
          have i1 : (16 : Int) ≤ t := by omega
          go_wp2
          go_quiet (fail)
          go_wp2_with (go_at_call 96; refine (prog_right _ _ _ (by assumption) (by omega) (by omega)).mono ?_; rintro _ _ ⟨rfl, rfl⟩)
          go_region
          go_wp2
          go_roundw
          case measure => simp [intOf]; omega
          case rel =>
          refine ⟨t + 1, by omega, by omega, by go_num, ?_, ?_⟩
          · have := (hR.drewN (nq + 1)).setCell t (.int .u32 ((s1 x2 + x7 + s0 x15 + x16) % 4294967296))
            have hs := padW_set b t hlt
            rw [hv.out] at hs
            unfold nextW at hs
            rwa [u32s_set, hs] at this
          · exact (below_drewN hB _).setCell (Nat.le_refl _) _
        · have hk8 : t = 64 := by omega
          subst hk8
          have e8 : padW b 64 = rowW b 64 := by simp [padW]
          rw [e8] at hR
          have hlen : (u32s (rowW b 64)).length = 64 := by rw [u32s_length, rowW_length]
          have HLen : Hid _ := hlen
          clear hlen
          have hO : Row wr (w.heap.size + 1) (zrow 64 (.int .u32 0)) 141 := (show Row W2 (w.heap.size + 1) (zrow 64 (.int .u32 0)) 141 by rw [HW2.out]; exact Row.made1 _ _ _ _).below hB (by omega)
          have hBB : Below w.heap.size w wr := (show Below w.heap.size w W2 by rw [HW2.out]; exact ((Below.refl _ _).alloc (Nat.le_refl _) _).alloc (by simp) _).trans (hB.mono (by omega))
          obtain ⟨R, HRe⟩ : ∃ R, Hid (R = rowW b 64) := ⟨_, rfl⟩
          rw [← HRe.out] at hR HLen
          go_wp2_with (first | refine wpList_loadR rfl 141 _ rfl (w.heap.size + 1 + 1) rfl 141 (u32s R) 64 (.int .u32 0) hR arr64w HLen.out ?_ | refine wpList_storeR rfl 141 _ _ rfl (w.heap.size + 1) rfl (u32s R) rfl 141 (zrow 64 (.int .u32 0)) 64 (.int .u32 0) hO arr64w HLen.out (zrow_length _ _) (u32s_one _) ?_)
          refine bodyPost_ret (v := .agg (u32s R).toArray) (results_row Tryz.results85 _ (w.heap.size + 1) 141 (u32s R) 64 (.int .u32 0) rfl (Row.setRow hO _) arr64w HLen.out) rfl ⟨by rw [HRe.out], ?_⟩
          exact below_setRow hBB (by omega) _
end Go.Proofs.YtaokemapkgggoaaGreatDoor
