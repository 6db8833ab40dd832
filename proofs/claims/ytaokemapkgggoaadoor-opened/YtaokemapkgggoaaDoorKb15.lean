import Derived.Test.YtaokemapkgggoaaDoorKb14
import Derived.Lib.AppendStr
import Derived.Laws.OwnMore
import Derived.Test.YtaokemapkgggoaaDoorKb11
import Derived.Lib.SliceRun
namespace Go.Proofs.YtaokemapkgggoaaDoor
open Go.RowKit

theorem toBytes_bytesI (p : List UInt8) : toBytes (bytesI p) = p := by
  induction p with
  | nil => rfl
  | cons a l ih =>
    show UInt8.ofNat ((a.toNat : Int)).toNat :: toBytes (bytesI l) = _
    rw [ih, Int.toNat_natCast]
    simp
theorem Own.cap {w : World} {base : Nat} {k : IntKind} {e : TypeId} {g n c : Nat} {xs : List Int} (h : Own w base k e (.slice (some ⟨g, 0, none⟩) n c) xs) : n ≤ c := by
  obtain ⟨-, h2⟩ := h
  rcases h2 with ⟨hv, -⟩ | ⟨g', cap, cur, hv, -, -, hc, -⟩
  · cases hv
  · cases hv; exact hc
theorem told_toBytes (st : Int) (p : List UInt8) (h0 : 0 ≤ st) (h1 : st < 256) :
    toBytes ([165, (p.length : Int) % 256, st] ++ bytesI p ++ [(1 + sumB (b8 p.length :: b8 st :: p)) % 256]) = told st p := by
  have e : (1 + sumB (b8 p.length :: b8 st :: p)) % 256 = ((p.length : Int) + st + 1 + sumB p) % 256 := by
    simp only [sumB, b8_toNat]; omega
  rw [e]
  unfold told toBytes
  simp only [List.map_append, List.map_cons, List.map_nil]
  congr 1
  congr 1
  · rw [toBytes_b8 h0 h1]; rfl
  · exact toBytes_bytesI p

/-- a text appended to a list of bytes of the call's own -/
theorem wpList_appS {ops : Array Oper} {rest : List Oper} {o : Oper} {a : Act} {w : World} {Q : Exit → Act → World → Prop} (hgd : o.guard = none) (sl x : Operand)
    (ho : o.op = .call { callee := .builtin .append, args := #[sl, x], argTypes := #[28, 9] }) (base : Nat) (v : Value) (xs : List Int) (hs : a.eval sl = v) (hown : Own w base .u8 5 v xs) (s : ByteArray) (hx : a.eval x = .string s)
    (hlen : xs.length + s.size ≤ 100000000) (hbase : base ≤ w.heap.size)
    (h : ∀ v' w', Own w' base .u8 5 v' (xs ++ bytesI s.data.toList) → w.grownBy w' v.ownBlock → wpList Tryd.prog ops Q rest (a.put o.dst v') w') : wpList Tryd.prog ops Q (o :: rest) a w := by
  obtain ⟨i, hi, hz, h1, hb⟩ := info_parts slB.i
  refine Lib.wpList_append_own_string w hgd sl x _ _ ho base 5 i slB.u under_str hi hz h1 hb v xs.length _ hs hown s hx (by unfold maxLen; omega) (by omega) hbase ?_
  intro v' w' ho' hg _
  refine h v' w' ?_ hg
  unfold Own
  rw [List.length_append, List.map_append, show (bytesI s.data.toList).length = s.size by rw [bytesI_length, Array.length_toList]; rfl]
  have e : Lib.strCells s = (bytesI s.data.toList).map (Value.int .u8) := by simp [Lib.strCells, bytesI]
  rw [← e]
  exact ho'

theorem head_bytes (st : Int) (p : List UInt8) (h0 : 0 ≤ st) (h1 : st < 256) : [165, (p.length : Int) % 256, st] ++ bytesI p = 165 :: bytesI (b8 p.length :: b8 st :: p) := by
  have e1 := b8_toNat (p.length : Int)
  have e2 : ((b8 st).toNat : Int) = st := by rw [b8_toNat]; omega
  simp only [bytesI, List.map_cons]
  rw [e1, e2]
  rfl

set_option maxRecDepth 100000 in
set_option maxHeartbeats 1000000 in
theorem prog_answerOf (w : World) (st : Int) (s : ByteArray) (h0 : 0 ≤ st) (h1 : st < 256) (hs : s.size < 1000) :
    Calls Tryd.prog 53 #[.int .u8 st, .string s] w fun r w' => r = .returned (.string (str (told st s.data.toList))) ∧ Below w.heap.size w w' := by
  have hsz : Hid (s.size = s.data.toList.length) := by show _ = _; rw [Array.length_toList]; rfl
  have hw8 : ∀ x : Int, IntKind.u8.wrap x = x % 256 := u8_wrap
  obtain ⟨xs, HX⟩ : ∃ xs, Hid (xs = [165, (s.size : Int) % 256, st] ++ bytesI s.data.toList) := ⟨_, rfl⟩
  have hxl : Hid (xs.length = 3 + s.size) := by show _ = _; rw [HX.out, List.length_append, show (bytesI s.data.toList).length = s.size by rw [hsz.out]; simp [bytesI]]; rfl
  have hn1 : ¬ 3 + s.size = 1 := by omega
  obtain ⟨l, HL⟩ : ∃ l, Hid (l = b8 s.size :: b8 st :: s.data.toList) := ⟨_, rfl⟩
  have hll : Hid (l.length = 2 + s.size) := by show _ = _; rw [HL.out, hsz.out]; simp; omega
  have hxs : Hid (xs = 165 :: bytesI l) := by show _ = _; rw [HX.out, HL.out, hsz.out]; exact head_bytes st s.data.toList h0 h1
  obtain ⟨cv, HCV⟩ : ∃ cv, Hid (cv = (1 + sumB l) % 256) := ⟨_, rfl⟩
  go_enter Tryd.func53, Tryd.ntmps53
  go_wp2_with (first | (at_builtin; refine wpList_appS rfl (.tmp 10) (.tmp 11) rfl w.heap.size _ [165, (s.size : Int) % 256, st] rfl (World.ownsRow_lit w #[.int .u8 165, .int .u8 ((s.size : Int) % 256), .int .u8 st] 3 (Nat.le_refl _) (by unfold maxLen; omega) rfl) s rfl (by simp; omega) (by simp) ?_; intro v1 w1 hO1 hg1; rw [← HX.out] at hO1; have hB1 : Below w.heap.size w w1 := (Below.refl _ _).grown ((World.grownBy_alloc w _ _).trans hg1) (Nat.le_refl _) (fun g hg => by cases hg; exact Nat.le_refl _); obtain ⟨go, co, hv, hge, hlt, hcell, -⟩ := hO1.at (by rw [hxl.out]; omega); rw [hxl.out] at hv; subst hv; have hcap := hO1.cap; have HC : Hid _ := hcell; clear hg1 hcell) | (go_at_call 66; refine (prog_checkB w1 go 1 (2 + s.size) (co - 1) l (fun j v hv => by have hj := (List.getElem?_eq_some_iff.1 hv).1; rw [bcells_length] at hj; rw [bcells_get l j hj] at hv; rw [← hv, HC.out (1 + j) (by rw [hxl.out]; rw [hll.out] at hj; omega), hxs.out, Nat.add_comm 1 j]; rfl) hll.out (by omega)).mono ?_; rintro _ w9 ⟨rfl, e9⟩; rw [e9, ← HCV.out]; clear e9 w9) | (at_builtin; refine wpList_app1 rfl (.tmp 13) (.tmp 17) 28 5 .u8 1 rfl slB w.heap.size _ xs rfl hO1 _ _ _ rfl (by rw [hxl.out]; omega) hB1.size ?_; intro v2 w2 hO2 hg2 _; have hB2 : Below w.heap.size w w2 := below_grown hB1 hg2 hO1 hB1.size (Nat.le_refl _); have hl2 : (xs ++ [cv]).length = 4 + s.size := (by rw [List.length_append, hxl.out]; simp; omega); obtain ⟨g2, c2, hv2, -, -, hcell2, -⟩ := hO2.at (by rw [hl2]; omega); rw [hl2] at hv2; subst hv2; have hconv := run_convert_bytes_arg w2 28 5 under_bytes under_u8 g2 0 (4 + s.size) c2 (xs ++ [cv]) hl2 (fun i hi => by rw [Nat.zero_add]; exact hcell2 i (by rw [hl2]; exact hi)) 9 under_str; clear hcell2 hl2 hg2))
  go_ret
  refine ⟨ret_bytes ?_, hB2⟩
  rw [strOfNums_str, HX.out, HCV.out, HL.out, hsz.out, told_toBytes st s.data.toList h0 h1]
end Go.Proofs.YtaokemapkgggoaaDoor

namespace Go.Proofs.YtaokemapkgggoaaDoor
open Go.RowKit

theorem elem100b : ∀ e, Tryd.prog.underlying 75 = some (.array 100 e) → (Tryd.prog.info? e).isSome = true := by
  intro e h
  rw [under_img] at h
  cases h
  kernel_rfl

set_option maxRecDepth 100000 in
set_option maxHeartbeats 1000000 in
theorem prog_wipe (w : World) (g : Nat) (l : List UInt8) (hR : Row w g (bcells l) 75) (hl : l.length = 100) :
    Calls Tryd.prog 75 #[.pointer (some ⟨g, 0, none⟩)] w fun r w' => r = .returned (.tuple #[]) ∧ w.grownBy w' (some g) := by
  go_enter Tryd.func75, Tryd.ntmps75
  go_wp2_with (first | (refine wpList_buildZ rfl 75 rfl 100 (.int .u8 0) arr100b elem100b ?_; go_simp) | (refine wpList_storeR rfl 75 _ _ rfl g rfl (zrow 100 (.int .u8 0)) rfl 75 (bcells l) 100 (.int .u8 0) hR arr100b (zrow_length _ _) (by rw [bcells_length, hl]) (by rw [zrow_u8]; exact u8s_one _) ?_; go_simp))
  go_end0
  exact ⟨rfl, grown_setRow (World.grownBy.refl _ _) _⟩

theorem grown_cells {w W : World} {g : Nat} (h : w.grownBy W (some g)) (o : Nat) (vs : List Value) : w.grownBy (W.setCells g o vs) (some g) := grown_setCells vs o h

set_option maxRecDepth 100000 in
set_option maxHeartbeats 1000000 in
theorem prog_dropKeys (w : World) (g : Nat) (l : List UInt8) (hR : Row w g (bcells l) 75) (hl : l.length = 100) :
    Calls Tryd.prog 92 #[.pointer (some ⟨g, 0, none⟩)] w fun r w' => r = .returned (.tuple #[]) ∧ Row w' g (bcells (l.take 15 ++ List.replicate 84 0 ++ l.drop 99)) 75 ∧ w.grownBy w' (some g) := by
  have hsl := fun wx => run_sliceArr2 (P := Tryd.prog) wx 75 5 100 under_img size_byte g 0 15 99 (by omega) (by omega) (by omega) 15 99 rfl rfl
  have hth := hR.thereFrom 15 84 (by rw [bcells_length, hl]; omega)
  have hcl := fun ty => Lib.run_clear_slice (P := Tryd.prog) w 28 5 ty (.int .u8 0) under_bytes (by intro wx; kernel_rfl) rfl rfl g 15 84 85 (by omega) (fun j hj => (hth j hj).1) (fun j hj => (hth j hj).2)
  have hfin : Row (w.setCells g 15 (List.replicate 84 (.int .u8 0))) g (bcells (l.take 15 ++ List.replicate 84 0 ++ l.drop 99)) 75 := by
    have := Row.setCells (List.replicate 84 (.int .u8 0)) 15 hR (by rw [bcells_length, hl, List.length_replicate]; omega)
    rwa [show List.replicate 84 (Value.int .u8 0) = bcells (List.replicate 84 0) by simp [bcells], splice_u8, List.length_replicate] at this
  clear hth
  go_enter Tryd.func92, Tryd.ntmps92
  go_wp2
  go_end0
  exact ⟨rfl, hfin, grown_setCells _ _ (World.grownBy.refl _ _)⟩

set_option maxRecDepth 100000 in
set_option maxHeartbeats 1000000 in
theorem prog_New_no (w : World) (s : ByteArray) (hs : s.size < 1 ∨ 8 < s.size) :
    Calls Tryd.prog 29 #[.string s] w fun r w' => r = .returned (.tuple #[.pointer none, .int .i64 1]) ∧ Below w.heap.size w w' := by
  go_enter Tryd.func29, Tryd.ntmps29
  go_wp2_with (first | (go_at_call 42; refine (prog_pinOf_no s _ hs).mono ?_; rintro _ w1 ⟨rfl, hb1⟩) | (refine wpList_allocR rfl 87 rfl 9 (.int .u8 0) arr9b ?_; go_simp) | (refine wpList_storeMA rfl 87 _ _ rfl _ rfl rfl (zrow 9 (.int .u8 0)) rfl 87 _ 9 (.int .u8 0) arr9b (zrow_length _ _) (zrow_length _ _) (by rw [zrow_u8]; exact u8s_one _) ?_; intro w2 hr2 hb2; go_simp))
  go_ret2
  exact ⟨rfl, hb1.trans (hb2.mono hb1.size)⟩

theorem foldl_set (l : List Value) : ∀ (a : Array Value) (k : Nat), k + l.length ≤ a.size → (l.zipIdx k).foldl (fun cs x => cs.setIfInBounds x.2 x.1) a = (a.toList.take k ++ l ++ a.toList.drop (k + l.length)).toArray := by
  induction l with
  | nil => intro a k h; simp
  | cons v l ih =>
    intro a k h
    simp only [List.length_cons] at h
    rw [List.zipIdx_cons, List.foldl_cons, ih _ _ (by rw [Array.size_setIfInBounds]; omega)]
    congr 1
    have hk : k < a.toList.length := by rw [Array.length_toList]; omega
    rw [Array.toList_setIfInBounds, List.take_succ_eq_append_getElem (by rw [List.length_set]; exact hk), List.getElem_set_self, List.take_set_of_le (Nat.le_refl _), List.drop_set_of_lt (by omega)]
    simp only [List.append_assoc, List.length_cons, List.cons_append, List.nil_append]
    rw [show k + 1 + l.length = k + (l.length + 1) by omega]
theorem zero96 : Tryd.zeroCells77 = (bcells (List.replicate 200 0)).toArray := by kernel_rfl
/-- what the device runs on, in memory -/
structure Pw where
  gone : Bool
  ending : Bool
  left : Int
def Pw.none : Pw := ⟨false, false, 0⟩
theorem zero98 : Tryd.zeroCells81 = (bcells (List.replicate 200 0) ++ [Value.bool false, Value.bool false, Value.int .i64 0, Value.bool false, Value.string ⟨#[]⟩]).toArray := by kernel_rfl
theorem build96 (l : List UInt8) (h : l.length = 100) : List.foldl (fun cs x => cs.setIfInBounds x.snd x.fst) Tryd.zeroCells77 (bcells l).zipIdx = (bcells (l ++ List.replicate 100 0)).toArray := by
  rw [foldl_set (bcells l) _ 0 (by rw [zero96, List.size_toArray, bcells_length, bcells_length, h, List.length_replicate]; omega), zero96, bcells_length, h]
  unfold bcells
  rw [List.map_append]
  simp only [List.take_zero, List.nil_append, ← List.map_drop, List.drop_replicate, Nat.zero_add]
/-- the cells of a device -/
def dcells (f : List UInt8) (q : Pw) (u : Bool) (c : ByteArray) : List Value := bcells f ++ [.bool q.gone, .bool q.ending, .int .i64 q.left, .bool u, .string c]
theorem build98 (l : List UInt8) (h : l.length = 200) : List.foldl (fun cs x => cs.setIfInBounds x.snd x.fst) Tryd.zeroCells81 (bcells l).zipIdx = (dcells l .none false ⟨#[]⟩).toArray := by
  rw [foldl_set (bcells l) _ 0 (by rw [zero98, List.size_toArray, List.length_append, bcells_length, bcells_length, h, List.length_replicate]; simp), zero98, bcells_length, h]
  unfold dcells
  rw [List.take_zero, List.nil_append, Nat.zero_add, List.drop_append_of_le_length (by rw [bcells_length, List.length_replicate]; omega), List.drop_of_length_le (by rw [bcells_length, List.length_replicate]; omega), List.nil_append]
  rfl

theorem nine_of (l : List UInt8) (h : l.length = 9) : ∃ p0 p1 p2 p3 p4 p5 p6 p7 p8 : UInt8, l = [p0, p1, p2, p3, p4, p5, p6, p7, p8] := by
  match l, h with
  | [p0, p1, p2, p3, p4, p5, p6, p7, p8], _ => exact ⟨_, _, _, _, _, _, _, _, _, rfl⟩
/-- a field of n bytes: the length ahead, bytes 0 behind -/
def fieldB (n : Nat) (l : List UInt8) : List UInt8 := b8 l.length :: padTo (n - 1) l
theorem fieldB_length (n : Nat) (l : List UInt8) (h : l.length < n) : (fieldB n l).length = n := by rw [fieldB, List.length_cons, padTo_length _ _ (by omega)]; omega
theorem fieldB_int (n : Nat) (l : List UInt8) (h : l.length < n) (hn : n ≤ 256) : bytesI (fieldB n l) = fieldOf n l := by
  rw [fieldB, fieldOf, bytesI, List.map_cons]
  congr 1
  · rw [b8_toNat]; omega
  · rw [blk, List.take_of_length_le (by omega)]
    simp [padTo, bytesI]
theorem field_cellsB (n : Nat) (l : List UInt8) (h : l.length < n) (hn : n ≤ 256) : u8s (fieldOf n l) = bcells (fieldB n l) := by
  rw [bcells_eq, fieldB_int n l h hn]

set_option maxRecDepth 100000 in
set_option maxHeartbeats 1000000 in
theorem prog_New_yes (w : World) (s : ByteArray) (h1 : 1 ≤ s.size) (h2 : s.size ≤ 8) :
    Calls Tryd.prog 29 #[.string s] w fun r w' => ∃ g, r = .returned (.tuple #[.pointer (some ⟨g, 0, none⟩), .int .i64 0]) ∧ w.heap.size ≤ g ∧ Row w' g (dcells ((turned (rawFirst (fieldB 9 s.data.toList))).set 0 167 ++ List.replicate 100 0) .none false ⟨#[]⟩) 81 ∧ Below w.heap.size w w' := by
  have hnew := prog_pinOf_yes s w h1 h2
  have hsl : s.data.toList.length < 9 := by rw [Array.length_toList]; show s.size < 9; omega
  have hp9 := fieldB_length 9 _ hsl
  rw [field_cellsB 9 _ hsl (by omega)] at hnew
  generalize fieldB 9 s.data.toList = fb at *
  obtain ⟨p0, p1, p2, p3, p4, p5, p6, p7, p8, rfl⟩ := nine_of fb hp9
  clear hp9 hsl
  obtain ⟨tl, HTL⟩ : ∃ tl, Hid (tl = (turned (rawFirst [p0, p1, p2, p3, p4, p5, p6, p7, p8])).set 0 167) := ⟨_, rfl⟩
  rw [← HTL.out]
  have htl : tl.length = 100 := by rw [HTL.out, List.length_set]; exact turned_length _ (rawFirst_length _ rfl)
  have hbl : (bcells tl).length = 100 := by rw [bcells_length, htl]
  have e96 := build96 tl htl
  have htl2 : (tl ++ List.replicate 100 0).length = 200 := by rw [List.length_append, htl, List.length_replicate]
  obtain ⟨fl, HFL⟩ : ∃ fl : List UInt8, Hid (fl = tl ++ List.replicate 100 0) := ⟨tl ++ List.replicate 100 0, (rfl : tl ++ List.replicate 100 0 = tl ++ List.replicate 100 0)⟩
  rw [← HFL.out] at e96 htl2
  rw [← HFL.out]
  have hbl2 : (bcells fl).length = 200 := by rw [bcells_length, htl2]
  have e98 := build98 fl htl2
  clear htl htl2
  go_enter Tryd.func29, Tryd.ntmps29
  go_wp2_with (first | (go_at_call 42; refine hnew.mono ?_; rintro _ w1 ⟨rfl, hb1⟩) | (refine wpList_allocR rfl 87 rfl 9 (.int .u8 0) arr9b ?_; go_simp) | (refine wpList_storeMA rfl 87 _ _ rfl _ rfl rfl (bcells [p0, p1, p2, p3, p4, p5, p6, p7, p8]) rfl 87 _ 9 (.int .u8 0) arr9b (by rw [bcells_length]; rfl) (zrow_length _ _) (bcells_one _) ?_; intro w2 hr2 hb2; go_simp) | (refine wpList_loadR rfl 87 _ rfl w1.heap.size rfl 87 (bcells [p0, p1, p2, p3, p4, p5, p6, p7, p8]) 9 (.int .u8 0) hr2 arr9b (by rw [bcells_length]; rfl) ?_; go_simp) | (go_at_call 43; refine (prog_firstImage w2 p0 p1 p2 p3 p4 p5 p6 p7 p8).mono ?_; rintro _ w3 ⟨rfl, hb3⟩; rw [← HTL.out]))
  go_ret2
  have hw3 : Below w.heap.size w w3 := (hb1.trans (hb2.mono hb1.size)).trans (hb3.mono (Nat.le_trans hb1.size hb2.size))
  exact ⟨w3.heap.size, rfl, hw3.size, Row.made _ _ _, hw3.alloc hw3.size _⟩

theorem conv_at (w : World) (g o n c : Nat) (l : List UInt8) (hl : l.length = n) (h : w.rangeAt g o (bcells l)) : (convert 28 9 (.slice (some ⟨g, o, none⟩) n c)).run Tryd.prog w = .ok (.string (str l)) w := by
  have := run_convert_bytes_arg (P := Tryd.prog) w 28 5 under_bytes under_u8 g o n c (bytesI l) (by rw [bytesI, List.length_map, hl]) (fun i hi => by rw [bcells_eq] at h; exact h i _ (u8s_get _ i (by rw [bytesI, List.length_map, hl]; exact hi))) 9 under_str
  rwa [strOfNums_str, toBytes_bytesI] at this

set_option maxRecDepth 100000 in
set_option maxHeartbeats 1000000 in
theorem prog_text (w : World) (g : Nat) (f : List UInt8) (hl : f.length = 200) (h : w.rangeAt g 0 (bcells f)) :
    Calls Tryd.prog 38 #[.pointer (some ⟨g, 0, none⟩)] w fun r w' => r = .returned (.string (str f)) ∧ Below w.heap.size w w' := by
  have hx0 := fun wx => run_indexFlash wx g 0 0 0 rfl (by omega) 0 (by omega)
  have hx1 := fun wx => run_indexFlash wx g 0 1 1 rfl (by omega) 100 (by omega)
  have hsl := fun wx o => run_sliceArr2 (P := Tryd.prog) wx 75 5 100 under_img size_byte g o 0 100 (by omega) (by omega) (by omega) 0 100 rfl rfl
  go_enter Tryd.func38, Tryd.ntmps38
  have cv0 : (convert 28 9 (.slice (some ⟨g, 0, none⟩) 100 100)).run Tryd.prog w.drew = .ok (.string (str (f.take 100))) w.drew := conv_at w.drew g 0 100 100 (f.take 100) (by simp [hl]) (by have := range_sub h 0 100; simpa using this)
  have cv1 : (convert 28 9 (.slice (some ⟨g, 100, none⟩) 100 100)).run Tryd.prog w.drew = .ok (.string (str (f.drop 100))) w.drew := conv_at w.drew g 100 100 100 (f.drop 100) (by simp [hl]) (by have := range_sub h 100 100; rwa [Nat.zero_add, List.take_of_length_le (by simp [hl])] at this)
  have hs0 : (str (f.take 100)).size = 100 := by rw [str_size]; simp [hl]
  have hs1 : (str (f.drop 100)).size = 100 := by rw [str_size]; simp [hl]
  have HE : Hid (str (f.take 100) ++ str (f.drop 100) = str f) := by show _ = _; rw [str_append, List.take_append_drop]
  generalize str (f.take 100) = s0 at *
  generalize str (f.drop 100) = s1 at *
  go_wp2
  go_region
  go_wp2
  go_ret
  exact ⟨ret_bytes HE.out, (Below.refl _ _).drew⟩

def pbits (l : List UInt8) : Nat → Int
  | 0 => 0
  | i + 1 => pbits l i + (if bAt l (15 + 21 * i) = 0 then 0 else 2 ^ i)

theorem pbits_bd (l : List UInt8) : ∀ i, 0 ≤ pbits l i ∧ pbits l i < 2 ^ i
  | 0 => by simp [pbits]
  | i + 1 => by
    have := pbits_bd l i
    rw [pbits, Int.pow_succ]
    split <;> omega
theorem or_bit (i : Nat) (bb : Int) (hi : i < 4) (h0 : 0 ≤ bb) (h1 : bb < 2 ^ i) : bits BinOp.or IntKind.u8 bb (2 ^ i % 256) = bb + 2 ^ i := by
  rcases (by omega : i = 0 ∨ i = 1 ∨ i = 2 ∨ i = 3) with rfl | rfl | rfl | rfl
  · obtain rfl : bb = 0 := by omega
    rfl
  · rcases (by omega : bb = 0 ∨ bb = 1) with rfl | rfl <;> rfl
  · rcases (by omega : bb = 0 ∨ bb = 1 ∨ bb = 2 ∨ bb = 3) with rfl | rfl | rfl | rfl <;> rfl
  · rcases (by omega : bb = 0 ∨ bb = 1 ∨ bb = 2 ∨ bb = 3 ∨ bb = 4 ∨ bb = 5 ∨ bb = 6 ∨ bb = 7) with rfl | rfl | rfl | rfl | rfl | rfl | rfl | rfl <;> rfl

set_option maxRecDepth 100000 in
set_option maxHeartbeats 1000000 in
theorem prog_slotBits (w : World) (g : Nat) (l : List UInt8) (h : ImgAt w g 0 l) :
    Calls Tryd.prog 90 #[.pointer (some ⟨g, 0, none⟩)] w fun r w' => r = .returned (.int .u8 (pbits l 4)) ∧ w' = w := by
  go_enter Tryd.func90, Tryd.ntmps90
  go_wp2
  go_loopw [3, 4, 5] (fun bv _ c wr => ∃ i : Nat, i ≤ 4 ∧ c = .int .i64 i ∧ bv = .int .u8 (pbits l i) ∧ wr = w) (fun _ _ c _ => 4 - (intOf c).toNat)
  case atStart => exact ⟨0, by omega, rfl, rfl, rfl⟩
  case round =>
    obtain ⟨i, hi, rfl, rfl, rfl⟩ := hrel
    by_cases hlt : i < 4
    · have hi4 : (i : Int) < 4 := by omega
      have hc := h.b (15 + 21 * i) (by omega)
      rw [Nat.zero_add] at hc
      by_cases hk : bAt l (15 + 21 * i) = 0
      · have HB : Hid (pbits l (i + 1) = pbits l i) := by show _ = _; rw [pbits, if_pos hk, Int.add_zero]
        rw [hk] at hc
        generalize pbits l i = bb at *
        go_wp2_with (first | (go_at_call 77; refine (prog_key _ g 0 i hlt).mono ?_; rintro _ w9 ⟨rfl, e9⟩; rw [e9]; clear e9 w9) | (go_at_call 32; refine (prog_none_yes _ g _ hc).mono ?_; rintro _ w9 ⟨rfl, e9⟩; rw [e9]; clear e9 w9))
        refine ⟨⟨i + 1, by omega, by go_num, ?_, trivial⟩, by simp [intOf]; omega⟩
        rw [HB.out]
      · have HB : Hid (pbits l (i + 1) = bits BinOp.or IntKind.u8 (pbits l i) (2 ^ i % 256)) := by show _ = _; rw [or_bit i _ hlt (pbits_bd l i).1 (pbits_bd l i).2, pbits, if_neg hk]
        generalize pbits l i = bb at *
        go_wp2_with (first | (go_at_call 77; refine (prog_key _ g 0 i hlt).mono ?_; rintro _ w9 ⟨rfl, e9⟩; rw [e9]; clear e9 w9) | (go_at_call 32; refine (prog_none_no _ g _ _ hk hc).mono ?_; rintro _ w9 ⟨rfl, e9⟩; rw [e9]; clear e9 w9))
        refine ⟨⟨i + 1, by omega, by go_num, ?_, trivial⟩, by simp [intOf]; omega⟩
        rw [HB.out]
    · obtain rfl : i = 4 := by omega
      have hge : ¬ ((4 : Nat) : Int) < 4 := by omega
      go_wp2
      go_ret
      exact ⟨rfl, rfl⟩
end Go.Proofs.YtaokemapkgggoaaDoor
