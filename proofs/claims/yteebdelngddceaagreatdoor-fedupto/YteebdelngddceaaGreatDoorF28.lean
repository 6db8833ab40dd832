import Derived.Test.YteebdelngddceaaGreatDoorF14
import Derived.Test.YteebdelngddceaaGreatDoorF27
import Derived.Lib.AppendStr
import Derived.Laws.OwnMore
namespace Go.Proofs.YteebdelngddceaaGreatDoor
open Go.RowKit

theorem ret_ib {a b : Int} {p q : Bool} (h : a = b) (k : p = q) : Ending.returned (.tuple #[.int .i64 a, .bool p]) = .returned (.tuple #[.int .i64 b, .bool q]) := by rw [h, k]
theorem ne_dec (y z : Int) : (y != z) = decide (¬ z = y) := by
  by_cases e : z = y
  · simp [e]
  · have e' : ¬ y = z := fun h => e h.symm
    simp [e, e']
theorem extL2 (b : ByteArray) (i j : Nat) : (b.extract i j).data.toList = (b.data.toList.drop i).take (j - i) := by
  rw [ByteArray.data_extract, Array.toList_extract, List.extract_eq_take_drop]

set_option maxRecDepth 100000 in
set_option maxHeartbeats 1000000 in
theorem prog_frameEnd_short (w : World) (s : ByteArray) (h : s.size < 2) :
    Calls Tryz.prog 73 #[.string s] w fun r w' => r = .returned (.tuple #[.int .i64 0, .bool false]) ∧ w' = w := by
  have h' : (s.size : Int) ≤ 1 := by omega
  go_enter Tryz.func73, Tryz.ntmps73
  go_wp2
  go_ret2
  exact ⟨rfl, rfl⟩

set_option maxRecDepth 100000 in
set_option maxHeartbeats 1000000 in
theorem prog_frameEnd_long (w : World) (s : ByteArray) (h : ¬ s.size < 2) (h48 : 48 < fLen s.data.toList) :
    Calls Tryz.prog 73 #[.string s] w fun r w' => r = .returned (.tuple #[.int .i64 0, .bool true]) ∧ w' = w := by
  have h' : ¬ (s.size : Int) ≤ 1 := by omega
  have hby1 := byte_at (s := s) (i := 1) (by omega)
  have hbd1 := getD_isB (bytesI_B s.data.toList) 1
  have HFL : Hid (((fLen s.data.toList : Nat) : Int) = (bytesI s.data.toList).getD 1 0) := by show _ = _; unfold fLen; omega
  rw [← HFL.out] at hby1 hbd1
  obtain ⟨hn0, hn1⟩ := hbd1
  generalize fLen s.data.toList = fl at *
  have h1s : (1 : Int) < s.size := by omega
  have h48' : (48 : Int) < fl := by omega
  go_enter Tryz.func73, Tryz.ntmps73
  go_wp2
  go_ret2
  exact ⟨rfl, rfl⟩

set_option maxRecDepth 100000 in
set_option maxHeartbeats 1000000 in
theorem prog_frameEnd_wait (w : World) (s : ByteArray) (h : ¬ s.size < 2) (h48 : fLen s.data.toList ≤ 48) (hw : s.size < fLen s.data.toList + 4) :
    Calls Tryz.prog 73 #[.string s] w fun r w' => r = .returned (.tuple #[.int .i64 0, .bool false]) ∧ w' = w := by
  have h' : ¬ (s.size : Int) ≤ 1 := by omega
  have hby1 := byte_at (s := s) (i := 1) (by omega)
  have hbd1 := getD_isB (bytesI_B s.data.toList) 1
  have HFL : Hid (((fLen s.data.toList : Nat) : Int) = (bytesI s.data.toList).getD 1 0) := by show _ = _; unfold fLen; omega
  rw [← HFL.out] at hby1 hbd1
  obtain ⟨hn0, hn1⟩ := hbd1
  generalize fLen s.data.toList = fl at *
  have h1s : (1 : Int) < s.size := by omega
  have h48' : ¬ (48 : Int) < fl := by omega
  have hw' : (s.size : Int) < 4 + (fl : Int) := by omega
  go_enter Tryz.func73, Tryz.ntmps73
  go_wp2
  go_ret2
  exact ⟨rfl, rfl⟩

set_option maxRecDepth 100000 in
set_option maxHeartbeats 1000000 in
theorem prog_frameEnd_whole (w : World) (s : ByteArray) (h : ¬ s.size < 2) (h48 : fLen s.data.toList ≤ 48) (hw : ¬ s.size < fLen s.data.toList + 4) :
    Calls Tryz.prog 73 #[.string s] w fun r w' => r = .returned (.tuple #[.int .i64 ((fLen s.data.toList : Int) + 4), .bool (decide (¬ (1 + sumB ((s.data.toList.drop 1).take (fLen s.data.toList + 2))) % 256 = (bytesI s.data.toList).getD (fLen s.data.toList + 3) 0))]) ∧ ∃ n, w' = w.drewN n := by
  have h' : ¬ (s.size : Int) ≤ 1 := by omega
  have hby1 := byte_at (s := s) (i := 1) (by omega)
  have hbd1 := getD_isB (bytesI_B s.data.toList) 1
  have HFL : Hid (((fLen s.data.toList : Nat) : Int) = (bytesI s.data.toList).getD 1 0) := by show _ = _; unfold fLen; omega
  rw [← HFL.out] at hby1 hbd1
  clear HFL
  obtain ⟨hn0, hn1⟩ := hbd1
  obtain ⟨fl, HFLN⟩ : ∃ fl, Hid (fl = fLen s.data.toList) := ⟨_, rfl⟩
  rw [← HFLN.out] at hby1 hn0 hn1 h48 hw
  rw [← HFLN.out]
  have hby3 := byte_at (s := s) (i := fl + 3) (by omega)
  obtain ⟨y, HY⟩ : ∃ y, Hid (y = (bytesI s.data.toList).getD (fl + 3) 0) := ⟨_, rfl⟩
  rw [← HY.out] at hby3
  rw [← HY.out]
  obtain ⟨q, HQ⟩ : ∃ q, Hid (q = s.extract 1 (fl + 3)) := ⟨_, rfl⟩
  have hql : Hid (q.data.toList = (s.data.toList.drop 1).take (fl + 2)) := by show _ = _; rw [HQ.out, extL2]; rfl
  have hqs : q.size ≤ 100 := by rw [HQ.out, ByteArray.size_extract]; omega
  have hqe : s.extract 1 (fl + 3) = q := HQ.out.symm
  clear HQ
  rw [← hql.out]
  obtain ⟨cv, HCV⟩ : ∃ cv, Hid (cv = (1 + sumB q.data.toList) % 256) := ⟨_, rfl⟩
  rw [← HCV.out]
  have h1s : (1 : Int) < s.size := by omega
  have h48' : ¬ (48 : Int) < fl := by omega
  have hw' : ¬ (s.size : Int) < 4 + (fl : Int) := by omega
  have e1 : IntKind.i64.wrap (4 + (fl : Int) - 1) = (fl : Int) + 3 := by rw [wrap_id _ (by omega) (by omega)]; omega
  have e2 : ((fl : Int) + 3).toNat = fl + 3 := by omega
  have e3 : (fl : Int) + 3 < s.size := by omega
  have e4 : (0 : Int) ≤ (fl : Int) + 3 := by omega
  have e5 : (fl : Int) + 3 ≤ s.size := by omega
  have e6 : (1 : Int) ≤ (fl : Int) + 3 := by omega
  go_enter Tryz.func73, Tryz.ntmps73
  go_wp2
  go_quiet ((go_at_call 89; exact Calls.quiet_of_same (prog_checkS _ q (by omega))))
  go_wp2
  go_ret2
  refine ⟨ret_ib (by omega) ?_, _, rfl⟩
  rw [HCV.out]
  exact ne_dec _ _
end Go.Proofs.YteebdelngddceaaGreatDoor

namespace Go.Proofs.YteebdelngddceaaGreatDoor
open Go.RowKit

theorem toBytes_bytesI (p : List UInt8) : toBytes (bytesI p) = p := by
  induction p with
  | nil => rfl
  | cons a l ih =>
    show UInt8.ofNat ((a.toNat : Int)).toNat :: toBytes (bytesI l) = _
    rw [ih, Int.toNat_natCast]
    simp
theorem Own.cap {w : World} {base : Nat} {k : IntKind} {e : TypeId} {g n c : Nat} {xs : List Int} (h : Own w base k e (.slice (some ⟨g, 0, none⟩) n c) xs) : n ≤ c := by
  obtain ⟨-, h2⟩ := h
  rcases h2 with ⟨hv, -⟩ | ⟨g', cap, cur, hv, -, -, hc, -⟩
  · cases hv
  · cases hv; exact hc
theorem told_toBytes (st : Int) (p : List UInt8) (h0 : 0 ≤ st) (h1 : st < 256) :
    toBytes ([165, (p.length : Int) % 256, st] ++ bytesI p ++ [(1 + sumB (b8 p.length :: b8 st :: p)) % 256]) = told st p := by
  have e : (1 + sumB (b8 p.length :: b8 st :: p)) % 256 = ((p.length : Int) + st + 1 + sumB p) % 256 := by
    simp only [sumB, b8_toNat]; omega
  rw [e]
  unfold told toBytes
  simp only [List.map_append, List.map_cons, List.map_nil]
  congr 1
  congr 1
  · rw [toBytes_b8 h0 h1]; rfl
  · exact toBytes_bytesI p

/-- a text appended to a list of bytes of the call's own -/
theorem wpList_appS {ops : Array Oper} {rest : List Oper} {o : Oper} {a : Act} {w : World} {Q : Exit → Act → World → Prop} (hgd : o.guard = none) (sl x : Operand)
    (ho : o.op = .call { callee := .builtin .append, args := #[sl, x], argTypes := #[49, 9] }) (base : Nat) (v : Value) (xs : List Int) (hs : a.eval sl = v) (hown : Own w base .u8 5 v xs) (s : ByteArray) (hx : a.eval x = .string s)
    (hlen : xs.length + s.size ≤ 100000000) (hbase : base ≤ w.heap.size)
    (h : ∀ v' w', Own w' base .u8 5 v' (xs ++ bytesI s.data.toList) → w.grownBy w' v.ownBlock → wpList Tryz.prog ops Q rest (a.put o.dst v') w') : wpList Tryz.prog ops Q (o :: rest) a w := by
  obtain ⟨i, hi, hz, h1, hb⟩ := info_parts slB.i
  refine Lib.wpList_append_own_string w hgd sl x _ _ ho base 5 i slB.u under_str hi hz h1 hb v xs.length _ hs hown s hx (by unfold maxLen; omega) (by omega) hbase ?_
  intro v' w' ho' hg _
  refine h v' w' ?_ hg
  unfold Own
  rw [List.length_append, List.map_append, show (bytesI s.data.toList).length = s.size by rw [bytesI_length, Array.length_toList]; rfl]
  have e : Lib.strCells s = (bytesI s.data.toList).map (Value.int .u8) := by simp [Lib.strCells, bytesI]
  rw [← e]
  exact ho'

theorem head_bytes (st : Int) (p : List UInt8) (h0 : 0 ≤ st) (h1 : st < 256) : [165, (p.length : Int) % 256, st] ++ bytesI p = 165 :: bytesI (b8 p.length :: b8 st :: p) := by
  have e1 := b8_toNat (p.length : Int)
  have e2 : ((b8 st).toNat : Int) = st := by rw [b8_toNat]; omega
  simp only [bytesI, List.map_cons]
  rw [e1, e2]
  rfl

set_option maxRecDepth 100000 in
set_option maxHeartbeats 1000000 in
theorem prog_answerOf (w : World) (st : Int) (s : ByteArray) (h0 : 0 ≤ st) (h1 : st < 256) (hs : s.size < 1000) :
    Calls Tryz.prog 75 #[.int .u8 st, .string s] w fun r w' => r = .returned (.string (str (told st s.data.toList))) ∧ Below w.heap.size w w' := by
  have hsz : Hid (s.size = s.data.toList.length) := by show _ = _; rw [Array.length_toList]; rfl
  have hw8 : ∀ x : Int, IntKind.u8.wrap x = x % 256 := u8_wrap
  obtain ⟨xs, HX⟩ : ∃ xs, Hid (xs = [165, (s.size : Int) % 256, st] ++ bytesI s.data.toList) := ⟨_, rfl⟩
  have hxl : Hid (xs.length = 3 + s.size) := by show _ = _; rw [HX.out, List.length_append, show (bytesI s.data.toList).length = s.size by rw [hsz.out]; simp [bytesI]]; rfl
  have hn1 : ¬ 3 + s.size = 1 := by omega
  obtain ⟨l, HL⟩ : ∃ l, Hid (l = b8 s.size :: b8 st :: s.data.toList) := ⟨_, rfl⟩
  have hll : Hid (l.length = 2 + s.size) := by show _ = _; rw [HL.out, hsz.out]; simp; omega
  have hxs : Hid (xs = 165 :: bytesI l) := by show _ = _; rw [HX.out, HL.out, hsz.out]; exact head_bytes st s.data.toList h0 h1
  obtain ⟨cv, HCV⟩ : ∃ cv, Hid (cv = (1 + sumB l) % 256) := ⟨_, rfl⟩
  go_enter Tryz.func75, Tryz.ntmps75
  go_wp2_with (first | (at_builtin; refine wpList_appS rfl (.tmp 10) (.tmp 11) rfl w.heap.size _ [165, (s.size : Int) % 256, st] rfl (World.ownsRow_lit w #[.int .u8 165, .int .u8 ((s.size : Int) % 256), .int .u8 st] 3 (Nat.le_refl _) (by unfold maxLen; omega) rfl) s rfl (by simp; omega) (by simp) ?_; intro v1 w1 hO1 hg1; rw [← HX.out] at hO1; have hB1 : Below w.heap.size w w1 := (Below.refl _ _).grown ((World.grownBy_alloc w _ _).trans hg1) (Nat.le_refl _) (fun g hg => by cases hg; exact Nat.le_refl _); obtain ⟨go, co, hv, hge, hlt, hcell, -⟩ := hO1.at (by rw [hxl.out]; omega); rw [hxl.out] at hv; subst hv; have hcap := hO1.cap; have HC : Hid _ := hcell; clear hg1 hcell) | (go_at_call 91; refine (prog_checkB w1 go 1 (2 + s.size) (co - 1) l (fun j v hv => by have hj := (List.getElem?_eq_some_iff.1 hv).1; rw [bcells_length] at hj; rw [bcells_get l j hj] at hv; rw [← hv, HC.out (1 + j) (by rw [hxl.out]; rw [hll.out] at hj; omega), hxs.out, Nat.add_comm 1 j]; rfl) hll.out (by omega)).mono ?_; rintro _ w9 ⟨rfl, e9⟩; rw [e9, ← HCV.out]; clear e9 w9) | (at_builtin; refine wpList_app1 rfl (.tmp 13) (.tmp 17) 49 5 .u8 1 rfl slB w.heap.size _ xs rfl hO1 _ _ _ rfl (by rw [hxl.out]; omega) hB1.size ?_; intro v2 w2 hO2 hg2 _; have hB2 : Below w.heap.size w w2 := below_grown hB1 hg2 hO1 hB1.size (Nat.le_refl _); have hl2 : (xs ++ [cv]).length = 4 + s.size := (by rw [List.length_append, hxl.out]; simp; omega); obtain ⟨g2, c2, hv2, -, -, hcell2, -⟩ := hO2.at (by rw [hl2]; omega); rw [hl2] at hv2; subst hv2; have hconv := run_convert_bytes_arg w2 49 5 under_bytes under_u8 g2 0 (4 + s.size) c2 (xs ++ [cv]) hl2 (fun i hi => by rw [Nat.zero_add]; exact hcell2 i (by rw [hl2]; exact hi)) 9 under_str; clear hcell2 hl2 hg2))
  go_ret
  refine ⟨ret_bytes ?_, hB2⟩
  rw [strOfNums_str, HX.out, HCV.out, HL.out, hsz.out, told_toBytes st s.data.toList h0 h1]
end Go.Proofs.YteebdelngddceaaGreatDoor
