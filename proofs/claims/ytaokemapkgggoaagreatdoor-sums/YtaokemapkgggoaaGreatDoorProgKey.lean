import Derived.Test.YtaokemapkgggoaaGreatDoorProgOut
import Derived.Deep.MidRow
import Derived.Laws.BytesArg
import Derived.Lib.BufferWrite
namespace Go.Proofs.YtaokemapkgggoaaGreatDoor
open Go.RowKit

theorem results_row2 {P : Program} {fn : Func} {p u : Tmp} {ty : TypeId} (hf : fn.results = #[.cell p ty, .tmp u]) (tmps : Array Value) (w : World) (g : Nat) (t : TypeId) (cs : List Value) (n : Nat) (z v : Value)
    (hp : tmps.getD p undef = .pointer (some ⟨g, 0, none⟩)) (hu : tmps.getD u undef = v) (hr : Row w g cs t) (ht : ArrT P ty n z) (hn : cs.length = n) : (results fn tmps).run P w = .ok (.tuple #[.agg cs.toArray, v]) w := by
  obtain ⟨e, hue⟩ := ht.u
  have hl := run_loadVar_row (P := P) w g t ty cs.toArray (0, 0) _ hr hue rfl (by rw [ht.size]; simp [hn])
  rw [results_cell_tmp hf, hp, hu]
  simp [asAddr, hl]

/-- a field of n cells with a text in it: its length, its bytes, bytes 0 -/
def fieldOf (n : Nat) (l : List UInt8) : List Int := (l.length : Int) :: blk (n - 1) l
theorem fieldOf_length (n : Nat) (l : List UInt8) (h : 1 ≤ n) : (fieldOf n l).length = n := by simp [fieldOf, blk_length]; omega
theorem field_cells (n : Nat) (l : List UInt8) (h : l.length < n) :
    ((zrow n (.int .u8 0)).set 0 (.int .u8 (l.length : Int))).take 1 ++ Lib.byteCells l ++ ((zrow n (.int .u8 0)).set 0 (.int .u8 (l.length : Int))).drop (1 + l.length) = u8s (fieldOf n l) := by
  obtain ⟨m, rfl⟩ : ∃ m, n = m + 1 := ⟨n - 1, by omega⟩
  have e : zrow (m + 1) (.int .u8 0) = .int .u8 0 :: zrow m (.int .u8 0) := by simp [zrow, List.replicate_succ]
  rw [e, List.set_cons_zero, Nat.add_comm 1]
  simp only [List.take_succ_cons, List.take_zero, List.drop_succ_cons]
  have hl : l.take m = l := List.take_of_length_le (by omega)
  simp [fieldOf, blk, hl, u8s, bytesI, zrow, Lib.byteCells]

set_option maxRecDepth 100000 in
set_option maxHeartbeats 400000 in
theorem prog_fill_no (s : ByteArray) (w : World) (p : Option Addr) (n : Nat) (h : n ≤ s.size) :
    Calls Tryz.prog 67 #[.slice p n n, .string s] w fun r w' => r = .returned (.bool false) ∧ w' = w := by
  have h' : (n : Int) ≤ s.size := by omega
  go_enter Tryz.func67, Tryz.ntmps67
  go_wp2
  go_ret
  exact ⟨rfl, rfl⟩

set_option maxRecDepth 100000 in
set_option maxHeartbeats 400000 in
theorem prog_fill_yes (s : ByteArray) (w : World) (g n : Nat) (t : TypeId) (hR : Row w g (zrow n (.int .u8 0)) t) (h : s.size < n) (hn : n ≤ 100) (h2 : 2 ≤ n) :
    Calls Tryz.prog 67 #[.slice (some ⟨g, 0, none⟩) n n, .string s] w fun r w' => r = .returned (.bool true) ∧ Row w' g (u8s (fieldOf n s.data.toList)) t ∧ Below g w w' := by
  have h' : ¬ (n : Int) ≤ s.size := by omega
  have h1n : ¬ n = 1 := by omega
  have hc : w.cell? ⟨g, 0, none⟩ = some (.int .u8 0) := by rw [hR.cell]; unfold zrow; rw [List.getElem?_replicate, if_pos (by omega)]
  have hf := hR.frozen 0
  have hR' := hR.setCell 0 (.int .u8 (s.size : Int))
  have hsz : s.size = s.data.toList.length := by rw [Array.length_toList]; rfl
  have hcp := Lib.run_copy_row_string (P := Tryz.prog) (w.setCell ⟨g, 0, none⟩ (.int .u8 (s.size : Int))) 49 9 3 5 g 1 (n - 1) (n - 1) s _ t under_bytes size_byte hR' (by omega) (by simp [zrow]; omega)
  rw [List.toList_toArray, hsz, field_cells n s.data.toList (by omega), ← hsz] at hcp
  clear hsz
  go_enter Tryz.func67, Tryz.ntmps67
  go_wp2
  go_ret
  exact ⟨rfl, hR'.setRow _, below_setRow ((Below.refl g w).setCell (Nat.le_refl g) _) (Nat.le_refl g) _⟩

set_option maxRecDepth 100000 in
set_option maxHeartbeats 1000000 in
theorem prog_keyOf_no (s : ByteArray) (w : World) (hs : 20 < s.size) :
    Calls Tryz.prog 44 #[.string s] w fun r w' => r = .returned (.tuple #[.agg (zrow 21 (.int .u8 0)).toArray, .bool false]) ∧ Below w.heap.size w w' := by
  go_enter Tryz.func44, Tryz.ntmps44
  go_wp2_with (first | (refine wpList_allocR rfl 79 rfl 21 (.int .u8 0) arr21b ?_; go_simp) | (go_at_call 67; refine (prog_fill_no s _ _ 21 (by omega)).mono ?_; rintro _ _ ⟨rfl, rfl⟩) | (refine wpList_loadR rfl 79 _ rfl (w.heap.size + 1) rfl 79 (zrow 21 (.int .u8 0)) 21 (.int .u8 0) (Row.made1 _ _ _ _) arr21b (zrow_length _ _) ?_; go_simp) | (refine wpList_storeR rfl 79 _ _ rfl w.heap.size rfl (zrow 21 (.int .u8 0)) rfl 79 (zrow 21 (.int .u8 0)) 21 (.int .u8 0) ((Row.made _ _ _).alloc _) arr21b (zrow_length _ _) (zrow_length _ _) (by rw [zrow_u8]; exact u8s_one _) ?_; go_simp))
  refine bodyPost_ret (v := .tuple #[.agg (zrow 21 (.int .u8 0)).toArray, .bool false]) (results_row2 Tryz.results44 _ _ w.heap.size 79 (zrow 21 (.int .u8 0)) 21 (.int .u8 0) (.bool false) rfl rfl (Row.setRow ((Row.made _ _ _).alloc _) _) arr21b (zrow_length _ _)) rfl ⟨rfl, ?_⟩
  exact below_setRow (((Below.refl _ _).alloc (Nat.le_refl _) _).alloc (by simp) _) (Nat.le_refl _) _

set_option maxRecDepth 100000 in
set_option maxHeartbeats 1000000 in
theorem prog_keyOf_yes (s : ByteArray) (w : World) (h2 : s.size ≤ 20) :
    Calls Tryz.prog 44 #[.string s] w fun r w' => r = .returned (.tuple #[.agg (u8s (fieldOf 21 s.data.toList)).toArray, .bool true]) ∧ Below w.heap.size w w' := by
  obtain ⟨b, HB⟩ : ∃ b, Hid (b = fieldOf 21 s.data.toList) := ⟨_, rfl⟩
  have HL : Hid ((u8s b).length = 21) := by show _ = _; rw [HB.out, u8s_length, fieldOf_length _ _ (by omega)]
  go_enter Tryz.func44, Tryz.ntmps44
  go_wp2_with (first | (refine wpList_allocR rfl 79 rfl 21 (.int .u8 0) arr21b ?_; go_simp) | (go_at_call 67; refine (prog_fill_yes s _ (w.heap.size + 1) 21 79 (Row.made1 _ _ _ _) (by omega) (by omega) (by omega)).mono ?_; rintro _ w1 ⟨rfl, hr1, hb1⟩; rw [← HB.out] at hr1; have ho : Row w1 w.heap.size (zrow 21 (.int .u8 0)) 79 := ((Row.made w _ _).alloc _).below hb1 (Nat.lt_succ_self _); have hw : Below w.heap.size w w1 := (((Below.refl _ _).alloc (Nat.le_refl _) _).alloc (by simp) _).trans (hb1.mono (Nat.le_succ _)); clear hb1) | (refine wpList_loadR rfl 79 _ rfl (w.heap.size + 1) rfl 79 (u8s b) 21 (.int .u8 0) hr1 arr21b HL.out ?_; go_simp) | (refine wpList_storeR rfl 79 _ _ rfl w.heap.size rfl (u8s b) rfl 79 (zrow 21 (.int .u8 0)) 21 (.int .u8 0) ho arr21b HL.out (zrow_length _ _) (u8s_one _) ?_; go_simp))
  refine bodyPost_ret (v := .tuple #[.agg (u8s b).toArray, .bool true]) (results_row2 Tryz.results44 _ _ w.heap.size 79 (u8s b) 21 (.int .u8 0) (.bool true) rfl rfl (Row.setRow ho _) arr21b HL.out) rfl ⟨by rw [HB.out], ?_⟩
  exact below_setRow hw (Nat.le_refl _) _

set_option maxRecDepth 100000 in
set_option maxHeartbeats 400000 in
/-- no key: by its length -/
theorem prog_none_yes (w : World) (g o : Nat) (hc : w.cell? ⟨g, o, none⟩ = some (.int .u8 0)) :
    Calls Tryz.prog 45 #[.pointer (some ⟨g, o, none⟩)] w fun r w' => r = .returned (.bool true) ∧ w' = w := by
  go_enter Tryz.func45, Tryz.ntmps45
  go_wp2
  go_ret
  exact ⟨rfl, rfl⟩

set_option maxRecDepth 100000 in
set_option maxHeartbeats 400000 in
theorem prog_none_no (w : World) (g o : Nat) (x : Int) (hx : ¬ x = 0) (hc : w.cell? ⟨g, o, none⟩ = some (.int .u8 x)) :
    Calls Tryz.prog 45 #[.pointer (some ⟨g, o, none⟩)] w fun r w' => r = .returned (.bool false) ∧ w' = w := by
  go_enter Tryz.func45, Tryz.ntmps45
  go_wp2
  go_ret
  exact ⟨by simp [hx], rfl⟩
end Go.Proofs.YtaokemapkgggoaaGreatDoor
