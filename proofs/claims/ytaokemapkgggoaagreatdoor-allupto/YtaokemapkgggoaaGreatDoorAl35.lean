import Derived.Test.YtaokemapkgggoaaGreatDoorAl33
import Derived.Deep.RegionHeld3
set_option linter.unusedSimpArgs false
namespace Go.Proofs.YtaokemapkgggoaaGreatDoor
open Go.RowKit

section
variable {P : Program} {o : Oper} {a : Act} {w w' : World} {K : Act → World → Prop} {Q : Exit → Act → World → Prop}
theorem wp_unit (hrun : (execOp a.eval o).run P w = .ok .skip w') (h : K (a.put o.dst undef) w') : o.wp P a w K Q := by
  unfold Oper.wp
  rw [hrun]
  exact h
end

/-- a key in an image -/
def keyL (l : List UInt8) (o : Nat) : ByteArray := str ((l.drop (o + 1)).take (bAt l o).toNat)
/-- what an image says -/
def readK (l : List UInt8) : Kep := ⟨numOf l, bAt l 5, str ((l.drop 7).take (bAt l 6).toNat), keyL l 15, keyL l 36, keyL l 57, keyL l 78⟩
def zeroK : Kep := ⟨0, 0, ⟨#[]⟩, ⟨#[]⟩, ⟨#[]⟩, ⟨#[]⟩, ⟨#[]⟩⟩
/-- an image is right -/
abbrev readOk (l : List UInt8) : Prop := (¬ numOf l = 0 ∧ bAt l 5 ≤ 5 ∧ 1 ≤ bAt l 6 ∧ bAt l 6 ≤ 8) ∧ (bAt l 15 ≤ 20 ∧ bAt l 36 ≤ 20 ∧ bAt l 57 ≤ 20 ∧ bAt l 78 ≤ 20) ∧ (readK l).img = l
theorem numOf_go (l : List UInt8) : ((bAt l 1 * 256 + bAt l 2) * 256 + bAt l 3) * 256 + bAt l 4 = numOf l := by
  unfold numOf word4
  omega

theorem results_box {P : Program} {fn : Func} {p u : Tmp} {ty : TypeId} (h : fn.results = #[.cell p ty, .tmp u]) (tmps : Array Value) (w : World) (b : Nat) (hp : tmps.getD p undef = .pointer (some ⟨b, 0, none⟩)) (cs : List Value) (hl : (loadVar ty ⟨b, 0, none⟩).run P w = .ok (.agg cs.toArray) w) :
    (results fn tmps).run P w = .ok (.tuple #[.agg cs.toArray, tmps.getD u undef]) w := by
  rw [results_cell_tmp h, hp]
  simp [asAddr, hl]
theorem read_made (w wa : World) (h : wa = (w.alloc (.cells ([.int .i64 0, .int .i64 0, .string ⟨#[]⟩, .string ⟨#[]⟩, .string ⟨#[]⟩, .string ⟨#[]⟩, .string ⟨#[]⟩] : List Value).toArray 34)).alloc (.cells ([.int .i64 0, .int .i64 0, .string ⟨#[]⟩, .string ⟨#[]⟩, .string ⟨#[]⟩, .string ⟨#[]⟩, .string ⟨#[]⟩] : List Value).toArray 34)) :
    Row wa w.heap.size [.int .i64 0, .int .i64 0, .string ⟨#[]⟩, .string ⟨#[]⟩, .string ⟨#[]⟩, .string ⟨#[]⟩, .string ⟨#[]⟩] 34 ∧ Row wa (w.heap.size + 1) [.int .i64 0, .int .i64 0, .string ⟨#[]⟩, .string ⟨#[]⟩, .string ⟨#[]⟩, .string ⟨#[]⟩, .string ⟨#[]⟩] 34 ∧ Below w.heap.size w wa := by
  have h1 : Row (w.alloc (.cells ([.int .i64 0, .int .i64 0, .string ⟨#[]⟩, .string ⟨#[]⟩, .string ⟨#[]⟩, .string ⟨#[]⟩, .string ⟨#[]⟩] : List Value).toArray 34)) w.heap.size [.int .i64 0, .int .i64 0, .string ⟨#[]⟩, .string ⟨#[]⟩, .string ⟨#[]⟩, .string ⟨#[]⟩, .string ⟨#[]⟩] 34 := Row.made w _ _
  have e : (w.alloc (.cells ([.int .i64 0, .int .i64 0, .string ⟨#[]⟩, .string ⟨#[]⟩, .string ⟨#[]⟩, .string ⟨#[]⟩, .string ⟨#[]⟩] : List Value).toArray 34)).heap.size = w.heap.size + 1 := Array.size_push ..
  have h2 : Row ((w.alloc (.cells ([.int .i64 0, .int .i64 0, .string ⟨#[]⟩, .string ⟨#[]⟩, .string ⟨#[]⟩, .string ⟨#[]⟩, .string ⟨#[]⟩] : List Value).toArray 34)).alloc (.cells ([.int .i64 0, .int .i64 0, .string ⟨#[]⟩, .string ⟨#[]⟩, .string ⟨#[]⟩, .string ⟨#[]⟩, .string ⟨#[]⟩] : List Value).toArray 34)) (w.alloc (.cells ([.int .i64 0, .int .i64 0, .string ⟨#[]⟩, .string ⟨#[]⟩, .string ⟨#[]⟩, .string ⟨#[]⟩, .string ⟨#[]⟩] : List Value).toArray 34)).heap.size [.int .i64 0, .int .i64 0, .string ⟨#[]⟩, .string ⟨#[]⟩, .string ⟨#[]⟩, .string ⟨#[]⟩, .string ⟨#[]⟩] 34 := Row.made _ _ _
  rw [e] at h2
  rw [h]
  exact ⟨Row.alloc h1 _, h2, ((Below.refl _ _).alloc (Nat.le_refl _) _).alloc (by rw [e]; omega) _⟩

set_option maxRecDepth 100000 in
set_option maxHeartbeats 1000000 in
theorem ref_read_early (w : World) (t : ByteArray) (ht : t.size = 100) (hbad : ¬ (¬ numOf t.data.toList = 0 ∧ bAt t.data.toList 5 ≤ 5 ∧ 1 ≤ bAt t.data.toList 6 ∧ bAt t.data.toList 6 ≤ 8)) :
    Calls Tryz.prog 60 #[.string t] w fun r w' => r = .returned (.tuple #[.agg zeroK.cells.toArray, .bool false]) ∧ Below w.heap.size w w' := by
  have hy1 := byte_at (s := t) (i := 1) (by omega)
  have hy2 := byte_at (s := t) (i := 2) (by omega)
  have hy3 := byte_at (s := t) (i := 3) (by omega)
  have hy4 := byte_at (s := t) (i := 4) (by omega)
  have hy5 := byte_at (s := t) (i := 5) (by omega)
  have hy6 := byte_at (s := t) (i := 6) (by omega)
  have HN := numOf_go t.data.toList
  have hb1 := bAt_B t.data.toList 1
  have hb2 := bAt_B t.data.toList 2
  have hb3 := bAt_B t.data.toList 3
  have hb4 := bAt_B t.data.toList 4
  have hb5 := bAt_B t.data.toList 5
  have hb6 := bAt_B t.data.toList 6
  rw [show (bytesI t.data.toList).getD 1 0 = bAt t.data.toList 1 from rfl] at hy1
  rw [show (bytesI t.data.toList).getD 2 0 = bAt t.data.toList 2 from rfl] at hy2
  rw [show (bytesI t.data.toList).getD 3 0 = bAt t.data.toList 3 from rfl] at hy3
  rw [show (bytesI t.data.toList).getD 4 0 = bAt t.data.toList 4 from rfl] at hy4
  rw [show (bytesI t.data.toList).getD 5 0 = bAt t.data.toList 5 from rfl] at hy5
  rw [show (bytesI t.data.toList).getD 6 0 = bAt t.data.toList 6 from rfl] at hy6
  rw [← HN] at hbad
  clear HN
  generalize bAt t.data.toList 1 = b1 at *
  generalize bAt t.data.toList 2 = b2 at *
  generalize bAt t.data.toList 3 = b3 at *
  generalize bAt t.data.toList 4 = b4 at *
  generalize bAt t.data.toList 5 = b5 at *
  generalize bAt t.data.toList 6 = b6 at *
  obtain ⟨hb10, hb11⟩ := hb1
  obtain ⟨hb20, hb21⟩ := hb2
  obtain ⟨hb30, hb31⟩ := hb3
  obtain ⟨hb40, hb41⟩ := hb4
  obtain ⟨hb50, hb51⟩ := hb5
  obtain ⟨hb60, hb61⟩ := hb6
  obtain ⟨wa, HWA⟩ : ∃ wa, Hid (wa = (w.alloc (.cells ([.int .i64 0, .int .i64 0, .string ⟨#[]⟩, .string ⟨#[]⟩, .string ⟨#[]⟩, .string ⟨#[]⟩, .string ⟨#[]⟩] : List Value).toArray 34)).alloc (.cells ([.int .i64 0, .int .i64 0, .string ⟨#[]⟩, .string ⟨#[]⟩, .string ⟨#[]⟩, .string ⟨#[]⟩, .string ⟨#[]⟩] : List Value).toArray 34)) := ⟨_, rfl⟩
  obtain ⟨hrr, hrk, hba⟩ := read_made w wa HWA.out
  have ck := hrk.cell (i := 0)
  have fk := hrk.frozen 0
  have ck0 : wa.cell? ⟨w.heap.size + 1, 0, none⟩ = some (.int .i64 0) := ck
  clear ck
  obtain ⟨wz, HWZ⟩ : ∃ wz, Hid (wz = (wa.drew).setCell ⟨w.heap.size + 1, 0, none⟩ (.int .i64 (((b1 * 256 + b2) * 256 + b3) * 256 + b4))) := ⟨_, rfl⟩
  go_enter Tryz.func60, Tryz.ntmps60
  go_wp2
  rw [← HWA.out]
  refine Code.wp_mono (Q := fun e_ a_ w_ => e_ = .normal ∧ a_ = Act.mk (List.toArray ((.string t) :: undef :: (.pointer (some ⟨w.heap.size, 0, none⟩)) :: (.bool false) :: (.pointer (some ⟨(w.heap.size + 1), 0, none⟩)) :: undef :: undef :: undef :: (.string t) :: (.int .u8 b1) :: (.int .i64 b1) :: (.int .i64 (b1 * 256)) :: (.string t) :: (.int .u8 b2) :: (.int .i64 b2) :: (.int .i64 (b1 * 256 + b2)) :: (.int .i64 ((b1 * 256 + b2) * 256)) :: (.string t) :: (.int .u8 b3) :: (.int .i64 b3) :: (.int .i64 ((b1 * 256 + b2) * 256 + b3)) :: (.int .i64 (((b1 * 256 + b2) * 256 + b3) * 256)) :: (.string t) :: (.int .u8 b4) :: (.int .i64 b4) :: (.int .i64 (((b1 * 256 + b2) * 256 + b3) * 256 + b4)) :: (.pointer (some ⟨(w.heap.size + 1), 0, none⟩)) :: undef :: undef :: undef :: undef :: undef :: undef :: undef :: undef :: undef :: undef :: undef :: undef :: undef :: undef :: undef :: undef :: undef :: undef :: undef :: undef :: undef :: undef :: undef :: undef :: undef :: undef :: undef :: undef :: undef :: undef :: undef :: undef :: undef :: undef :: undef :: undef :: undef :: undef :: undef :: undef :: undef :: undef :: undef :: undef :: undef :: undef :: undef :: undef :: undef :: undef :: undef :: undef :: undef :: undef :: undef :: undef :: undef :: undef :: undef :: undef :: [])) [] ∧ w_ = wz) ?_ ?_
  case refine_2 =>
    refine wp_region_held_drew (S := fun _ => True) (by kernel_rfl) trivial ?_
    intro _
    refine wpAnyH_take (i := 0) (v := .string t) rfl (by kernel_rfl) (by kernel_rfl) (by kernel_rfl) (fun _ _ _ h => no_panic h.1) (yields_of rfl (fun w' hw' => by go_simp <;> (rw [IntKind.wrap_i64]; omega))) trivial ?_
    try simp only [List.getElem_toArray, List.getElem_cons_succ, List.getElem_cons_zero, Act.put, List.setIfInBounds_toArray, List.set_cons_succ, List.set_cons_zero]
    refine wpAnyH_take (i := 1) (v := .int .u8 b1) rfl (by kernel_rfl) (by kernel_rfl) (by kernel_rfl) (fun _ _ _ h => no_panic h.1) (yields_of rfl (fun w' hw' => by go_simp <;> (rw [IntKind.wrap_i64]; omega))) trivial ?_
    try simp only [List.getElem_toArray, List.getElem_cons_succ, List.getElem_cons_zero, Act.put, List.setIfInBounds_toArray, List.set_cons_succ, List.set_cons_zero]
    refine wpAnyH_take (i := 2) (v := .int .i64 b1) rfl (by kernel_rfl) (by kernel_rfl) (by kernel_rfl) (fun _ _ _ h => no_panic h.1) (yields_of rfl (fun w' hw' => by go_simp <;> (rw [IntKind.wrap_i64]; omega))) trivial ?_
    try simp only [List.getElem_toArray, List.getElem_cons_succ, List.getElem_cons_zero, Act.put, List.setIfInBounds_toArray, List.set_cons_succ, List.set_cons_zero]
    refine wpAnyH_take (i := 3) (v := .int .i64 (b1 * 256)) rfl (by kernel_rfl) (by kernel_rfl) (by kernel_rfl) (fun _ _ _ h => no_panic h.1) (yields_of rfl (fun w' hw' => by go_simp <;> (rw [IntKind.wrap_i64]; omega))) trivial ?_
    try simp only [List.getElem_toArray, List.getElem_cons_succ, List.getElem_cons_zero, Act.put, List.setIfInBounds_toArray, List.set_cons_succ, List.set_cons_zero]
    refine wpAnyH_take (i := 4) (v := .string t) rfl (by kernel_rfl) (by kernel_rfl) (by kernel_rfl) (fun _ _ _ h => no_panic h.1) (yields_of rfl (fun w' hw' => by go_simp <;> (rw [IntKind.wrap_i64]; omega))) trivial ?_
    try simp only [List.getElem_toArray, List.getElem_cons_succ, List.getElem_cons_zero, Act.put, List.setIfInBounds_toArray, List.set_cons_succ, List.set_cons_zero]
    refine wpAnyH_take (i := 5) (v := .int .u8 b2) rfl (by kernel_rfl) (by kernel_rfl) (by kernel_rfl) (fun _ _ _ h => no_panic h.1) (yields_of rfl (fun w' hw' => by go_simp <;> (rw [IntKind.wrap_i64]; omega))) trivial ?_
    try simp only [List.getElem_toArray, List.getElem_cons_succ, List.getElem_cons_zero, Act.put, List.setIfInBounds_toArray, List.set_cons_succ, List.set_cons_zero]
    refine wpAnyH_take (i := 6) (v := .int .i64 b2) rfl (by kernel_rfl) (by kernel_rfl) (by kernel_rfl) (fun _ _ _ h => no_panic h.1) (yields_of rfl (fun w' hw' => by go_simp <;> (rw [IntKind.wrap_i64]; omega))) trivial ?_
    try simp only [List.getElem_toArray, List.getElem_cons_succ, List.getElem_cons_zero, Act.put, List.setIfInBounds_toArray, List.set_cons_succ, List.set_cons_zero]
    refine wpAnyH_take (i := 7) (v := .int .i64 (b1 * 256 + b2)) rfl (by kernel_rfl) (by kernel_rfl) (by kernel_rfl) (fun _ _ _ h => no_panic h.1) (yields_of rfl (fun w' hw' => by go_simp <;> (rw [IntKind.wrap_i64]; omega))) trivial ?_
    try simp only [List.getElem_toArray, List.getElem_cons_succ, List.getElem_cons_zero, Act.put, List.setIfInBounds_toArray, List.set_cons_succ, List.set_cons_zero]
    refine wpAnyH_take (i := 8) (v := .int .i64 ((b1 * 256 + b2) * 256)) rfl (by kernel_rfl) (by kernel_rfl) (by kernel_rfl) (fun _ _ _ h => no_panic h.1) (yields_of rfl (fun w' hw' => by go_simp <;> (rw [IntKind.wrap_i64]; omega))) trivial ?_
    try simp only [List.getElem_toArray, List.getElem_cons_succ, List.getElem_cons_zero, Act.put, List.setIfInBounds_toArray, List.set_cons_succ, List.set_cons_zero]
    refine wpAnyH_take (i := 9) (v := .string t) rfl (by kernel_rfl) (by kernel_rfl) (by kernel_rfl) (fun _ _ _ h => no_panic h.1) (yields_of rfl (fun w' hw' => by go_simp <;> (rw [IntKind.wrap_i64]; omega))) trivial ?_
    try simp only [List.getElem_toArray, List.getElem_cons_succ, List.getElem_cons_zero, Act.put, List.setIfInBounds_toArray, List.set_cons_succ, List.set_cons_zero]
    refine wpAnyH_take (i := 10) (v := .int .u8 b3) rfl (by kernel_rfl) (by kernel_rfl) (by kernel_rfl) (fun _ _ _ h => no_panic h.1) (yields_of rfl (fun w' hw' => by go_simp <;> (rw [IntKind.wrap_i64]; omega))) trivial ?_
    try simp only [List.getElem_toArray, List.getElem_cons_succ, List.getElem_cons_zero, Act.put, List.setIfInBounds_toArray, List.set_cons_succ, List.set_cons_zero]
    refine wpAnyH_take (i := 11) (v := .int .i64 b3) rfl (by kernel_rfl) (by kernel_rfl) (by kernel_rfl) (fun _ _ _ h => no_panic h.1) (yields_of rfl (fun w' hw' => by go_simp <;> (rw [IntKind.wrap_i64]; omega))) trivial ?_
    try simp only [List.getElem_toArray, List.getElem_cons_succ, List.getElem_cons_zero, Act.put, List.setIfInBounds_toArray, List.set_cons_succ, List.set_cons_zero]
    refine wpAnyH_take (i := 12) (v := .int .i64 ((b1 * 256 + b2) * 256 + b3)) rfl (by kernel_rfl) (by kernel_rfl) (by kernel_rfl) (fun _ _ _ h => no_panic h.1) (yields_of rfl (fun w' hw' => by go_simp <;> (rw [IntKind.wrap_i64]; omega))) trivial ?_
    try simp only [List.getElem_toArray, List.getElem_cons_succ, List.getElem_cons_zero, Act.put, List.setIfInBounds_toArray, List.set_cons_succ, List.set_cons_zero]
    refine wpAnyH_take (i := 13) (v := .int .i64 (((b1 * 256 + b2) * 256 + b3) * 256)) rfl (by kernel_rfl) (by kernel_rfl) (by kernel_rfl) (fun _ _ _ h => no_panic h.1) (yields_of rfl (fun w' hw' => by go_simp <;> (rw [IntKind.wrap_i64]; omega))) trivial ?_
    try simp only [List.getElem_toArray, List.getElem_cons_succ, List.getElem_cons_zero, Act.put, List.setIfInBounds_toArray, List.set_cons_succ, List.set_cons_zero]
    refine wpAnyH_take (i := 14) (v := .string t) rfl (by kernel_rfl) (by kernel_rfl) (by kernel_rfl) (fun _ _ _ h => no_panic h.1) (yields_of rfl (fun w' hw' => by go_simp <;> (rw [IntKind.wrap_i64]; omega))) trivial ?_
    try simp only [List.getElem_toArray, List.getElem_cons_succ, List.getElem_cons_zero, Act.put, List.setIfInBounds_toArray, List.set_cons_succ, List.set_cons_zero]
    refine wpAnyH_take (i := 15) (v := .int .u8 b4) rfl (by kernel_rfl) (by kernel_rfl) (by kernel_rfl) (fun _ _ _ h => no_panic h.1) (yields_of rfl (fun w' hw' => by go_simp <;> (rw [IntKind.wrap_i64]; omega))) trivial ?_
    try simp only [List.getElem_toArray, List.getElem_cons_succ, List.getElem_cons_zero, Act.put, List.setIfInBounds_toArray, List.set_cons_succ, List.set_cons_zero]
    refine wpAnyH_take (i := 16) (v := .int .i64 b4) rfl (by kernel_rfl) (by kernel_rfl) (by kernel_rfl) (fun _ _ _ h => no_panic h.1) (yields_of rfl (fun w' hw' => by go_simp <;> (rw [IntKind.wrap_i64]; omega))) trivial ?_
    try simp only [List.getElem_toArray, List.getElem_cons_succ, List.getElem_cons_zero, Act.put, List.setIfInBounds_toArray, List.set_cons_succ, List.set_cons_zero]
    refine wpAnyH_take (i := 17) (v := .int .i64 (((b1 * 256 + b2) * 256 + b3) * 256 + b4)) rfl (by kernel_rfl) (by kernel_rfl) (by kernel_rfl) (fun _ _ _ h => no_panic h.1) (yields_of rfl (fun w' hw' => by go_simp <;> (rw [IntKind.wrap_i64]; omega))) trivial ?_
    try simp only [List.getElem_toArray, List.getElem_cons_succ, List.getElem_cons_zero, Act.put, List.setIfInBounds_toArray, List.set_cons_succ, List.set_cons_zero]
    refine wpAnyH_take (i := 18) (v := .pointer (some ⟨(w.heap.size + 1), 0, none⟩)) rfl (by kernel_rfl) (by kernel_rfl) (by kernel_rfl) (fun _ _ _ h => no_panic h.1) (yields_of rfl (fun w' hw' => by go_simp <;> (rw [IntKind.wrap_i64]; omega))) trivial ?_
    try simp only [List.getElem_toArray, List.getElem_cons_succ, List.getElem_cons_zero, Act.put, List.setIfInBounds_toArray, List.set_cons_succ, List.set_cons_zero]
    refine wpAnyH_ready (rs := [19]) (by kernel_rfl) (by simp) (AllReadyH.cons (i := 19) rfl (fun K hK => ?_) AllReadyH.nil)
    refine step_of rfl ?_
    simp only [List.getElem_toArray, List.getElem_cons_succ, List.getElem_cons_zero, Act.put, List.setIfInBounds_toArray, List.set_cons_succ, List.set_cons_zero]
    refine wp_unit (w' := wz) ?_ (hK.out _ _ trivial (fun _ => ?_))
    · rw [HWZ.out]; go_simp
    try simp only [List.getElem_toArray, List.getElem_cons_succ, List.getElem_cons_zero, Act.put, List.setIfInBounds_toArray, List.set_cons_succ, List.set_cons_zero]
    exact wpAnyH_done (by kernel_rfl) ⟨rfl, rfl, rfl⟩ _
  rintro _ _ wq ⟨rfl, rfl, hwq⟩
  rw [hwq]
  clear hwq wq
  have hrz := (hrk.drew).setCell 0 (.int .i64 (((b1 * 256 + b2) * 256 + b3) * 256 + b4))
  have hrr' := Row.setCell_other hrr.drew ⟨w.heap.size + 1, 0, none⟩ (.int .i64 (((b1 * 256 + b2) * 256 + b3) * 256 + b4)) (by show ¬ w.heap.size = w.heap.size + 1; omega)
  have hbz : Below w.heap.size w wz := by rw [HWZ.out]; exact (hba.drew).setCell (by show w.heap.size ≤ w.heap.size + 1; omega) _
  rw [← HWZ.out] at hrz hrr'
  clear HWZ HWA hrr hrk hba ck0 fk wa
  generalize hnum : ((b1 * 256 + b2) * 256 + b3) * 256 + b4 = num at *
  clear hnum hy1 hy2 hy3 hy4 hb10 hb11 hb20 hb21 hb30 hb31 hb40 hb41
  obtain ⟨k0, k1, k2, k3, k4, k5, k6⟩ := row7 hrz
  obtain ⟨r0, r1, r2, r3, r4, r5, r6⟩ := row7 hrr'
  have fz := hrz.frozen
  have fr := hrr'.frozen
  obtain ⟨fs, hu⟩ := underKept
  have HU : Hid _ := hu
  have HSZ : Hid ((Tryz.prog.info? 34).map (·.size) = some zeroK.cells.length) := sizeKept
  clear hu
  have hcs : num = 0 ∨ 5 < b5 ∨ b6 < 1 ∨ 8 < b6 := by omega
  clear hbad
  by_cases e1 : num = 0
  · subst e1
    go_wp2
    have hfin := ((((((((Row.setCell_other hrr' ⟨w.heap.size + 1, 1, none⟩ (.int .i64 b5) (by show ¬ w.heap.size = w.heap.size + 1; omega)).setCell 0 (.int .i64 0)).setCell 1 (.int .i64 0)).setCell 2 (.string ⟨#[]⟩)).setCell 3 (.string ⟨#[]⟩)).setCell 4 (.string ⟨#[]⟩)).setCell 5 (.string ⟨#[]⟩)).setCell 6 (.string ⟨#[]⟩))
    refine bodyPost_ret (results_box rfl _ _ w.heap.size rfl zeroK.cells (run_loadVar_mid _ w.heap.size 0 _ _ _ (Row.range hfin) HU.out rfl HSZ.out)) rfl ?_
    exact ⟨rfl, (((((((hbz.setCell (Nat.le_succ _) _).setCell (Nat.le_refl _) _).setCell (Nat.le_refl _) _).setCell (Nat.le_refl _) _).setCell (Nat.le_refl _) _).setCell (Nat.le_refl _) _).setCell (Nat.le_refl _) _).setCell (Nat.le_refl _) _⟩
  · by_cases e2 : 5 < b5
    · go_wp2
      have hfin := ((((((((Row.setCell_other hrr' ⟨w.heap.size + 1, 1, none⟩ (.int .i64 b5) (by show ¬ w.heap.size = w.heap.size + 1; omega)).setCell 0 (.int .i64 0)).setCell 1 (.int .i64 0)).setCell 2 (.string ⟨#[]⟩)).setCell 3 (.string ⟨#[]⟩)).setCell 4 (.string ⟨#[]⟩)).setCell 5 (.string ⟨#[]⟩)).setCell 6 (.string ⟨#[]⟩))
      refine bodyPost_ret (results_box rfl _ _ w.heap.size rfl zeroK.cells (run_loadVar_mid _ w.heap.size 0 _ _ _ (Row.range hfin) HU.out rfl HSZ.out)) rfl ?_
      exact ⟨rfl, (((((((hbz.setCell (Nat.le_succ _) _).setCell (Nat.le_refl _) _).setCell (Nat.le_refl _) _).setCell (Nat.le_refl _) _).setCell (Nat.le_refl _) _).setCell (Nat.le_refl _) _).setCell (Nat.le_refl _) _).setCell (Nat.le_refl _) _⟩
    · have e2' : ¬ 5 < b5 := e2
      by_cases e3 : b6 < 1
      · go_wp2
        have hfin := ((((((((Row.setCell_other hrr' ⟨w.heap.size + 1, 1, none⟩ (.int .i64 b5) (by show ¬ w.heap.size = w.heap.size + 1; omega)).setCell 0 (.int .i64 0)).setCell 1 (.int .i64 0)).setCell 2 (.string ⟨#[]⟩)).setCell 3 (.string ⟨#[]⟩)).setCell 4 (.string ⟨#[]⟩)).setCell 5 (.string ⟨#[]⟩)).setCell 6 (.string ⟨#[]⟩))
        refine bodyPost_ret (results_box rfl _ _ w.heap.size rfl zeroK.cells (run_loadVar_mid _ w.heap.size 0 _ _ _ (Row.range hfin) HU.out rfl HSZ.out)) rfl ?_
        exact ⟨rfl, (((((((hbz.setCell (Nat.le_succ _) _).setCell (Nat.le_refl _) _).setCell (Nat.le_refl _) _).setCell (Nat.le_refl _) _).setCell (Nat.le_refl _) _).setCell (Nat.le_refl _) _).setCell (Nat.le_refl _) _).setCell (Nat.le_refl _) _⟩
      · have e4 : 8 < b6 := by omega
        go_wp2
        have hfin := ((((((((Row.setCell_other hrr' ⟨w.heap.size + 1, 1, none⟩ (.int .i64 b5) (by show ¬ w.heap.size = w.heap.size + 1; omega)).setCell 0 (.int .i64 0)).setCell 1 (.int .i64 0)).setCell 2 (.string ⟨#[]⟩)).setCell 3 (.string ⟨#[]⟩)).setCell 4 (.string ⟨#[]⟩)).setCell 5 (.string ⟨#[]⟩)).setCell 6 (.string ⟨#[]⟩))
        refine bodyPost_ret (results_box rfl _ _ w.heap.size rfl zeroK.cells (run_loadVar_mid _ w.heap.size 0 _ _ _ (Row.range hfin) HU.out rfl HSZ.out)) rfl ?_
        exact ⟨rfl, (((((((hbz.setCell (Nat.le_succ _) _).setCell (Nat.le_refl _) _).setCell (Nat.le_refl _) _).setCell (Nat.le_refl _) _).setCell (Nat.le_refl _) _).setCell (Nat.le_refl _) _).setCell (Nat.le_refl _) _).setCell (Nat.le_refl _) _⟩

theorem ext_key (t : ByteArray) (o n : Nat) : t.extract (o + 1) (o + 1 + n) = str ((t.data.toList.drop (o + 1)).take n) := by
  rw [← list_str (t.extract (o + 1) (o + 1 + n)), ByteArray.data_extract, Array.toList_extract, List.extract_eq_take_drop, show o + 1 + n - (o + 1) = n by omega]

set_option maxRecDepth 100000 in
set_option maxHeartbeats 2000000 in
theorem ref_read_late (w : World) (t : ByteArray) (ht : t.size = 100) (hg0 : ¬ numOf t.data.toList = 0) (hg1 : bAt t.data.toList 5 ≤ 5) (hg2 : 1 ≤ bAt t.data.toList 6) (hg3 : bAt t.data.toList 6 ≤ 8) :
    Calls Tryz.prog 60 #[.string t] w fun r w' => ((readOk t.data.toList ∧ r = .returned (.tuple #[.agg (readK t.data.toList).cells.toArray, .bool true])) ∨ (¬ readOk t.data.toList ∧ r = .returned (.tuple #[.agg zeroK.cells.toArray, .bool false]))) ∧ Below w.heap.size w w' := by
  obtain ⟨R, HR⟩ : ∃ R, Hid (R = readK t.data.toList) := ⟨_, rfl⟩
  have HRO : Hid (readOk t.data.toList ↔ ((bAt t.data.toList 15 ≤ 20 ∧ bAt t.data.toList 36 ≤ 20 ∧ bAt t.data.toList 57 ≤ 20 ∧ bAt t.data.toList 78 ≤ 20) ∧ R.img = t.data.toList)) := by
    show _ ↔ _
    rw [HR.out]
    exact ⟨fun h => h.2, fun h => ⟨⟨hg0, hg1, hg2, hg3⟩, h⟩⟩
  rw [← HR.out]
  obtain ⟨RO, HROP⟩ : ∃ RO : Prop, Hid (RO = readOk t.data.toList) := ⟨_, rfl⟩
  rw [← HROP.out] at HRO ⊢
  have HRK : Hid (R = ⟨numOf t.data.toList, bAt t.data.toList 5, t.extract 7 (7 + (bAt t.data.toList 6).toNat), keyL t.data.toList 15, keyL t.data.toList 36, keyL t.data.toList 57, keyL t.data.toList 78⟩) := by
    show _ = _
    rw [HR.out, ext_key t 6]
    rfl
  have hyb0 := byte_at (s := t) (i := 15) (by omega)
  have hyB0 := bAt_B t.data.toList 15
  rw [show (bytesI t.data.toList).getD 15 0 = bAt t.data.toList 15 from rfl] at hyb0
  obtain ⟨y0, HY0⟩ : ∃ y, Hid (y = bAt t.data.toList 15) := ⟨_, rfl⟩
  rw [← HY0.out] at hyb0 hyB0
  obtain ⟨hyB00, hyB01⟩ := hyB0
  obtain ⟨q0, HQ0⟩ : ∃ q, Hid (q = t.extract 16 (16 + y0.toNat)) := ⟨_, rfl⟩
  have HK0 : Hid (q0 = keyL t.data.toList 15) := by show _ = _; rw [HQ0.out, HY0.out]; exact ext_key t 15 _
  have hyb1 := byte_at (s := t) (i := 36) (by omega)
  have hyB1 := bAt_B t.data.toList 36
  rw [show (bytesI t.data.toList).getD 36 0 = bAt t.data.toList 36 from rfl] at hyb1
  obtain ⟨y1, HY1⟩ : ∃ y, Hid (y = bAt t.data.toList 36) := ⟨_, rfl⟩
  rw [← HY1.out] at hyb1 hyB1
  obtain ⟨hyB10, hyB11⟩ := hyB1
  obtain ⟨q1, HQ1⟩ : ∃ q, Hid (q = t.extract 37 (37 + y1.toNat)) := ⟨_, rfl⟩
  have HK1 : Hid (q1 = keyL t.data.toList 36) := by show _ = _; rw [HQ1.out, HY1.out]; exact ext_key t 36 _
  have hyb2 := byte_at (s := t) (i := 57) (by omega)
  have hyB2 := bAt_B t.data.toList 57
  rw [show (bytesI t.data.toList).getD 57 0 = bAt t.data.toList 57 from rfl] at hyb2
  obtain ⟨y2, HY2⟩ : ∃ y, Hid (y = bAt t.data.toList 57) := ⟨_, rfl⟩
  rw [← HY2.out] at hyb2 hyB2
  obtain ⟨hyB20, hyB21⟩ := hyB2
  obtain ⟨q2, HQ2⟩ : ∃ q, Hid (q = t.extract 58 (58 + y2.toNat)) := ⟨_, rfl⟩
  have HK2 : Hid (q2 = keyL t.data.toList 57) := by show _ = _; rw [HQ2.out, HY2.out]; exact ext_key t 57 _
  have hyb3 := byte_at (s := t) (i := 78) (by omega)
  have hyB3 := bAt_B t.data.toList 78
  rw [show (bytesI t.data.toList).getD 78 0 = bAt t.data.toList 78 from rfl] at hyb3
  obtain ⟨y3, HY3⟩ : ∃ y, Hid (y = bAt t.data.toList 78) := ⟨_, rfl⟩
  rw [← HY3.out] at hyb3 hyB3
  obtain ⟨hyB30, hyB31⟩ := hyB3
  obtain ⟨q3, HQ3⟩ : ∃ q, Hid (q = t.extract 79 (79 + y3.toNat)) := ⟨_, rfl⟩
  have HK3 : Hid (q3 = keyL t.data.toList 78) := by show _ = _; rw [HQ3.out, HY3.out]; exact ext_key t 78 _
  rw [← HK0.out] at HRK
  rw [← HY0.out] at HRO
  rw [← HK1.out] at HRK
  rw [← HY1.out] at HRO
  rw [← HK2.out] at HRK
  rw [← HY2.out] at HRO
  rw [← HK3.out] at HRK
  rw [← HY3.out] at HRO
  clear HK0 HK1 HK2 HK3 HY0 HY1 HY2 HY3 HR HROP
  have hy1 := byte_at (s := t) (i := 1) (by omega)
  have hy2 := byte_at (s := t) (i := 2) (by omega)
  have hy3 := byte_at (s := t) (i := 3) (by omega)
  have hy4 := byte_at (s := t) (i := 4) (by omega)
  have hy5 := byte_at (s := t) (i := 5) (by omega)
  have hy6 := byte_at (s := t) (i := 6) (by omega)
  have HN := numOf_go t.data.toList
  have hb1 := bAt_B t.data.toList 1
  have hb2 := bAt_B t.data.toList 2
  have hb3 := bAt_B t.data.toList 3
  have hb4 := bAt_B t.data.toList 4
  have hb5 := bAt_B t.data.toList 5
  have hb6 := bAt_B t.data.toList 6
  rw [show (bytesI t.data.toList).getD 1 0 = bAt t.data.toList 1 from rfl] at hy1
  rw [show (bytesI t.data.toList).getD 2 0 = bAt t.data.toList 2 from rfl] at hy2
  rw [show (bytesI t.data.toList).getD 3 0 = bAt t.data.toList 3 from rfl] at hy3
  rw [show (bytesI t.data.toList).getD 4 0 = bAt t.data.toList 4 from rfl] at hy4
  rw [show (bytesI t.data.toList).getD 5 0 = bAt t.data.toList 5 from rfl] at hy5
  rw [show (bytesI t.data.toList).getD 6 0 = bAt t.data.toList 6 from rfl] at hy6
  rw [← HN] at hg0
  have HNK : Hid (((bAt t.data.toList 1 * 256 + bAt t.data.toList 2) * 256 + bAt t.data.toList 3) * 256 + bAt t.data.toList 4 = numOf t.data.toList) := HN
  clear HN
  rw [← HNK.out] at HRK
  clear HNK
  generalize bAt t.data.toList 1 = b1 at *
  generalize bAt t.data.toList 2 = b2 at *
  generalize bAt t.data.toList 3 = b3 at *
  generalize bAt t.data.toList 4 = b4 at *
  generalize bAt t.data.toList 5 = b5 at *
  generalize bAt t.data.toList 6 = b6 at *
  obtain ⟨hb10, hb11⟩ := hb1
  obtain ⟨hb20, hb21⟩ := hb2
  obtain ⟨hb30, hb31⟩ := hb3
  obtain ⟨hb40, hb41⟩ := hb4
  obtain ⟨hb50, hb51⟩ := hb5
  obtain ⟨hb60, hb61⟩ := hb6
  obtain ⟨wa, HWA⟩ : ∃ wa, Hid (wa = (w.alloc (.cells ([.int .i64 0, .int .i64 0, .string ⟨#[]⟩, .string ⟨#[]⟩, .string ⟨#[]⟩, .string ⟨#[]⟩, .string ⟨#[]⟩] : List Value).toArray 34)).alloc (.cells ([.int .i64 0, .int .i64 0, .string ⟨#[]⟩, .string ⟨#[]⟩, .string ⟨#[]⟩, .string ⟨#[]⟩, .string ⟨#[]⟩] : List Value).toArray 34)) := ⟨_, rfl⟩
  obtain ⟨hrr, hrk, hba⟩ := read_made w wa HWA.out
  have ck := hrk.cell (i := 0)
  have fk := hrk.frozen 0
  have ck0 : wa.cell? ⟨w.heap.size + 1, 0, none⟩ = some (.int .i64 0) := ck
  clear ck
  obtain ⟨wz, HWZ⟩ : ∃ wz, Hid (wz = (wa.drew).setCell ⟨w.heap.size + 1, 0, none⟩ (.int .i64 (((b1 * 256 + b2) * 256 + b3) * 256 + b4))) := ⟨_, rfl⟩
  go_enter Tryz.func60, Tryz.ntmps60
  go_wp2
  rw [← HWA.out]
  refine Code.wp_mono (Q := fun e_ a_ w_ => e_ = .normal ∧ a_ = Act.mk (List.toArray ((.string t) :: undef :: (.pointer (some ⟨w.heap.size, 0, none⟩)) :: (.bool false) :: (.pointer (some ⟨(w.heap.size + 1), 0, none⟩)) :: undef :: undef :: undef :: (.string t) :: (.int .u8 b1) :: (.int .i64 b1) :: (.int .i64 (b1 * 256)) :: (.string t) :: (.int .u8 b2) :: (.int .i64 b2) :: (.int .i64 (b1 * 256 + b2)) :: (.int .i64 ((b1 * 256 + b2) * 256)) :: (.string t) :: (.int .u8 b3) :: (.int .i64 b3) :: (.int .i64 ((b1 * 256 + b2) * 256 + b3)) :: (.int .i64 (((b1 * 256 + b2) * 256 + b3) * 256)) :: (.string t) :: (.int .u8 b4) :: (.int .i64 b4) :: (.int .i64 (((b1 * 256 + b2) * 256 + b3) * 256 + b4)) :: (.pointer (some ⟨(w.heap.size + 1), 0, none⟩)) :: undef :: undef :: undef :: undef :: undef :: undef :: undef :: undef :: undef :: undef :: undef :: undef :: undef :: undef :: undef :: undef :: undef :: undef :: undef :: undef :: undef :: undef :: undef :: undef :: undef :: undef :: undef :: undef :: undef :: undef :: undef :: undef :: undef :: undef :: undef :: undef :: undef :: undef :: undef :: undef :: undef :: undef :: undef :: undef :: undef :: undef :: undef :: undef :: undef :: undef :: undef :: undef :: undef :: undef :: undef :: undef :: undef :: undef :: undef :: undef :: [])) [] ∧ w_ = wz) ?_ ?_
  case refine_2 =>
    refine wp_region_held_drew (S := fun _ => True) (by kernel_rfl) trivial ?_
    intro _
    refine wpAnyH_take (i := 0) (v := .string t) rfl (by kernel_rfl) (by kernel_rfl) (by kernel_rfl) (fun _ _ _ h => no_panic h.1) (yields_of rfl (fun w' hw' => by go_simp <;> (rw [IntKind.wrap_i64]; omega))) trivial ?_
    try simp only [List.getElem_toArray, List.getElem_cons_succ, List.getElem_cons_zero, Act.put, List.setIfInBounds_toArray, List.set_cons_succ, List.set_cons_zero]
    refine wpAnyH_take (i := 1) (v := .int .u8 b1) rfl (by kernel_rfl) (by kernel_rfl) (by kernel_rfl) (fun _ _ _ h => no_panic h.1) (yields_of rfl (fun w' hw' => by go_simp <;> (rw [IntKind.wrap_i64]; omega))) trivial ?_
    try simp only [List.getElem_toArray, List.getElem_cons_succ, List.getElem_cons_zero, Act.put, List.setIfInBounds_toArray, List.set_cons_succ, List.set_cons_zero]
    refine wpAnyH_take (i := 2) (v := .int .i64 b1) rfl (by kernel_rfl) (by kernel_rfl) (by kernel_rfl) (fun _ _ _ h => no_panic h.1) (yields_of rfl (fun w' hw' => by go_simp <;> (rw [IntKind.wrap_i64]; omega))) trivial ?_
    try simp only [List.getElem_toArray, List.getElem_cons_succ, List.getElem_cons_zero, Act.put, List.setIfInBounds_toArray, List.set_cons_succ, List.set_cons_zero]
    refine wpAnyH_take (i := 3) (v := .int .i64 (b1 * 256)) rfl (by kernel_rfl) (by kernel_rfl) (by kernel_rfl) (fun _ _ _ h => no_panic h.1) (yields_of rfl (fun w' hw' => by go_simp <;> (rw [IntKind.wrap_i64]; omega))) trivial ?_
    try simp only [List.getElem_toArray, List.getElem_cons_succ, List.getElem_cons_zero, Act.put, List.setIfInBounds_toArray, List.set_cons_succ, List.set_cons_zero]
    refine wpAnyH_take (i := 4) (v := .string t) rfl (by kernel_rfl) (by kernel_rfl) (by kernel_rfl) (fun _ _ _ h => no_panic h.1) (yields_of rfl (fun w' hw' => by go_simp <;> (rw [IntKind.wrap_i64]; omega))) trivial ?_
    try simp only [List.getElem_toArray, List.getElem_cons_succ, List.getElem_cons_zero, Act.put, List.setIfInBounds_toArray, List.set_cons_succ, List.set_cons_zero]
    refine wpAnyH_take (i := 5) (v := .int .u8 b2) rfl (by kernel_rfl) (by kernel_rfl) (by kernel_rfl) (fun _ _ _ h => no_panic h.1) (yields_of rfl (fun w' hw' => by go_simp <;> (rw [IntKind.wrap_i64]; omega))) trivial ?_
    try simp only [List.getElem_toArray, List.getElem_cons_succ, List.getElem_cons_zero, Act.put, List.setIfInBounds_toArray, List.set_cons_succ, List.set_cons_zero]
    refine wpAnyH_take (i := 6) (v := .int .i64 b2) rfl (by kernel_rfl) (by kernel_rfl) (by kernel_rfl) (fun _ _ _ h => no_panic h.1) (yields_of rfl (fun w' hw' => by go_simp <;> (rw [IntKind.wrap_i64]; omega))) trivial ?_
    try simp only [List.getElem_toArray, List.getElem_cons_succ, List.getElem_cons_zero, Act.put, List.setIfInBounds_toArray, List.set_cons_succ, List.set_cons_zero]
    refine wpAnyH_take (i := 7) (v := .int .i64 (b1 * 256 + b2)) rfl (by kernel_rfl) (by kernel_rfl) (by kernel_rfl) (fun _ _ _ h => no_panic h.1) (yields_of rfl (fun w' hw' => by go_simp <;> (rw [IntKind.wrap_i64]; omega))) trivial ?_
    try simp only [List.getElem_toArray, List.getElem_cons_succ, List.getElem_cons_zero, Act.put, List.setIfInBounds_toArray, List.set_cons_succ, List.set_cons_zero]
    refine wpAnyH_take (i := 8) (v := .int .i64 ((b1 * 256 + b2) * 256)) rfl (by kernel_rfl) (by kernel_rfl) (by kernel_rfl) (fun _ _ _ h => no_panic h.1) (yields_of rfl (fun w' hw' => by go_simp <;> (rw [IntKind.wrap_i64]; omega))) trivial ?_
    try simp only [List.getElem_toArray, List.getElem_cons_succ, List.getElem_cons_zero, Act.put, List.setIfInBounds_toArray, List.set_cons_succ, List.set_cons_zero]
    refine wpAnyH_take (i := 9) (v := .string t) rfl (by kernel_rfl) (by kernel_rfl) (by kernel_rfl) (fun _ _ _ h => no_panic h.1) (yields_of rfl (fun w' hw' => by go_simp <;> (rw [IntKind.wrap_i64]; omega))) trivial ?_
    try simp only [List.getElem_toArray, List.getElem_cons_succ, List.getElem_cons_zero, Act.put, List.setIfInBounds_toArray, List.set_cons_succ, List.set_cons_zero]
    refine wpAnyH_take (i := 10) (v := .int .u8 b3) rfl (by kernel_rfl) (by kernel_rfl) (by kernel_rfl) (fun _ _ _ h => no_panic h.1) (yields_of rfl (fun w' hw' => by go_simp <;> (rw [IntKind.wrap_i64]; omega))) trivial ?_
    try simp only [List.getElem_toArray, List.getElem_cons_succ, List.getElem_cons_zero, Act.put, List.setIfInBounds_toArray, List.set_cons_succ, List.set_cons_zero]
    refine wpAnyH_take (i := 11) (v := .int .i64 b3) rfl (by kernel_rfl) (by kernel_rfl) (by kernel_rfl) (fun _ _ _ h => no_panic h.1) (yields_of rfl (fun w' hw' => by go_simp <;> (rw [IntKind.wrap_i64]; omega))) trivial ?_
    try simp only [List.getElem_toArray, List.getElem_cons_succ, List.getElem_cons_zero, Act.put, List.setIfInBounds_toArray, List.set_cons_succ, List.set_cons_zero]
    refine wpAnyH_take (i := 12) (v := .int .i64 ((b1 * 256 + b2) * 256 + b3)) rfl (by kernel_rfl) (by kernel_rfl) (by kernel_rfl) (fun _ _ _ h => no_panic h.1) (yields_of rfl (fun w' hw' => by go_simp <;> (rw [IntKind.wrap_i64]; omega))) trivial ?_
    try simp only [List.getElem_toArray, List.getElem_cons_succ, List.getElem_cons_zero, Act.put, List.setIfInBounds_toArray, List.set_cons_succ, List.set_cons_zero]
    refine wpAnyH_take (i := 13) (v := .int .i64 (((b1 * 256 + b2) * 256 + b3) * 256)) rfl (by kernel_rfl) (by kernel_rfl) (by kernel_rfl) (fun _ _ _ h => no_panic h.1) (yields_of rfl (fun w' hw' => by go_simp <;> (rw [IntKind.wrap_i64]; omega))) trivial ?_
    try simp only [List.getElem_toArray, List.getElem_cons_succ, List.getElem_cons_zero, Act.put, List.setIfInBounds_toArray, List.set_cons_succ, List.set_cons_zero]
    refine wpAnyH_take (i := 14) (v := .string t) rfl (by kernel_rfl) (by kernel_rfl) (by kernel_rfl) (fun _ _ _ h => no_panic h.1) (yields_of rfl (fun w' hw' => by go_simp <;> (rw [IntKind.wrap_i64]; omega))) trivial ?_
    try simp only [List.getElem_toArray, List.getElem_cons_succ, List.getElem_cons_zero, Act.put, List.setIfInBounds_toArray, List.set_cons_succ, List.set_cons_zero]
    refine wpAnyH_take (i := 15) (v := .int .u8 b4) rfl (by kernel_rfl) (by kernel_rfl) (by kernel_rfl) (fun _ _ _ h => no_panic h.1) (yields_of rfl (fun w' hw' => by go_simp <;> (rw [IntKind.wrap_i64]; omega))) trivial ?_
    try simp only [List.getElem_toArray, List.getElem_cons_succ, List.getElem_cons_zero, Act.put, List.setIfInBounds_toArray, List.set_cons_succ, List.set_cons_zero]
    refine wpAnyH_take (i := 16) (v := .int .i64 b4) rfl (by kernel_rfl) (by kernel_rfl) (by kernel_rfl) (fun _ _ _ h => no_panic h.1) (yields_of rfl (fun w' hw' => by go_simp <;> (rw [IntKind.wrap_i64]; omega))) trivial ?_
    try simp only [List.getElem_toArray, List.getElem_cons_succ, List.getElem_cons_zero, Act.put, List.setIfInBounds_toArray, List.set_cons_succ, List.set_cons_zero]
    refine wpAnyH_take (i := 17) (v := .int .i64 (((b1 * 256 + b2) * 256 + b3) * 256 + b4)) rfl (by kernel_rfl) (by kernel_rfl) (by kernel_rfl) (fun _ _ _ h => no_panic h.1) (yields_of rfl (fun w' hw' => by go_simp <;> (rw [IntKind.wrap_i64]; omega))) trivial ?_
    try simp only [List.getElem_toArray, List.getElem_cons_succ, List.getElem_cons_zero, Act.put, List.setIfInBounds_toArray, List.set_cons_succ, List.set_cons_zero]
    refine wpAnyH_take (i := 18) (v := .pointer (some ⟨(w.heap.size + 1), 0, none⟩)) rfl (by kernel_rfl) (by kernel_rfl) (by kernel_rfl) (fun _ _ _ h => no_panic h.1) (yields_of rfl (fun w' hw' => by go_simp <;> (rw [IntKind.wrap_i64]; omega))) trivial ?_
    try simp only [List.getElem_toArray, List.getElem_cons_succ, List.getElem_cons_zero, Act.put, List.setIfInBounds_toArray, List.set_cons_succ, List.set_cons_zero]
    refine wpAnyH_ready (rs := [19]) (by kernel_rfl) (by simp) (AllReadyH.cons (i := 19) rfl (fun K hK => ?_) AllReadyH.nil)
    refine step_of rfl ?_
    simp only [List.getElem_toArray, List.getElem_cons_succ, List.getElem_cons_zero, Act.put, List.setIfInBounds_toArray, List.set_cons_succ, List.set_cons_zero]
    refine wp_unit (w' := wz) ?_ (hK.out _ _ trivial (fun _ => ?_))
    · rw [HWZ.out]; go_simp
    try simp only [List.getElem_toArray, List.getElem_cons_succ, List.getElem_cons_zero, Act.put, List.setIfInBounds_toArray, List.set_cons_succ, List.set_cons_zero]
    exact wpAnyH_done (by kernel_rfl) ⟨rfl, rfl, rfl⟩ _
  rintro _ _ wq ⟨rfl, rfl, hwq⟩
  rw [hwq]
  clear hwq wq
  have hrz := (hrk.drew).setCell 0 (.int .i64 (((b1 * 256 + b2) * 256 + b3) * 256 + b4))
  have hrr' := Row.setCell_other hrr.drew ⟨w.heap.size + 1, 0, none⟩ (.int .i64 (((b1 * 256 + b2) * 256 + b3) * 256 + b4)) (by show ¬ w.heap.size = w.heap.size + 1; omega)
  have hbz : Below w.heap.size w wz := by rw [HWZ.out]; exact (hba.drew).setCell (by show w.heap.size ≤ w.heap.size + 1; omega) _
  rw [← HWZ.out] at hrz hrr'
  clear HWZ HWA hrr hrk hba ck0 fk wa
  generalize hnum : ((b1 * 256 + b2) * 256 + b3) * 256 + b4 = num at *
  have hnb0 : 0 ≤ num := by omega
  have hnb1 : num < 4294967296 := by omega
  clear hnum hy1 hy2 hy3 hy4 hb10 hb11 hb20 hb21 hb30 hb31 hb40 hb41
  obtain ⟨k0, k1, k2, k3, k4, k5, k6⟩ := row7 hrz
  obtain ⟨r0, r1, r2, r3, r4, r5, r6⟩ := row7 hrr'
  have fz := hrz.frozen
  have fr := hrr'.frozen
  obtain ⟨fs, hu⟩ := underKept
  have HU : Hid _ := hu
  have HSZ : Hid ((Tryz.prog.info? 34).map (·.size) = some zeroK.cells.length) := sizeKept
  clear hu
  obtain ⟨pin, HPIN⟩ : ∃ pin, Hid (pin = t.extract 7 (7 + b6.toNat)) := ⟨_, rfl⟩
  rw [← HPIN.out] at HRK
  obtain ⟨m6, hm6⟩ : ∃ m : Nat, b6 = m := ⟨b6.toNat, by omega⟩
  have hp6 : t.extract 7 (7 + m6) = pin := by rw [HPIN.out, hm6]; rfl
  have hp6' : t.extract 7 ((7 : Int) + m6).toNat = pin := by rw [← hp6]; congr 1
  subst hm6
  have hl6 : (7 : Int) ≤ 7 + m6 := by omega
  have hl7 : (7 : Int) + m6 ≤ t.size := by omega
  have hl8 : (0 : Int) ≤ 7 + m6 := by omega
  have hl9 : (7 : Int) + m6 ≤ 100 := by omega
  have hg1' : ¬ 5 < b5 := by omega
  have hg2' : ¬ (m6 : Int) < 1 := by omega
  have hg3' : ¬ (8 : Int) < m6 := by omega
  clear HPIN
  go_wp2
  go_loopw [6, 7] (fun n6 n7 ws => ((n7 = .int .i64 0 ∧ n6 = .int .i64 15 ∧ Row ws (w.heap.size + 1) [.int .i64 num, .int .i64 b5, .string pin, .string ⟨#[]⟩, .string ⟨#[]⟩, .string ⟨#[]⟩, .string ⟨#[]⟩] 34) ∨ (n7 = .int .i64 1 ∧ n6 = .int .i64 36 ∧ Row ws (w.heap.size + 1) [.int .i64 num, .int .i64 b5, .string pin, .string q0, .string ⟨#[]⟩, .string ⟨#[]⟩, .string ⟨#[]⟩] 34 ∧ y0 ≤ 20) ∨ (n7 = .int .i64 2 ∧ n6 = .int .i64 57 ∧ Row ws (w.heap.size + 1) [.int .i64 num, .int .i64 b5, .string pin, .string q0, .string q1, .string ⟨#[]⟩, .string ⟨#[]⟩] 34 ∧ y0 ≤ 20 ∧ y1 ≤ 20) ∨ (n7 = .int .i64 3 ∧ n6 = .int .i64 78 ∧ Row ws (w.heap.size + 1) [.int .i64 num, .int .i64 b5, .string pin, .string q0, .string q1, .string q2, .string ⟨#[]⟩] 34 ∧ y0 ≤ 20 ∧ y1 ≤ 20 ∧ y2 ≤ 20) ∨ (n7 = .int .i64 4 ∧ n6 = .int .i64 99 ∧ Row ws (w.heap.size + 1) [.int .i64 num, .int .i64 b5, .string pin, .string q0, .string q1, .string q2, .string q3] 34 ∧ y0 ≤ 20 ∧ y1 ≤ 20 ∧ y2 ≤ 20 ∧ y3 ≤ 20)) ∧ Row ws w.heap.size [.int .i64 0, .int .i64 0, .string ⟨#[]⟩, .string ⟨#[]⟩, .string ⟨#[]⟩, .string ⟨#[]⟩, .string ⟨#[]⟩] 34 ∧ Below w.heap.size w ws) (fun _ i _ => 4 - (intOf i).toNat)
  case atStart =>
    refine ⟨.inl ⟨rfl, rfl, ?_⟩, ?_, ?_⟩
    · exact (hrz.setCell 1 (.int .i64 b5)).setCell 2 (.string pin)
    · exact Row.setCell_other (Row.setCell_other hrr' ⟨w.heap.size + 1, 1, none⟩ (.int .i64 b5) (by show ¬ w.heap.size = w.heap.size + 1; omega)) ⟨w.heap.size + 1, 2, none⟩ (.string pin) (by show ¬ w.heap.size = w.heap.size + 1; omega)
    · exact (hbz.setCell (Nat.le_succ _) _).setCell (Nat.le_succ _) _
  case round =>
    obtain ⟨hxx, hrs, hbs⟩ := hrel
    clear hrz hrr' hbz k0 k1 k2 k3 k4 k5 k6 r0 r1 r2 r3 r4 r5 r6 fz fr
    rcases hxx with hx | hx | hx | hx | hx
    · obtain ⟨rfl, rfl, hrw⟩ := hx
      obtain ⟨k0, k1, k2, k3, k4, k5, k6⟩ := row7 hrw
      have fz := hrw.frozen
      obtain ⟨r0, r1, r2, r3, r4, r5, r6⟩ := row7 hrs
      have fr := hrs.frozen
      by_cases hy : y0 ≤ 20
      · have hyi : ¬ (20 : Int) < y0 := by omega
        obtain ⟨m, hm⟩ : ∃ m : Nat, y0 = m := ⟨y0.toNat, by omega⟩
        have hq : t.extract 16 (16 + m) = q0 := by rw [HQ0.out, hm]; rfl
        have hq' : t.extract 16 ((16 : Int) + m).toNat = q0 := by rw [← hq]; congr 1
        have hl1 : (16 : Int) ≤ 16 + m := by omega
        have hl2 : (16 : Int) + m ≤ t.size := by omega
        have hl3 : (0 : Int) ≤ 16 + m := by omega
        have hl4 : (16 : Int) + m ≤ 100 := by omega
        rw [hm] at hyb0
        go_wp2
        refine ⟨⟨.inr (.inl ⟨by go_num, by go_num, hrw.setCell 3 (.string q0), hy⟩), Row.setCell_other hrs ⟨w.heap.size + 1, 3, none⟩ _ (by show ¬ w.heap.size = w.heap.size + 1; omega), hbs.setCell (Nat.le_succ _) _⟩, by simp [intOf]⟩
      · have hyi : (20 : Int) < y0 := by omega
        go_wp2
        have hfin := ((((((((hrs).setCell 0 (.int .i64 0)).setCell 1 (.int .i64 0)).setCell 2 (.string ⟨#[]⟩)).setCell 3 (.string ⟨#[]⟩)).setCell 4 (.string ⟨#[]⟩)).setCell 5 (.string ⟨#[]⟩)).setCell 6 (.string ⟨#[]⟩))
        refine bodyPost_ret (results_box rfl _ _ w.heap.size rfl zeroK.cells (run_loadVar_mid _ w.heap.size 0 _ _ _ (Row.range hfin) HU.out rfl HSZ.out)) rfl ?_
        exact ⟨.inr ⟨fun e => absurd (HRO.out.1 e).1 (by omega), rfl⟩, ((((((hbs.setCell (Nat.le_refl _) _).setCell (Nat.le_refl _) _).setCell (Nat.le_refl _) _).setCell (Nat.le_refl _) _).setCell (Nat.le_refl _) _).setCell (Nat.le_refl _) _).setCell (Nat.le_refl _) _⟩
    · obtain ⟨rfl, rfl, hrw, hz0⟩ := hx
      obtain ⟨k0, k1, k2, k3, k4, k5, k6⟩ := row7 hrw
      have fz := hrw.frozen
      obtain ⟨r0, r1, r2, r3, r4, r5, r6⟩ := row7 hrs
      have fr := hrs.frozen
      by_cases hy : y1 ≤ 20
      · have hyi : ¬ (20 : Int) < y1 := by omega
        obtain ⟨m, hm⟩ : ∃ m : Nat, y1 = m := ⟨y1.toNat, by omega⟩
        have hq : t.extract 37 (37 + m) = q1 := by rw [HQ1.out, hm]; rfl
        have hq' : t.extract 37 ((37 : Int) + m).toNat = q1 := by rw [← hq]; congr 1
        have hl1 : (37 : Int) ≤ 37 + m := by omega
        have hl2 : (37 : Int) + m ≤ t.size := by omega
        have hl3 : (0 : Int) ≤ 37 + m := by omega
        have hl4 : (37 : Int) + m ≤ 100 := by omega
        rw [hm] at hyb1
        go_wp2
        refine ⟨⟨.inr (.inr (.inl ⟨by go_num, by go_num, hrw.setCell 4 (.string q1), hz0, hy⟩)), Row.setCell_other hrs ⟨w.heap.size + 1, 4, none⟩ _ (by show ¬ w.heap.size = w.heap.size + 1; omega), hbs.setCell (Nat.le_succ _) _⟩, by simp [intOf]⟩
      · have hyi : (20 : Int) < y1 := by omega
        go_wp2
        have hfin := ((((((((hrs).setCell 0 (.int .i64 0)).setCell 1 (.int .i64 0)).setCell 2 (.string ⟨#[]⟩)).setCell 3 (.string ⟨#[]⟩)).setCell 4 (.string ⟨#[]⟩)).setCell 5 (.string ⟨#[]⟩)).setCell 6 (.string ⟨#[]⟩))
        refine bodyPost_ret (results_box rfl _ _ w.heap.size rfl zeroK.cells (run_loadVar_mid _ w.heap.size 0 _ _ _ (Row.range hfin) HU.out rfl HSZ.out)) rfl ?_
        exact ⟨.inr ⟨fun e => absurd (HRO.out.1 e).1 (by omega), rfl⟩, ((((((hbs.setCell (Nat.le_refl _) _).setCell (Nat.le_refl _) _).setCell (Nat.le_refl _) _).setCell (Nat.le_refl _) _).setCell (Nat.le_refl _) _).setCell (Nat.le_refl _) _).setCell (Nat.le_refl _) _⟩
    · obtain ⟨rfl, rfl, hrw, hz0, hz1⟩ := hx
      obtain ⟨k0, k1, k2, k3, k4, k5, k6⟩ := row7 hrw
      have fz := hrw.frozen
      obtain ⟨r0, r1, r2, r3, r4, r5, r6⟩ := row7 hrs
      have fr := hrs.frozen
      by_cases hy : y2 ≤ 20
      · have hyi : ¬ (20 : Int) < y2 := by omega
        obtain ⟨m, hm⟩ : ∃ m : Nat, y2 = m := ⟨y2.toNat, by omega⟩
        have hq : t.extract 58 (58 + m) = q2 := by rw [HQ2.out, hm]; rfl
        have hq' : t.extract 58 ((58 : Int) + m).toNat = q2 := by rw [← hq]; congr 1
        have hl1 : (58 : Int) ≤ 58 + m := by omega
        have hl2 : (58 : Int) + m ≤ t.size := by omega
        have hl3 : (0 : Int) ≤ 58 + m := by omega
        have hl4 : (58 : Int) + m ≤ 100 := by omega
        rw [hm] at hyb2
        go_wp2
        refine ⟨⟨.inr (.inr (.inr (.inl ⟨by go_num, by go_num, hrw.setCell 5 (.string q2), hz0, hz1, hy⟩))), Row.setCell_other hrs ⟨w.heap.size + 1, 5, none⟩ _ (by show ¬ w.heap.size = w.heap.size + 1; omega), hbs.setCell (Nat.le_succ _) _⟩, by simp [intOf]⟩
      · have hyi : (20 : Int) < y2 := by omega
        go_wp2
        have hfin := ((((((((hrs).setCell 0 (.int .i64 0)).setCell 1 (.int .i64 0)).setCell 2 (.string ⟨#[]⟩)).setCell 3 (.string ⟨#[]⟩)).setCell 4 (.string ⟨#[]⟩)).setCell 5 (.string ⟨#[]⟩)).setCell 6 (.string ⟨#[]⟩))
        refine bodyPost_ret (results_box rfl _ _ w.heap.size rfl zeroK.cells (run_loadVar_mid _ w.heap.size 0 _ _ _ (Row.range hfin) HU.out rfl HSZ.out)) rfl ?_
        exact ⟨.inr ⟨fun e => absurd (HRO.out.1 e).1 (by omega), rfl⟩, ((((((hbs.setCell (Nat.le_refl _) _).setCell (Nat.le_refl _) _).setCell (Nat.le_refl _) _).setCell (Nat.le_refl _) _).setCell (Nat.le_refl _) _).setCell (Nat.le_refl _) _).setCell (Nat.le_refl _) _⟩
    · obtain ⟨rfl, rfl, hrw, hz0, hz1, hz2⟩ := hx
      obtain ⟨k0, k1, k2, k3, k4, k5, k6⟩ := row7 hrw
      have fz := hrw.frozen
      obtain ⟨r0, r1, r2, r3, r4, r5, r6⟩ := row7 hrs
      have fr := hrs.frozen
      by_cases hy : y3 ≤ 20
      · have hyi : ¬ (20 : Int) < y3 := by omega
        obtain ⟨m, hm⟩ : ∃ m : Nat, y3 = m := ⟨y3.toNat, by omega⟩
        have hq : t.extract 79 (79 + m) = q3 := by rw [HQ3.out, hm]; rfl
        have hq' : t.extract 79 ((79 : Int) + m).toNat = q3 := by rw [← hq]; congr 1
        have hl1 : (79 : Int) ≤ 79 + m := by omega
        have hl2 : (79 : Int) + m ≤ t.size := by omega
        have hl3 : (0 : Int) ≤ 79 + m := by omega
        have hl4 : (79 : Int) + m ≤ 100 := by omega
        rw [hm] at hyb3
        go_wp2
        refine ⟨⟨.inr (.inr (.inr (.inr ⟨by go_num, by go_num, hrw.setCell 6 (.string q3), hz0, hz1, hz2, hy⟩))), Row.setCell_other hrs ⟨w.heap.size + 1, 6, none⟩ _ (by show ¬ w.heap.size = w.heap.size + 1; omega), hbs.setCell (Nat.le_succ _) _⟩, by simp [intOf]⟩
      · have hyi : (20 : Int) < y3 := by omega
        go_wp2
        have hfin := ((((((((hrs).setCell 0 (.int .i64 0)).setCell 1 (.int .i64 0)).setCell 2 (.string ⟨#[]⟩)).setCell 3 (.string ⟨#[]⟩)).setCell 4 (.string ⟨#[]⟩)).setCell 5 (.string ⟨#[]⟩)).setCell 6 (.string ⟨#[]⟩))
        refine bodyPost_ret (results_box rfl _ _ w.heap.size rfl zeroK.cells (run_loadVar_mid _ w.heap.size 0 _ _ _ (Row.range hfin) HU.out rfl HSZ.out)) rfl ?_
        exact ⟨.inr ⟨fun e => absurd (HRO.out.1 e).1 (by omega), rfl⟩, ((((((hbs.setCell (Nat.le_refl _) _).setCell (Nat.le_refl _) _).setCell (Nat.le_refl _) _).setCell (Nat.le_refl _) _).setCell (Nat.le_refl _) _).setCell (Nat.le_refl _) _).setCell (Nat.le_refl _) _⟩
    · obtain ⟨rfl, rfl, hrw, hz0, hz1, hz2, hz3⟩ := hx
      obtain ⟨k0, k1, k2, k3, k4, k5, k6⟩ := row7 hrw
      have hqs0 : q0.size ≤ 100 := by rw [HQ0.out, ByteArray.size_extract]; omega
      have hqs1 : q1.size ≤ 100 := by rw [HQ1.out, ByteArray.size_extract]; omega
      have hqs2 : q2.size ≤ 100 := by rw [HQ2.out, ByteArray.size_extract]; omega
      have hqs3 : q3.size ≤ 100 := by rw [HQ3.out, ByteArray.size_extract]; omega
      have hps : pin.size ≤ 100 := by rw [← hp6, ByteArray.size_extract]; omega
      have hkf : Kep.fair ⟨num, b5, pin, q0, q1, q2, q3⟩ := ⟨by simp only; omega, by simp only; omega, by simp only; omega, by simp only; omega, by simp only; omega, by simp only; omega, by simp only; omega, by simp only; omega, by simp only; omega⟩
      have HKF : Hid _ := hkf
      clear hkf hqs0 hqs1 hqs2 hqs3 hps HQ0 HQ1 HQ2 HQ3 hp6 hp6'
      have hHRK := HRK.out
      subst hHRK
      have hrw' := hrw
      have hrs' := hrs
      by_cases hi : Kep.img ⟨num, b5, pin, q0, q1, q2, q3⟩ = t.data.toList
      · have HI : Hid _ := hi
        have HT : Hid (str (Kep.img ⟨num, b5, pin, q0, q1, q2, q3⟩) = t) := by show _ = _; rw [hi, list_str]
        clear hi
        go_wp2_with (go_at_call 24; refine (ref_Image ⟨num, b5, pin, q0, q1, q2, q3⟩ _ HKF.out).mono ?_; rintro _ w9 ⟨rfl, hb9⟩; rw [HT.out]; have hr9 := hrs.below hb9 hrs.lt; have hk9 := hrw.below hb9 hrw.lt; have hbb9 := hbs.trans (hb9.mono hbs.size); clear k0 k1 k2 k3 k4 k5 k6 hrs hrw hbs hb9; obtain ⟨k0, k1, k2, k3, k4, k5, k6⟩ := row7 hk9; obtain ⟨r0, r1, r2, r3, r4, r5, r6⟩ := row7 hr9; have fr := hr9.frozen)
        have hfin := ((((((((hr9).setCell 0 (.int .i64 num)).setCell 1 (.int .i64 b5)).setCell 2 (.string pin)).setCell 3 (.string q0)).setCell 4 (.string q1)).setCell 5 (.string q2)).setCell 6 (.string q3))
        refine bodyPost_ret (results_box rfl _ _ w.heap.size rfl (Kep.cells ⟨num, b5, pin, q0, q1, q2, q3⟩) (run_loadVar_mid _ w.heap.size 0 _ _ _ (Row.range hfin) HU.out rfl HSZ.out)) rfl ?_
        exact ⟨.inl ⟨HRO.out.2 ⟨⟨hz0, hz1, hz2, hz3⟩, HI.out⟩, rfl⟩, ((((((hbb9.setCell (Nat.le_refl _) _).setCell (Nat.le_refl _) _).setCell (Nat.le_refl _) _).setCell (Nat.le_refl _) _).setCell (Nat.le_refl _) _).setCell (Nat.le_refl _) _).setCell (Nat.le_refl _) _⟩
      · have HI : Hid (¬ Kep.img ⟨num, b5, pin, q0, q1, q2, q3⟩ = t.data.toList) := hi
        have HT : Hid (¬ str (Kep.img ⟨num, b5, pin, q0, q1, q2, q3⟩) = t) := by
          show ¬ _
          intro e
          apply hi
          rw [← e, str_list]
        have hne := bytes_ne HT.out
        clear hi
        obtain ⟨im, HIM⟩ : ∃ im, Hid (im = str (Kep.img ⟨num, b5, pin, q0, q1, q2, q3⟩)) := ⟨_, rfl⟩
        rw [← HIM.out] at hne
        go_wp2_with (go_at_call 24; refine (ref_Image ⟨num, b5, pin, q0, q1, q2, q3⟩ _ HKF.out).mono ?_; rintro _ w9 ⟨rfl, hb9'⟩; rw [← HIM.out]; have hr9 := hrs.below hb9' hrs.lt; have hb9 := hbs.trans (hb9'.mono hbs.size); clear k0 k1 k2 k3 k4 k5 k6 hrs hrw hbs hb9'; obtain ⟨r0, r1, r2, r3, r4, r5, r6⟩ := row7 hr9; have fr := hr9.frozen)
        have hfin := ((((((((hr9).setCell 0 (.int .i64 0)).setCell 1 (.int .i64 0)).setCell 2 (.string ⟨#[]⟩)).setCell 3 (.string ⟨#[]⟩)).setCell 4 (.string ⟨#[]⟩)).setCell 5 (.string ⟨#[]⟩)).setCell 6 (.string ⟨#[]⟩))
        refine bodyPost_ret (results_box rfl _ _ w.heap.size rfl zeroK.cells (run_loadVar_mid _ w.heap.size 0 _ _ _ (Row.range hfin) HU.out rfl HSZ.out)) rfl ?_
        exact ⟨.inr ⟨fun e => absurd (HRO.out.1 e).2 HI.out, rfl⟩, ((((((hb9.setCell (Nat.le_refl _) _).setCell (Nat.le_refl _) _).setCell (Nat.le_refl _) _).setCell (Nat.le_refl _) _).setCell (Nat.le_refl _) _).setCell (Nat.le_refl _) _).setCell (Nat.le_refl _) _⟩

theorem ref_read (w : World) (t : ByteArray) (ht : t.size = 100) :
    Calls Tryz.prog 60 #[.string t] w fun r w' => ((readOk t.data.toList ∧ r = .returned (.tuple #[.agg (readK t.data.toList).cells.toArray, .bool true])) ∨ (¬ readOk t.data.toList ∧ r = .returned (.tuple #[.agg zeroK.cells.toArray, .bool false]))) ∧ Below w.heap.size w w' := by
  by_cases h : ¬ numOf t.data.toList = 0 ∧ bAt t.data.toList 5 ≤ 5 ∧ 1 ≤ bAt t.data.toList 6 ∧ bAt t.data.toList 6 ≤ 8
  · exact ref_read_late w t ht h.1 h.2.1 h.2.2.1 h.2.2.2
  · refine (ref_read_early w t ht h).mono ?_
    rintro r w' ⟨rfl, hb⟩
    exact ⟨.inr ⟨fun e => h e.1, rfl⟩, hb⟩
end Go.Proofs.YtaokemapkgggoaaGreatDoor
