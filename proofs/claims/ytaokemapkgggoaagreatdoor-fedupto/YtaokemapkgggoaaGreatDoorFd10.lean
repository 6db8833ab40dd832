import Derived.Test.YtaokemapkgggoaaGreatDoorFd09
import Derived.Deep.RegionHeld3
namespace Go.Proofs.YtaokemapkgggoaaGreatDoor
open Go.RowKit

theorem law_num (e : Int) (w : World) : Calls Tryz.prog 16 #[.int .i64 e] w fun r w' => r = .returned (.int .i64 e) ∧ w' = w := by
  go_enter Tryz.func16, Tryz.ntmps16
  go_wp2
  go_ret
  exact ⟨rfl, rfl⟩

theorem wpList_boxM {P : Program} {ops : Array Oper} {rest : List Oper} {o : Oper} {a : Act} {w : World} {Q : Exit → Act → World → Prop} (hgd : o.guard = none) (ty : TypeId) (x : Operand) (ho : o.op = .box ty x) (cs : List Value) (hx : a.eval x = .agg cs.toArray)
    (h : ∀ w', Row w' w.heap.size cs ty → Below w.heap.size w w' → wpList P ops Q rest (a.put o.dst (.pointer (some ⟨w.heap.size, 0, none⟩))) w') : wpList P ops Q (o :: rest) a w :=
  wpList_boxR hgd ty x ho cs hx (h _ (Row.made _ _ _) ((Below.refl _ _).alloc (Nat.le_refl _) _))

/-- a step's cells: kind, device, number, two texts, and what no sum looks at -/
def opCells (kd wn n : Int) (s t : ByteArray) (rest : List Value) : List Value := .int .i64 kd :: .int .i64 wn :: .int .i64 n :: .string s :: .string t :: rest

/-- what lies in memory while a step of sums is played: the step's copy, the pointer to what reckons, what it reckons with -/
structure LawAt (w0 : World) (g gs : Nat) (kd wn n : Int) (s t : ByteArray) (rest : List Value) (w : World) : Prop where
  row : Row w w0.heap.size (opCells kd wn n s t rest) 36
  ptr : w.cell? ⟨g, 0, none⟩ = some (.pointer (some ⟨gs, 0, none⟩))
  summ : Summ w gs
  glob : Glob w
  below : Below w0.heap.size w0 w
  lt : w0.heap.size < w.heap.size
theorem LawAt.next {w0 : World} {g gs : Nat} {kd wn n : Int} {s t : ByteArray} {rest : List Value} {w w' : World} (h : LawAt w0 g gs kd wn n s t rest w) (hb : Below w.heap.size w w') : LawAt w0 g gs kd wn n s t rest w' :=
  ⟨h.row.below hb h.lt, (hb.cell (p := ⟨g, 0, none⟩) (World.block_lt_of_cell? _ _ h.ptr)).trans h.ptr, h.summ.below hb (Nat.le_refl _), h.glob.below hb (Nat.le_refl _), h.below.trans (hb.mono (Nat.le_of_lt h.lt)), Nat.lt_of_lt_of_le h.lt hb.size⟩
theorem LawAt.cells {w0 : World} {g gs : Nat} {kd wn n : Int} {s t : ByteArray} {rest : List Value} {w : World} (h : LawAt w0 g gs kd wn n s t rest w) :
    w.cell? ⟨w0.heap.size, 0, none⟩ = some (.int .i64 kd) ∧ w.cell? ⟨w0.heap.size, 2, none⟩ = some (.int .i64 n) ∧ w.cell? ⟨w0.heap.size, 3, none⟩ = some (.string s) ∧ w.cell? ⟨w0.heap.size, 4, none⟩ = some (.string t) :=
  ⟨h.row.cell.trans rfl, h.row.cell.trans rfl, h.row.cell.trans rfl, h.row.cell.trans rfl⟩
theorem LawAt.drew {w0 : World} {g gs : Nat} {kd wn n : Int} {s t : ByteArray} {rest : List Value} {w : World} (h : LawAt w0 g gs kd wn n s t rest w) : LawAt w0 g gs kd wn n s t rest w.drew := h.next (Below.refl _ _).drew

/-- what a comparison leans on -/
abbrev Held (w0 : World) (g gs : Nat) (kd wn n : Int) (s t : ByteArray) (rest : List Value) (g5 : Nat) (ov : List Int) (w : World) : Prop :=
  w.rangeAt g5 0 (u8s ov) ∧ w.cell? ⟨g, 0, none⟩ = some (.pointer (some ⟨gs, 0, none⟩)) ∧ w.cell? ⟨w0.heap.size, 3, none⟩ = some (.string s) ∧ w.cell? ⟨w0.heap.size, 4, none⟩ = some (.string t) ∧ LawAt w0 g gs kd wn n s t rest w ∧ g5 < w.heap.size
theorem Held.next {w0 : World} {g gs : Nat} {kd wn n : Int} {s t : ByteArray} {rest : List Value} {g5 : Nat} {ov : List Int} {w w' : World} (h : Held w0 g gs kd wn n s t rest g5 ov w) (hb : Below w.heap.size w w') : Held w0 g gs kd wn n s t rest g5 ov w' :=
  have L := h.2.2.2.2.1.next hb
  ⟨range_below h.1 hb h.2.2.2.2.2, L.ptr, L.cells.2.2.1, L.cells.2.2.2, L, Nat.lt_of_lt_of_le h.2.2.2.2.2 hb.size⟩

set_option maxRecDepth 100000 in
set_option maxHeartbeats 2000000 in
theorem law_sums1 (hsum : SumSaid sumSpecRef) (wn n : Int) (s t : ByteArray) (rest : List Value) (g gs : Nat) (w : World) (hp : w.cell? ⟨g, 0, none⟩ = some (.pointer (some ⟨gs, 0, none⟩))) (hS : Summ w gs) (hG : Glob w) :
    Calls Tryz.prog 8 #[.pointer (some ⟨g, 0, none⟩), .agg (opCells 1 wn n s t rest).toArray] w fun r w' => r = .returned (.bool true) ∧ Below w.heap.size w w' := by
  obtain ⟨ov, HO⟩ : ∃ ov, Hid (ov = sumSpec K0 H0 0 s.data.toList) := ⟨_, rfl⟩
  have hol : Hid ((u8s ov).length = 32) := by show _ = _; rw [u8s_length, HO.out]; exact sumSpec_length H0 W8_H0 _ _
  obtain ⟨cs, HC⟩ : ∃ cs, Hid (cs = opCells 1 wn n s t rest) := ⟨_, rfl⟩
  rw [← HC.out]
  by_cases hs : s.size ≤ 400
  · have hs' : ¬ (400 : Int) < s.size := by omega
    go_enter Tryz.func8, Tryz.ntmps8
    go_wp2_with (first | (refine wpList_boxM rfl 36 _ rfl cs rfl ?_; intro w1 hr hb; have L1 : LawAt w g gs 1 wn n s t rest w1 := ⟨by rw [← HC.out]; exact hr, (hb.cell (p := ⟨g, 0, none⟩) (World.block_lt_of_cell? _ _ hp)).trans hp, hS.below hb (Nat.le_refl _), hG.below hb (Nat.le_refl _), hb, hr.lt⟩; clear hr hb; obtain ⟨a0, a2, a3, a4⟩ := L1.cells; go_simp) | (go_at_call 13; refine (prog_Sum s _ L1.glob (by omega)).mono ?_; rintro _ w2 ⟨rfl, hb2⟩; rw [← HO.out]; have L2 := L1.next hb2; clear hb2 a0 a2 a3 a4; obtain ⟨a0, a2, a3, a4⟩ := L2.cells) | (refine wpList_allocR rfl 47 rfl 32 (.int .u8 0) arr32b ?_; go_simp) | (refine wpList_storeMA rfl 47 _ _ rfl _ rfl rfl (u8s ov) rfl 47 _ 32 (.int .u8 0) arr32b hol.out (zrow_length _ _) (u8s_one _) ?_; intro w3 hr5 hb3; have L3 := L2.next hb3; clear hb3 a0 a2 a3 a4; obtain ⟨a0, a2, a3, a4⟩ := L3.cells; go_simp))
    have hS0 : Held w g gs 1 wn n s t rest w2.heap.size ov w3 := ⟨hr5.range, L3.ptr, a3, a4, L3, hr5.lt⟩
    have hconv : ∀ w', w'.rangeAt w2.heap.size 0 (u8s ov) → (convert 49 9 (.slice (some ⟨w2.heap.size, 0, none⟩) 32 32)).run Tryz.prog w' = .ok (.string (strOfNums ov)) w' := fun w' h => run_convR w' _ ov 32 32 (by rw [← u8s_length]; exact hol.out) h
    have HR : Hid (sumSpecRef s.data.toList = ov) := by show _ = _; rw [HO.out, sumSpecRef_eq]
    clear hr5 a0 a2 a3 a4 L1 L2 L3
    go_region_held3 (Held w g gs 1 wn n s t rest w2.heap.size ov) (first | exact Held.next hS0 (Below.refl _ _).drew | exact Held.next (by assumption) hbx) (first | (go_at_call 14; refine (hsum s gs _ ?_ (by omega)).mono ?_; (go_split_ands; exact LawAt.summ (by assumption)); rintro _ wx ⟨rfl, hbx⟩; rw [HR.out]))
    go_wp2
    go_ret
    exact ⟨rfl, (Held.next (Held.next hS0 (Below.refl _ _).drew) hbx).2.2.2.2.1.below⟩
  · have hs' : (400 : Int) < s.size := by omega
    go_enter Tryz.func8, Tryz.ntmps8
    go_wp2_with (first | (refine wpList_boxM rfl 36 _ rfl cs rfl ?_; intro w1 hr hb; have L1 : LawAt w g gs 1 wn n s t rest w1 := ⟨by rw [← HC.out]; exact hr, (hb.cell (p := ⟨g, 0, none⟩) (World.block_lt_of_cell? _ _ hp)).trans hp, hS.below hb (Nat.le_refl _), hG.below hb (Nat.le_refl _), hb, hr.lt⟩; clear hr hb; obtain ⟨a0, a2, a3, a4⟩ := L1.cells; go_simp))
    go_ret
    exact ⟨rfl, L1.below⟩
end Go.Proofs.YtaokemapkgggoaaGreatDoor
