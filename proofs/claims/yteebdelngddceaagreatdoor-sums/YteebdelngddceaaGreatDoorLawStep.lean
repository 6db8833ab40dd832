import Derived.Test.YteebdelngddceaaGreatDoorLawSeal
import Derived.Test.YteebdelngddceaaGreatDoorLawCode
namespace Go.Proofs.YteebdelngddceaaGreatDoor
open Go.RowKit

theorem law_sums (hsum : SumSaid sumSpecRef) (kd wn n : Int) (s t : ByteArray) (rest : List Value) (g gs : Nat) (w : World) (hp : w.cell? ⟨g, 0, none⟩ = some (.pointer (some ⟨gs, 0, none⟩))) (hS : Summ w gs) (hG : Glob w)
    (hk : kd = 1 ∨ kd = 2 ∨ kd = 3) (hn1 : n ≤ 9223372036854775807) :
    Calls Tryz.prog 7 #[.pointer (some ⟨g, 0, none⟩), .agg (opCells kd wn n s t rest).toArray] w fun r w' => r = .returned (.bool true) ∧ Below w.heap.size w w' := by
  rcases hk with rfl | rfl | rfl
  · exact law_sums1 hsum wn n s t rest g gs w hp hS hG
  · exact law_sums2 hsum wn n s t rest g gs w hp hS hG
  · exact law_sums3 hsum wn n s t rest g gs w hp hS hG hn1

theorem struct_of {u : Option TypeDesc} (h : (match u with | some (.struct _) => true | _ => false) = true) : ∃ fs, u = some (.struct fs) := by
  split at h
  · exact ⟨_, rfl⟩
  · cases h
theorem underOp0 : (match Tryz.prog.underlying 36 with | some (.struct _) => true | _ => false) = true := by kernel_rfl
theorem underOp : ∃ fs, Tryz.prog.underlying 36 = some (.struct fs) := struct_of underOp0
theorem sizeOp : (Tryz.prog.info? 36).map (·.size) = some 20 := by kernel_rfl
theorem wpList_loadOp {ops : Array Oper} {rest : List Oper} {o : Oper} {a : Act} {w : World} {Q : Exit → Act → World → Prop} (hgd : o.guard = none) (x : Operand) (ho : o.op = .load 36 x) (g : Nat) (hx : a.eval x = .pointer (some ⟨g, 0, none⟩)) (t : TypeId) (cs : List Value)
    (hr : Row w g cs t) (hn : cs.length = 20) (h : wpList Tryz.prog ops Q rest (a.put o.dst (.agg cs.toArray)) w) : wpList Tryz.prog ops Q (o :: rest) a w := by
  obtain ⟨fs, hu⟩ := underOp
  exact wpList_plain hgd fun _ hK => wp_load_row 36 x ho g hx t cs.toArray (0, 0) _ hr hu rfl (by rw [sizeOp]; simp [hn]) (hK _ _ h)

set_option maxRecDepth 100000 in
set_option maxHeartbeats 2000000 in
theorem law_step (hsum : SumSaid sumSpecRef) (kd wn n : Int) (s t : ByteArray) (rest : List Value) (g gs : Nat) (w : World) (hp : w.cell? ⟨g, 0, none⟩ = some (.pointer (some ⟨gs, 0, none⟩))) (hS : Summ w gs) (hG : Glob w)
    (hk : kd = 1 ∨ kd = 2 ∨ kd = 3) (hn1 : n ≤ 9223372036854775807) (hrl : rest.length = 15) :
    Calls Tryz.prog 9 #[.pointer (some ⟨g, 0, none⟩), .agg (opCells kd wn n s t rest).toArray] w fun r w' => r = .returned (.bool true) ∧ Below w.heap.size w w' := by
  have hcall := fun (w' : World) (L : LawAt w g gs kd wn n s t rest w') => law_sums hsum kd wn n s t rest g gs w' L.ptr L.summ L.glob hk hn1
  obtain ⟨cs, HC⟩ : ∃ cs, Hid (cs = opCells kd wn n s t rest) := ⟨_, rfl⟩
  have hcl : cs.length = 20 := by rw [HC.out]; simp [opCells, hrl]
  rw [← HC.out] at hcall ⊢
  rcases hk with rfl | rfl | rfl
  all_goals
    go_enter Tryz.func9, Tryz.ntmps9
    go_wp2_with (first | (refine wpList_boxM rfl 36 _ rfl cs rfl ?_; intro w1 hr hb; have L1 : LawAt w g gs _ wn n s t rest w1 := ⟨by rw [← HC.out]; exact hr, (hb.cell (p := ⟨g, 0, none⟩) (World.block_lt_of_cell? _ _ hp)).trans hp, hS.below hb (Nat.le_refl _), hG.below hb (Nat.le_refl _), hb, hr.lt⟩; clear hb; obtain ⟨a0, a2, a3, a4⟩ := L1.cells; go_simp) | (refine wpList_loadOp rfl _ rfl _ rfl _ cs hr hcl ?_; go_simp) | (go_at_call 7; refine (hcall _ L1).mono ?_; rintro _ w2 ⟨rfl, hb2⟩; have L2 := L1.next hb2))
    go_ret
    exact ⟨rfl, L2.below⟩
end Go.Proofs.YteebdelngddceaaGreatDoor
