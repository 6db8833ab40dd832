import Derived.Test.YtaokemapkgggoaaGreatDoorLawOp
import Derived.Test.YtaokemapkgggoaaGreatDoorLawSeal
import Derived.Test.YtaokemapkgggoaaGreatDoorLawCode
namespace Go.Proofs.YtaokemapkgggoaaGreatDoor
open Go.RowKit

theorem law_sums (hsum : SumSaid sumSpecRef) (kd wn n : Int) (s t : ByteArray) (rest : List Value) (g gs : Nat) (w : World) (hp : w.cell? ⟨g, 0, none⟩ = some (.pointer (some ⟨gs, 0, none⟩))) (hS : Summ w gs) (hG : Glob w)
    (hk : kd = 1 ∨ kd = 2 ∨ kd = 3) (hn1 : n ≤ 9223372036854775807) :
    Calls Tryz.prog 8 #[.pointer (some ⟨g, 0, none⟩), .agg (opCells kd wn n s t rest).toArray] w fun r w' => r = .returned (.bool true) ∧ Below w.heap.size w w' := by
  rcases hk with rfl | rfl | rfl
  · exact law_sums1 hsum wn n s t rest g gs w hp hS hG
  · exact law_sums2 hsum wn n s t rest g gs w hp hS hG
  · exact law_sums3 hsum wn n s t rest g gs w hp hS hG hn1

set_option maxRecDepth 100000 in
set_option maxHeartbeats 2000000 in
theorem law_step (hsum : SumSaid sumSpecRef) (kd wn n : Int) (s t : ByteArray) (rest : List Value) (g gs : Nat) (w : World) (hp : w.cell? ⟨g, 0, none⟩ = some (.pointer (some ⟨gs, 0, none⟩))) (hS : Summ w gs) (hG : Glob w)
    (hk : kd = 1 ∨ kd = 2 ∨ kd = 3) (hn1 : n ≤ 9223372036854775807) (hrl : rest.length = 15) :
    Calls Tryz.prog 10 #[.pointer (some ⟨g, 0, none⟩), .agg (opCells kd wn n s t rest).toArray] w fun r w' => r = .returned (.bool true) ∧ Below w.heap.size w w' := by
  have hcall := fun (w' : World) (L : LawAt w g gs kd wn n s t rest w') => law_sums hsum kd wn n s t rest g gs w' L.ptr L.summ L.glob hk hn1
  obtain ⟨cs, HC⟩ : ∃ cs, Hid (cs = opCells kd wn n s t rest) := ⟨_, rfl⟩
  have hcl : cs.length = 20 := by rw [HC.out]; simp [opCells, hrl]
  rw [← HC.out] at hcall ⊢
  rcases hk with rfl | rfl | rfl
  all_goals
    go_enter Tryz.func10, Tryz.ntmps10
    go_wp2_with (first | (refine wpList_boxM rfl 36 _ rfl cs rfl ?_; intro w1 hr hb; have L1 : LawAt w g gs _ wn n s t rest w1 := ⟨by rw [← HC.out]; exact hr, (hb.cell (p := ⟨g, 0, none⟩) (World.block_lt_of_cell? _ _ hp)).trans hp, hS.below hb (Nat.le_refl _), hG.below hb (Nat.le_refl _), hb, hr.lt⟩; clear hb; obtain ⟨a0, a2, a3, a4⟩ := L1.cells; go_simp) | (refine wpList_loadOp rfl _ rfl _ rfl _ cs hr hcl ?_; go_simp) | (go_at_call 8; refine (hcall _ L1).mono ?_; rintro _ w2 ⟨rfl, hb2⟩; have L2 := L1.next hb2))
    go_ret
    exact ⟨rfl, L2.below⟩
end Go.Proofs.YtaokemapkgggoaaGreatDoor
