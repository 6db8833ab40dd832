import Derived.Test.YtaokemapkgggoaaGreatDoorAl44
import Derived.Test.YtaokemapkgggoaaGreatDoorAl40
import Derived.Test.YtaokemapkgggoaaGreatDoorAl45
namespace Go.Proofs.YtaokemapkgggoaaGreatDoor
open Go.RowKit

set_option maxRecDepth 100000 in
set_option maxHeartbeats 2000000 in
theorem law_sums3no (wn n : Int) (s t : ByteArray) (rest : List Value) (g gs : Nat) (w : World) (hp : w.cell? ⟨g, 0, none⟩ = some (.pointer (some ⟨gs, 0, none⟩))) (hS : Summ w gs) (hG : Glob w) (hk : ¬ (1 ≤ s.size ∧ s.size ≤ 20)) :
    Calls Tryz.prog 8 #[.pointer (some ⟨g, 0, none⟩), .agg (opCells 3 wn n s t rest).toArray] w fun r w' => r = .returned (.bool true) ∧ Below w.heap.size w w' := by
  obtain ⟨cs, HC⟩ : ∃ cs, Hid (cs = opCells 3 wn n s t rest) := ⟨_, rfl⟩
  rw [← HC.out]
  have hkk : (s.size : Int) < 1 ∨ (¬ (s.size : Int) < 1 ∧ (20 : Int) < s.size) := by omega
  rcases hkk with k1 | ⟨k1, k2⟩
  all_goals
    go_enter Tryz.func8, Tryz.ntmps8
    go_wp2_with (first | (refine wpList_boxM rfl 36 _ rfl cs rfl ?_; intro w1 hr hb; have L1 : LawAt w g gs 3 wn n s t rest w1 := ⟨by rw [← HC.out]; exact hr, (hb.cell (p := ⟨g, 0, none⟩) (World.block_lt_of_cell? _ _ hp)).trans hp, hS.below hb (Nat.le_refl _), hG.below hb (Nat.le_refl _), hb, hr.lt⟩; clear hr hb; obtain ⟨a0, a2, a3, a4⟩ := L1.cells; go_simp) | (go_at_call 18; refine (prog_Code_no s n _ hk).mono ?_; rintro _ w2 ⟨rfl, hb2⟩; have L2 := L1.next hb2; clear hb2 a0 a2 a3 a4; obtain ⟨a0, a2, a3, a4⟩ := L2.cells) | (go_at_call 16; refine (law_num 3 _).mono ?_; rintro _ _ ⟨rfl, rfl⟩))
    go_ret
    exact ⟨rfl, L2.below⟩

set_option maxRecDepth 100000 in
set_option maxHeartbeats 2000000 in
theorem law_sums3neg (wn n : Int) (s t : ByteArray) (rest : List Value) (g gs : Nat) (w : World) (hp : w.cell? ⟨g, 0, none⟩ = some (.pointer (some ⟨gs, 0, none⟩))) (hS : Summ w gs) (hG : Glob w) (hk1 : 1 ≤ s.size) (hk2 : s.size ≤ 20) (hn : n < 0) :
    Calls Tryz.prog 8 #[.pointer (some ⟨g, 0, none⟩), .agg (opCells 3 wn n s t rest).toArray] w fun r w' => r = .returned (.bool true) ∧ Below w.heap.size w w' := by
  obtain ⟨cs, HC⟩ : ∃ cs, Hid (cs = opCells 3 wn n s t rest) := ⟨_, rfl⟩
  rw [← HC.out]
  have k1 : ¬ (s.size : Int) < 1 := by omega
  have k2 : ¬ (20 : Int) < s.size := by omega
  go_enter Tryz.func8, Tryz.ntmps8
  go_wp2_with (first | (refine wpList_boxM rfl 36 _ rfl cs rfl ?_; intro w1 hr hb; have L1 : LawAt w g gs 3 wn n s t rest w1 := ⟨by rw [← HC.out]; exact hr, (hb.cell (p := ⟨g, 0, none⟩) (World.block_lt_of_cell? _ _ hp)).trans hp, hS.below hb (Nat.le_refl _), hG.below hb (Nat.le_refl _), hb, hr.lt⟩; clear hr hb; obtain ⟨a0, a2, a3, a4⟩ := L1.cells; go_simp) | (go_at_call 18; refine (prog_Code_neg s n _ hk1 hk2 hn).mono ?_; rintro _ w2 ⟨rfl, hb2⟩; have L2 := L1.next hb2; clear hb2 a0 a2 a3 a4; obtain ⟨a0, a2, a3, a4⟩ := L2.cells) | (go_at_call 16; refine (law_num 3 _).mono ?_; rintro _ _ ⟨rfl, rfl⟩))
  go_ret
  exact ⟨rfl, L2.below⟩

/-- what the comparison of codes leans on -/
abbrev HeldC (w0 : World) (g gs : Nat) (kd wn n : Int) (s t : ByteArray) (rest : List Value) (w : World) : Prop :=
  w.cell? ⟨g, 0, none⟩ = some (.pointer (some ⟨gs, 0, none⟩)) ∧ w.cell? ⟨w0.heap.size, 3, none⟩ = some (.string s) ∧ w.cell? ⟨w0.heap.size, 2, none⟩ = some (.int .i64 n) ∧ LawAt w0 g gs kd wn n s t rest w
theorem HeldC.of {w0 : World} {g gs : Nat} {kd wn n : Int} {s t : ByteArray} {rest : List Value} {w : World} (L : LawAt w0 g gs kd wn n s t rest w) : HeldC w0 g gs kd wn n s t rest w := ⟨L.ptr, L.cells.2.2.1, L.cells.2.1, L⟩
theorem HeldC.next {w0 : World} {g gs : Nat} {kd wn n : Int} {s t : ByteArray} {rest : List Value} {w w' : World} (h : HeldC w0 g gs kd wn n s t rest w) (hb : Below w.heap.size w w') : HeldC w0 g gs kd wn n s t rest w' := HeldC.of (h.2.2.2.next hb)

set_option maxRecDepth 100000 in
set_option maxHeartbeats 2000000 in
theorem law_sums3yes (hsum : SumSaid sumSpecRef) (wn n : Int) (s t : ByteArray) (rest : List Value) (g gs : Nat) (w : World) (hp : w.cell? ⟨g, 0, none⟩ = some (.pointer (some ⟨gs, 0, none⟩))) (hS : Summ w gs) (hG : Glob w) (hk1 : 1 ≤ s.size) (hk2 : s.size ≤ 20) (hn : 0 ≤ n) (hn1 : n ≤ 9223372036854775807) :
    Calls Tryz.prog 8 #[.pointer (some ⟨g, 0, none⟩), .agg (opCells 3 wn n s t rest).toArray] w fun r w' => r = .returned (.bool true) ∧ Below w.heap.size w w' := by
  obtain ⟨cs, HC⟩ : ∃ cs, Hid (cs = opCells 3 wn n s t rest) := ⟨_, rfl⟩
  rw [← HC.out]
  have k1 : ¬ (s.size : Int) < 1 := by omega
  have k2 : ¬ (20 : Int) < s.size := by omega
  have k3 : ¬ n < 0 := by omega
  obtain ⟨cd, HD⟩ : ∃ cd, Hid (cd = strOfNums (codeSpec (blk 20 s.data.toList) n)) := ⟨_, rfl⟩
  obtain ⟨e8, HE⟩ : ∃ e8, Hid (e8 = strOfNums (eightL n 8)) := ⟨_, rfl⟩
  have he8 : e8.size = 8 := by rw [HE.out, strOfNums_size, eightL_length]
  have HR : Hid (strOfNums (digL (refWord (refSeal sumSpecRef s.data.toList e8.data.toList)) 6) = cd) := by
    show _ = _
    rw [HD.out, HE.out, toBytes_str, refCode_eq (by rw [Array.length_toList]; exact hk2)]
  go_enter Tryz.func8, Tryz.ntmps8
  go_wp2_with (first | (refine wpList_boxM rfl 36 _ rfl cs rfl ?_; intro w1 hr hb; have L1 : LawAt w g gs 3 wn n s t rest w1 := ⟨by rw [← HC.out]; exact hr, (hb.cell (p := ⟨g, 0, none⟩) (World.block_lt_of_cell? _ _ hp)).trans hp, hS.below hb (Nat.le_refl _), hG.below hb (Nat.le_refl _), hb, hr.lt⟩; clear hr hb; obtain ⟨a0, a2, a3, a4⟩ := L1.cells; go_simp) | (go_at_call 18; refine (prog_Code_yes s n _ L1.glob hk1 hk2 hn hn1).mono ?_; rintro _ w2 ⟨rfl, hb2⟩; rw [← HD.out]; have L2 := L1.next hb2; clear hb2 a0 a2 a3 a4; obtain ⟨a0, a2, a3, a4⟩ := L2.cells))
  have hS0 := HeldC.of L2
  clear a0 a2 a3 a4 L1 L2
  go_region_held3 (HeldC w g gs 3 wn n s t rest) (first | exact HeldC.next hS0 (Below.refl _ _).drew | exact HeldC.next (by assumption) hbx | exact HeldC.next (by assumption) hby) (first | (go_at_call 20; refine (ref_eight n _ hn hn1).mono ?_; rintro _ wx ⟨rfl, hbx⟩; rw [← HE.out]) | (go_at_call 19; refine (ref_code hsum sumRef_length sumRef_B s e8 gs _ ?_ (by omega)).mono ?_; (go_split_ands; exact LawAt.summ (by assumption)); rintro _ wy ⟨rfl, hby⟩; rw [HR.out]))
  go_wp2
  go_ret
  exact ⟨rfl, (HeldC.next (HeldC.next (HeldC.next hS0 (Below.refl _ _).drew) hbx) hby).2.2.2.below⟩

theorem law_sums3 (hsum : SumSaid sumSpecRef) (wn n : Int) (s t : ByteArray) (rest : List Value) (g gs : Nat) (w : World) (hp : w.cell? ⟨g, 0, none⟩ = some (.pointer (some ⟨gs, 0, none⟩))) (hS : Summ w gs) (hG : Glob w) (hn1 : n ≤ 9223372036854775807) :
    Calls Tryz.prog 8 #[.pointer (some ⟨g, 0, none⟩), .agg (opCells 3 wn n s t rest).toArray] w fun r w' => r = .returned (.bool true) ∧ Below w.heap.size w w' := by
  by_cases hk : 1 ≤ s.size ∧ s.size ≤ 20
  · by_cases hn : n < 0
    · exact law_sums3neg wn n s t rest g gs w hp hS hG hk.1 hk.2 hn
    · exact law_sums3yes hsum wn n s t rest g gs w hp hS hG hk.1 hk.2 (by omega) hn1
  · exact law_sums3no wn n s t rest g gs w hp hS hG hk
end Go.Proofs.YtaokemapkgggoaaGreatDoor

namespace Go.Proofs.YtaokemapkgggoaaGreatDoor
open Go.RowKit

theorem law_sums (hsum : SumSaid sumSpecRef) (kd wn n : Int) (s t : ByteArray) (rest : List Value) (g gs : Nat) (w : World) (hp : w.cell? ⟨g, 0, none⟩ = some (.pointer (some ⟨gs, 0, none⟩))) (hS : Summ w gs) (hG : Glob w)
    (hk : kd = 1 ∨ kd = 2 ∨ kd = 3) (hn1 : n ≤ 9223372036854775807) :
    Calls Tryz.prog 8 #[.pointer (some ⟨g, 0, none⟩), .agg (opCells kd wn n s t rest).toArray] w fun r w' => r = .returned (.bool true) ∧ Below w.heap.size w w' := by
  rcases hk with rfl | rfl | rfl
  · exact law_sums1 hsum wn n s t rest g gs w hp hS hG
  · exact law_sums2 hsum wn n s t rest g gs w hp hS hG
  · exact law_sums3 hsum wn n s t rest g gs w hp hS hG hn1

set_option maxRecDepth 100000 in
set_option maxHeartbeats 2000000 in
theorem law_step (hsum : SumSaid sumSpecRef) (kd wn n : Int) (s t : ByteArray) (rest : List Value) (g gs : Nat) (w : World) (hp : w.cell? ⟨g, 0, none⟩ = some (.pointer (some ⟨gs, 0, none⟩))) (hS : Summ w gs) (hG : Glob w)
    (hk : kd = 1 ∨ kd = 2 ∨ kd = 3) (hn1 : n ≤ 9223372036854775807) (hrl : rest.length = 15) :
    Calls Tryz.prog 10 #[.pointer (some ⟨g, 0, none⟩), .agg (opCells kd wn n s t rest).toArray] w fun r w' => r = .returned (.bool true) ∧ Below w.heap.size w w' := by
  have hcall := fun (w' : World) (L : LawAt w g gs kd wn n s t rest w') => law_sums hsum kd wn n s t rest g gs w' L.ptr L.summ L.glob hk hn1
  obtain ⟨cs, HC⟩ : ∃ cs, Hid (cs = opCells kd wn n s t rest) := ⟨_, rfl⟩
  have hcl : cs.length = 20 := by rw [HC.out]; simp [opCells, hrl]
  rw [← HC.out] at hcall ⊢
  rcases hk with rfl | rfl | rfl
  all_goals
    go_enter Tryz.func10, Tryz.ntmps10
    go_wp2_with (first | (refine wpList_boxM rfl 36 _ rfl cs rfl ?_; intro w1 hr hb; have L1 : LawAt w g gs _ wn n s t rest w1 := ⟨by rw [← HC.out]; exact hr, (hb.cell (p := ⟨g, 0, none⟩) (World.block_lt_of_cell? _ _ hp)).trans hp, hS.below hb (Nat.le_refl _), hG.below hb (Nat.le_refl _), hb, hr.lt⟩; clear hb; obtain ⟨a0, a2, a3, a4⟩ := L1.cells; go_simp) | (refine wpList_loadOp rfl _ rfl _ rfl _ cs hr hcl ?_; go_simp) | (go_at_call 8; refine (hcall _ L1).mono ?_; rintro _ w2 ⟨rfl, hb2⟩; have L2 := L1.next hb2))
    go_ret
    exact ⟨rfl, L2.below⟩
end Go.Proofs.YtaokemapkgggoaaGreatDoor
