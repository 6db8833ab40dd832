import Derived.Test.YtaokemapkgggoaaGreatDoorRefConsts
import Derived.Test.YtaokemapkgggoaaGreatDoorProgSeal
import Derived.Test.YtaokemapkgggoaaGreatDoorRefConstA
import Derived.Test.YtaokemapkgggoaaGreatDoorRefConstB
import Derived.Test.YtaokemapkgggoaaGreatDoorRefConstC
import Derived.Test.YtaokemapkgggoaaGreatDoorRefConstD
namespace Go.Proofs.YtaokemapkgggoaaGreatDoor
open Go.RowKit

theorem K0_roots : (P64.map fun p => rootL p true) = K0 := by
  simp only [P64, List.map_cons, List.map_nil, cube0, cube1, cube2, cube3, cube4, cube5, cube6, cube7, cube8, cube9, cube10, cube11, cube12, cube13, cube14, cube15, cube16, cube17, cube18, cube19, cube20, cube21, cube22, cube23, cube24, cube25, cube26, cube27, cube28, cube29, cube30, cube31, cube32, cube33, cube34, cube35, cube36, cube37, cube38, cube39, cube40, cube41, cube42, cube43, cube44, cube45, cube46, cube47, cube48, cube49, cube50, cube51, cube52, cube53, cube54, cube55, cube56, cube57, cube58, cube59, cube60, cube61, cube62, cube63, K0]
theorem H0_roots : ((P64.take 8).map fun p => rootL p false) = H0 := by
  simp only [P64, List.take_succ_cons, List.take_zero, List.map_cons, List.map_nil, square0, square1, square2, square3, square4, square5, square6, square7, H0]

/-- what sums need lies behind the pointer to block g -/
def Summ (w : World) (g : Nat) : Prop := ∃ gk ck gh ch, w.cell? ⟨g, 0, none⟩ = some (.slice (some ⟨gk, 0, none⟩) 64 ck) ∧ w.cell? ⟨g, 1, none⟩ = some (.slice (some ⟨gh, 0, none⟩) 8 ch) ∧ At w gk K0 ∧ At w gh H0 ∧ gk < w.heap.size ∧ gh < w.heap.size
theorem Summ.lt {w : World} {g : Nat} (h : Summ w g) : g < w.heap.size := by
  obtain ⟨_, _, _, _, h1, _⟩ := h
  exact World.block_lt_of_cell? _ _ h1
theorem Summ.below {B : Nat} {w w' : World} {g : Nat} (h : Summ w g) (hb : Below B w w') (hB : w.heap.size ≤ B) : Summ w' g := by
  have hl := h.lt
  obtain ⟨gk, ck, gh, ch, h1, h2, h3, h4, h5, h6⟩ := h
  exact ⟨gk, ck, gh, ch, (hb.cell (p := ⟨g, 0, none⟩) (by simp; omega)).trans h1, (hb.cell (p := ⟨g, 1, none⟩) (by simp; omega)).trans h2, h3.below hb (by omega), h4.below hb (by omega), Nat.lt_of_lt_of_le h5 hb.size, Nat.lt_of_lt_of_le h6 hb.size⟩

set_option maxHeartbeats 1000000 in
theorem ref_newSummer (w : World) :
    Calls Tryz.prog 7 #[] w fun r w' => ∃ g, r = .returned (.pointer (some ⟨g, 0, none⟩)) ∧ Summ w' g ∧ w.heap.size ≤ g ∧ Below w.heap.size w w' := by
  go_enter Tryz.func7, Tryz.ntmps7
  go_wp2_with fail
  refine (ref_constants _).mono ?_
  rintro _ w1 ⟨kv, hv, rfl, hk, hh, _, hB⟩
  rw [K0_roots] at hk
  rw [H0_roots] at hh
  obtain ⟨gk, ck, rfl, _, k1, k2, -⟩ := hk.at (by decide)
  obtain ⟨gh, ch, rfl, _, h1, h2, -⟩ := hh.at (by decide)
  go_wp2
  go_ret
  refine ⟨w1.heap.size, rfl, ⟨gk, ck, gh, ch, ?_, ?_, ?_, ?_, ?_, ?_⟩, hB.size, hB.alloc hB.size _⟩
  · rw [World.cell?_alloc_new]; rfl
  · rw [World.cell?_alloc_new]; rfl
  · exact fun j hj => (World.cell?_alloc_past _ _ _ k1).trans (k2 j hj)
  · exact fun j hj => (World.cell?_alloc_past _ _ _ h1).trans (h2 j hj)
  · simp; omega
  · simp; omega
end Go.Proofs.YtaokemapkgggoaaGreatDoor
