import Derived.Test.YtaokemapkgggoaaGreatDoorAl40
namespace Go.Proofs.YtaokemapkgggoaaGreatDoor
open Go.RowKit

theorem pairCells_app (a b : List (Nat × Nat × Dv)) : pairCells (a ++ b) = pairCells a ++ pairCells b := by simp [pairCells]
theorem pairCells_len : ∀ ps : List (Nat × Nat × Dv), (pairCells ps).length = 2 * ps.length
  | [] => rfl
  | p :: ps => by
    have := pairCells_len ps
    simp only [pairCells, List.flatMap_cons, List.length_append, List.length_cons, List.length_nil] at this ⊢
    omega
theorem owns_two {w w' : World} {B x y : Nat} {e : TypeId} {k n : Nat} {v : Value} {xs : List Value} (h : w.ownsRow B e k v n xs) (ht : Two x y w w') (hx : v.ownBlock ≠ some x) (hy : v.ownBlock ≠ some y) : w'.ownsRow B e k v n xs := by
  refine ⟨h.1, ?_⟩
  rcases h.2 with ⟨hv, hn⟩ | ⟨g, cap, cur, hv, h1, hg, h2⟩
  · exact .inl ⟨hv, hn⟩
  · rw [hv] at hx hy
    refine .inr ⟨g, cap, cur, hv, h1, ?_, h2⟩
    rw [ht.block g (Array.getElem?_eq_some_iff.1 hg).1 (fun e => hx (by rw [e]; rfl)) (fun e => hy (by rw [e]; rfl))]
    exact hg

theorem FedAt.asked {w1 w w' : World} {g gs x y : Nat} {pre post : List (Nat × Nat × Dv)} {d d' : Dv} (F : FedAt w1 g gs (pre ++ (x, y, d) :: post) w) (ht : Two x y w w') (D : DevAt w' gs x y d') : FedAt w1 g gs (pre ++ (x, y, d') :: post) w' := by
  have hm : (x, y, d) ∈ pre ++ (x, y, d) :: post := by simp
  obtain ⟨D0, hx, hy⟩ := F.dev _ hm
  obtain ⟨v, hr, ho⟩ := F.row
  have e1 : (pre ++ (x, y, d') :: post).length = (pre ++ (x, y, d) :: post).length := by simp
  have e2 : pairCells (pre ++ (x, y, d') :: post) = pairCells (pre ++ (x, y, d) :: post) := by simp [pairCells]
  have e3 : (pre ++ (x, y, d') :: post).map (fun p => p.1) = (pre ++ (x, y, d) :: post).map (fun p => p.1) := by simp
  have e4 : (pre ++ (x, y, d') :: post).map (fun p => p.2.1) = (pre ++ (x, y, d) :: post).map (fun p => p.2.1) := by simp
  have nx := F.nx
  have ny := F.ny
  refine ⟨below_two F.base ht (Nat.le_refl _) hx hy, ⟨v, Row.twoE hr ht (Row.neP hr D0.pd (by decide)) (Row.ne hr D0.dv (by decide)), ?_⟩, ?_, ?_, ?_⟩
  · rw [e1, e2]
    exact owns_two ho ht (owns_neP ho D0.pd (by decide)) (owns_ne ho D0.dv (by decide))
  · intro p hp
    rcases List.mem_append.1 hp with hp | hp
    · have hp' : p ∈ pre ++ (x, y, d) :: post := List.mem_append.2 (.inl hp)
      have h1 := (List.pairwise_append.1 nx).2.2 p hp (x, y, d) (by simp)
      have h2 := (List.pairwise_append.1 ny).2.2 p hp (x, y, d) (by simp)
      exact ⟨(F.dev p hp').1.two D0 ht h1 h2, (F.dev p hp').2⟩
    · rcases List.mem_cons.1 hp with rfl | hp
      · exact ⟨D, hx, hy⟩
      · have hp' : p ∈ pre ++ (x, y, d) :: post := List.mem_append.2 (.inr (List.mem_cons.2 (.inr hp)))
        have h1 := (List.pairwise_cons.1 (List.pairwise_append.1 nx).2.1).1 p hp
        have h2 := (List.pairwise_cons.1 (List.pairwise_append.1 ny).2.1).1 p hp
        exact ⟨(F.dev p hp').1.two D0 ht (fun e => h1 e.symm) (fun e => h2 e.symm), (F.dev p hp').2⟩
  · have := List.pairwise_map.2 nx
    rw [← e3] at this
    exact List.pairwise_map.1 this
  · have := List.pairwise_map.2 ny
    rw [← e4] at this
    exact List.pairwise_map.1 this

/-- the device that a number speaks of -/
theorem FedAt.pick {w1 w : World} {g gs : Nat} {ps : List (Nat × Nat × Dv)} (F : FedAt w1 g gs ps w) (k : Nat) (hk : k < ps.length) :
    ∃ vb cap x y d pre post, ps = pre ++ (x, y, d) :: post ∧ Row w g [.pointer (some ⟨gs, 0, none⟩), .slice (some ⟨vb, 0, none⟩) ps.length cap] 30 ∧ (∃ cs, Row w vb cs 41) ∧
      w.cell? ⟨vb, k * 2, none⟩ = some (.pointer (some ⟨x, 0, none⟩)) ∧ w.cell? ⟨vb, k * 2 + 1, none⟩ = some (.pointer (some ⟨y, 0, none⟩)) := by
  obtain ⟨v, hr, ho⟩ := F.row
  rcases ho.2 with ⟨_, hn⟩ | ⟨vb, cap, cur, hv, _, hg, hc, _, hcs, htk⟩
  · omega
  · have hsp : ps = ps.take k ++ ps[k] :: ps.drop (k + 1) := by rw [← List.drop_eq_getElem_cons hk, List.take_append_drop]
    have hrow : Row w vb cur.toList 41 := by unfold Row; rw [hg]
    have hcell : ∀ j u, (pairCells ps)[j]? = some u → w.cell? ⟨vb, j, none⟩ = some u := by
      intro j u hj
      rw [hrow.cell]
      rw [← htk, List.getElem?_take] at hj
      split at hj
      · exact hj
      · cases hj
    have hlk : (pairCells (ps.take k)).length = k * 2 := by rw [pairCells_len, List.length_take]; omega
    have hat : ∀ i, i < 2 → (pairCells ps)[k * 2 + i]? = [Value.pointer (some ⟨ps[k].1, 0, none⟩), .pointer (some ⟨ps[k].2.1, 0, none⟩)][i]? := by
      intro i hi
      conv => lhs; rw [hsp]
      rw [pairCells_app, List.getElem?_append_right (by omega), hlk, show k * 2 + i - k * 2 = i by omega]
      simp only [pairCells, List.flatMap_cons]
      rw [List.getElem?_append_left (by simpa using hi)]
    refine ⟨vb, cap, ps[k].1, ps[k].2.1, ps[k].2.2, ps.take k, ps.drop (k + 1), hsp, ?_, ⟨_, hrow⟩, hcell _ _ (hat 0 (by omega)), hcell _ _ (hat 1 (by omega))⟩
    rw [← hv]
    exact hr
end Go.Proofs.YtaokemapkgggoaaGreatDoor
