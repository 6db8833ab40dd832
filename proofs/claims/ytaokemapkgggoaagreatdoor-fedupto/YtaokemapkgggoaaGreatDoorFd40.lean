import Derived.Test.YtaokemapkgggoaaGreatDoorFd39
namespace Go.Proofs.YtaokemapkgggoaaGreatDoor
open Go.RowKit

theorem fresh_pd {w : World} {x : Nat} {p : ByteArray} (sm : Nat) (h2 : p.size ≤ 8) (h : Row w x (dcells ((turned (rawFirst (fieldB 9 p.data.toList))).set 0 167 ++ List.replicate 100 0) .none false ⟨#[]⟩) 100) : PdAt w x (Dv.fresh sm p) := by
  have e0 : Bs (Dv.fresh sm p).h0 = (Dv.fresh sm p).k.img := str_list _
  have e1 : Bs (Dv.fresh sm p).h1 = List.replicate 100 0 := (str_list _).trans rfl
  unfold PdAt
  rw [e0, e1]
  rw [show fieldB 9 p.data.toList = fieldB 9 (Bs p) from rfl, first_img p h2] at h
  exact h
theorem fresh_dev {w : World} {gs x y : Nat} {p : ByteArray} (h1 : 1 ≤ p.size) (h2 : p.size ≤ 8) (hp : PdAt w x (Dv.fresh gs p)) (hd : DvAt w y (Dv.fresh gs p)) : DevAt w gs x y (Dv.fresh gs p) :=
  ⟨.inl ⟨rfl, hp⟩, hd, fresh_sound gs p h1 h2, fresh_stands gs p h1 h2, rfl, by show (0 : Nat) < 52; omega⟩

/-- while a device is made -/
structure MadeAt (w1 w0 : World) (g gs : Nat) (ps : List (Nat × Nat × Dv)) (wn n : Int) (s t : ByteArray) (rest : List Value) (w : World) : Prop where
  fed : FedAt w1 g gs ps w
  op : Row w w0.heap.size (opCells 4 wn n s t rest) 36
  low : w0.heap.size ≤ w.heap.size
theorem MadeAt.below {w1 w0 w w' : World} {g gs : Nat} {ps : List (Nat × Nat × Dv)} {wn n : Int} {s t : ByteArray} {rest : List Value} (M : MadeAt w1 w0 g gs ps wn n s t rest w) (hb : Below w.heap.size w w') : MadeAt w1 w0 g gs ps wn n s t rest w' :=
  ⟨M.fed.below hb, M.op.below hb M.op.lt, Nat.le_trans M.low hb.size⟩
theorem MadeAt.cells {w1 w0 w : World} {g gs : Nat} {ps : List (Nat × Nat × Dv)} {wn n : Int} {s t : ByteArray} {rest : List Value} (M : MadeAt w1 w0 g gs ps wn n s t rest w) :
    w.cell? ⟨w0.heap.size, 0, none⟩ = some (.int .i64 4) ∧ w.cell? ⟨w0.heap.size, 3, none⟩ = some (.string s) ∧ w.cell? ⟨g, 0, none⟩ = some (.pointer (some ⟨gs, 0, none⟩)) :=
  ⟨M.op.cell.trans rfl, M.op.cell.trans rfl, by obtain ⟨v, hr, _⟩ := M.fed.row; exact hr.cell.trans rfl⟩

set_option maxRecDepth 100000 in
set_option maxHeartbeats 1000000 in
theorem law_made (w1 w : World) (g gs : Nat) (ps : List (Nat × Nat × Dv)) (wn n : Int) (s t : ByteArray) (rest : List Value) (hg : w1.heap.size ≤ g) (F : FedAt w1 g gs ps w) (hs : s.size ≤ 1500000) (hl : ps.length < 1000) :
    Calls Tryz.prog 9 #[.pointer (some ⟨g, 0, none⟩), .agg (opCells 4 wn n s t rest).toArray] w fun r w' => r = .returned (.bool true) ∧ ∃ qs, FedAt w1 g gs (ps ++ qs) w' ∧ qs.length = (if s.size < 1 ∨ 8 < s.size then 0 else 1) := by
  obtain ⟨cs, HC⟩ : ∃ cs, Hid (cs = opCells 4 wn n s t rest) := ⟨_, rfl⟩
  rw [← HC.out]
  have hmk : ∀ wb, Row wb w.heap.size cs 36 → Below w.heap.size w wb → MadeAt w1 w g gs ps wn n s t rest wb := fun wb h1 h2 => ⟨F.below h2, by rw [← HC.out]; exact h1, h2.size⟩
  by_cases h1 : s.size < 1 ∨ 8 < s.size
  · rw [if_pos h1]
    go_enter Tryz.func9, Tryz.ntmps9
    go_wp2_with (first | (refine wpList_boxM rfl 36 _ rfl cs rfl ?_; intro wb hr3 hb3; have M := hmk wb hr3 hb3; clear hr3 hb3; obtain ⟨a0, a3, a1⟩ := M.cells; go_simp) | (go_at_call 21; refine (prog_New_no _ s h1).mono ?_; rintro _ w2 ⟨rfl, hb2⟩; have M2 := M.below hb2; clear hb2 a0 a3 a1; obtain ⟨a0, a3, a1⟩ := M2.cells))
    go_region_with (go_at_call 22; refine (ref_New_no gs s _ h1 (by omega)).mono ?_; rintro _ wy ⟨rfl, hwy⟩; rw [hwy]; clear hwy wy)
    all_goals
      go_wp2_with (go_at_call 23; refine (law_add_none g _).mono ?_; rintro _ wy ⟨rfl, hwy⟩; rw [hwy]; clear hwy wy)
      go_ret
      exact ⟨rfl, [], by rw [List.append_nil]; exact (M2.below (Below.refl _ _).drew).fed, rfl⟩
  · rw [if_neg h1]
    have h1a : 1 ≤ s.size := by omega
    have h1b : s.size ≤ 8 := by omega
    go_enter Tryz.func9, Tryz.ntmps9
    go_wp2_with (first | (refine wpList_boxM rfl 36 _ rfl cs rfl ?_; intro wb hr3 hb3; have M := hmk wb hr3 hb3; clear hr3 hb3; obtain ⟨a0, a3, a1⟩ := M.cells; go_simp) | (go_at_call 21; refine (prog_New_yes _ s h1a h1b).mono ?_; rintro _ w2 ⟨x, rfl, hx2, hr2, hb2⟩; have hp2 := fresh_pd gs h1b hr2; have M2 := M.below hb2; clear hr2 a0 a3 a1; obtain ⟨a0, a3, a1⟩ := M2.cells))
    go_region_with (go_at_call 22; refine (ref_New_yes gs s _ h1a h1b).mono ?_; rintro _ w3 ⟨y, hy3, rfl, hd3, hb3⟩; have M3 := M2.below (((Below.refl _ _).drew).trans hb3); have hp3 : PdAt w3 x (Dv.fresh gs s) := Row.below hp2 (((Below.refl _ _).drew).trans hb3) hp2.lt; have D3 := fresh_dev h1a h1b hp3 hd3; have hyy : w2.heap.size ≤ y := hy3)
    all_goals
      go_wp2_with (go_at_call 23; refine (law_add_some w1 w3 g gs ps x y (Dv.fresh gs s) hg M3.fed D3 ?c1 ?c2 ?c3 hl).mono ?_; (case c1 => (have := M.fed.base.size; omega)); (case c2 => (have := M2.fed.base.size; omega)); (case c3 => (intro p hp; have hq := ((M.fed.dev p hp).1); have hl1 := hq.pd.lt; have hl2 := Row.lt hq.dv; have hbs := hb2.size; exact ⟨by omega, by omega⟩)); rintro _ w4 ⟨rfl, F4⟩)
      go_ret
      exact ⟨rfl, _, F4, rfl⟩
end Go.Proofs.YtaokemapkgggoaaGreatDoor

namespace Go.Proofs.YtaokemapkgggoaaGreatDoor
open Go.RowKit

theorem pairCells_app (a b : List (Nat × Nat × Dv)) : pairCells (a ++ b) = pairCells a ++ pairCells b := by simp [pairCells]
theorem pairCells_len : ∀ ps : List (Nat × Nat × Dv), (pairCells ps).length = 2 * ps.length
  | [] => rfl
  | p :: ps => by
    have := pairCells_len ps
    simp only [pairCells, List.flatMap_cons, List.length_append, List.length_cons, List.length_nil] at this ⊢
    omega
theorem owns_two {w w' : World} {B x y : Nat} {e : TypeId} {k n : Nat} {v : Value} {xs : List Value} (h : w.ownsRow B e k v n xs) (ht : Two x y w w') (hx : v.ownBlock ≠ some x) (hy : v.ownBlock ≠ some y) : w'.ownsRow B e k v n xs := by
  refine ⟨h.1, ?_⟩
  rcases h.2 with ⟨hv, hn⟩ | ⟨g, cap, cur, hv, h1, hg, h2⟩
  · exact .inl ⟨hv, hn⟩
  · rw [hv] at hx hy
    refine .inr ⟨g, cap, cur, hv, h1, ?_, h2⟩
    rw [ht.block g (Array.getElem?_eq_some_iff.1 hg).1 (fun e => hx (by rw [e]; rfl)) (fun e => hy (by rw [e]; rfl))]
    exact hg

theorem FedAt.asked {w1 w w' : World} {g gs x y : Nat} {pre post : List (Nat × Nat × Dv)} {d d' : Dv} (F : FedAt w1 g gs (pre ++ (x, y, d) :: post) w) (ht : Two x y w w') (D : DevAt w' gs x y d') : FedAt w1 g gs (pre ++ (x, y, d') :: post) w' := by
  have hm : (x, y, d) ∈ pre ++ (x, y, d) :: post := by simp
  obtain ⟨D0, hx, hy⟩ := F.dev _ hm
  obtain ⟨v, hr, ho⟩ := F.row
  have e1 : (pre ++ (x, y, d') :: post).length = (pre ++ (x, y, d) :: post).length := by simp
  have e2 : pairCells (pre ++ (x, y, d') :: post) = pairCells (pre ++ (x, y, d) :: post) := by simp [pairCells]
  have e3 : (pre ++ (x, y, d') :: post).map (fun p => p.1) = (pre ++ (x, y, d) :: post).map (fun p => p.1) := by simp
  have e4 : (pre ++ (x, y, d') :: post).map (fun p => p.2.1) = (pre ++ (x, y, d) :: post).map (fun p => p.2.1) := by simp
  have nx := F.nx
  have ny := F.ny
  refine ⟨below_two F.base ht (Nat.le_refl _) hx hy, ⟨v, Row.twoE hr ht (Row.neP hr D0.pd (by decide)) (Row.ne hr D0.dv (by decide)), ?_⟩, ?_, ?_, ?_⟩
  · rw [e1, e2]
    exact owns_two ho ht (owns_neP ho D0.pd (by decide)) (owns_ne ho D0.dv (by decide))
  · intro p hp
    rcases List.mem_append.1 hp with hp | hp
    · have hp' : p ∈ pre ++ (x, y, d) :: post := List.mem_append.2 (.inl hp)
      have h1 := (List.pairwise_append.1 nx).2.2 p hp (x, y, d) (by simp)
      have h2 := (List.pairwise_append.1 ny).2.2 p hp (x, y, d) (by simp)
      exact ⟨(F.dev p hp').1.two D0 ht h1 h2, (F.dev p hp').2⟩
    · rcases List.mem_cons.1 hp with rfl | hp
      · exact ⟨D, hx, hy⟩
      · have hp' : p ∈ pre ++ (x, y, d) :: post := List.mem_append.2 (.inr (List.mem_cons.2 (.inr hp)))
        have h1 := (List.pairwise_cons.1 (List.pairwise_append.1 nx).2.1).1 p hp
        have h2 := (List.pairwise_cons.1 (List.pairwise_append.1 ny).2.1).1 p hp
        exact ⟨(F.dev p hp').1.two D0 ht (fun e => h1 e.symm) (fun e => h2 e.symm), (F.dev p hp').2⟩
  · have := List.pairwise_map.2 nx
    rw [← e3] at this
    exact List.pairwise_map.1 this
  · have := List.pairwise_map.2 ny
    rw [← e4] at this
    exact List.pairwise_map.1 this

/-- the device that a number speaks of -/
theorem FedAt.pick {w1 w : World} {g gs : Nat} {ps : List (Nat × Nat × Dv)} (F : FedAt w1 g gs ps w) (k : Nat) (hk : k < ps.length) :
    ∃ vb cap x y d pre post, ps = pre ++ (x, y, d) :: post ∧ Row w g [.pointer (some ⟨gs, 0, none⟩), .slice (some ⟨vb, 0, none⟩) ps.length cap] 30 ∧ (∃ cs, Row w vb cs 41) ∧
      w.cell? ⟨vb, k * 2, none⟩ = some (.pointer (some ⟨x, 0, none⟩)) ∧ w.cell? ⟨vb, k * 2 + 1, none⟩ = some (.pointer (some ⟨y, 0, none⟩)) := by
  obtain ⟨v, hr, ho⟩ := F.row
  rcases ho.2 with ⟨_, hn⟩ | ⟨vb, cap, cur, hv, _, hg, hc, _, hcs, htk⟩
  · omega
  · have hsp : ps = ps.take k ++ ps[k] :: ps.drop (k + 1) := by rw [← List.drop_eq_getElem_cons hk, List.take_append_drop]
    have hrow : Row w vb cur.toList 41 := by unfold Row; rw [hg]
    have hcell : ∀ j u, (pairCells ps)[j]? = some u → w.cell? ⟨vb, j, none⟩ = some u := by
      intro j u hj
      rw [hrow.cell]
      rw [← htk, List.getElem?_take] at hj
      split at hj
      · exact hj
      · cases hj
    have hlk : (pairCells (ps.take k)).length = k * 2 := by rw [pairCells_len, List.length_take]; omega
    have hat : ∀ i, i < 2 → (pairCells ps)[k * 2 + i]? = [Value.pointer (some ⟨ps[k].1, 0, none⟩), .pointer (some ⟨ps[k].2.1, 0, none⟩)][i]? := by
      intro i hi
      conv => lhs; rw [hsp]
      rw [pairCells_app, List.getElem?_append_right (by omega), hlk, show k * 2 + i - k * 2 = i by omega]
      simp only [pairCells, List.flatMap_cons]
      rw [List.getElem?_append_left (by simpa using hi)]
    refine ⟨vb, cap, ps[k].1, ps[k].2.1, ps[k].2.2, ps.take k, ps.drop (k + 1), hsp, ?_, ⟨_, hrow⟩, hcell _ _ (hat 0 (by omega)), hcell _ _ (hat 1 (by omega))⟩
    rw [← hv]
    exact hr
end Go.Proofs.YtaokemapkgggoaaGreatDoor
