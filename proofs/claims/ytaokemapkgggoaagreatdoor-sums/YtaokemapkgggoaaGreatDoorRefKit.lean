import Derived.Test.YtaokemapkgggoaaGreatDoorKit
import Derived.Laws.AppendOwnNone
import Derived.Maps.AppendAt
/-
  Slices that a call makes and appends to, as lists of numbers.
-/
namespace Go.Proofs.YtaokemapkgggoaaGreatDoor
open Go.RowKit

/-- the slice v, whose elements are of type e (numbers of kind k), is a list of the call's own (blocks from base on): xs -/
def Own (w : World) (base : Nat) (k : IntKind) (e : TypeId) (v : Value) (xs : List Int) : Prop := w.ownsRow base e 1 v xs.length (xs.map (Value.int k))

theorem Own.nil (w : World) (base : Nat) (k : IntKind) (e : TypeId) : Own w base k e (.slice none 0 0) [] := World.ownsRow_nil _ _ _ _
theorem Own.open {w : World} {base : Nat} {k : IntKind} {e : TypeId} {v : Value} {xs : List Int} (h : Own w base k e v xs) :
    ∃ ao cap, v = .slice ao xs.length cap ∧ ∀ i, i < xs.length → ∃ g, ao = some ⟨g, 0, none⟩ ∧ base ≤ g ∧ g < w.heap.size ∧ ∀ j, j < xs.length → w.cell? ⟨g, j, none⟩ = some (.int k (xs.getD j 0)) := by
  obtain ⟨_, h2⟩ := h
  rcases h2 with ⟨hv, hn⟩ | ⟨g, cap, cur, hv, hg, hh, hc, hm, hs, ht⟩
  · exact ⟨none, 0, by rw [hv, hn], fun i hi => by omega⟩
  · refine ⟨some ⟨g, 0, none⟩, cap, hv, fun i _ => ⟨g, rfl, hg, (Array.getElem?_eq_some_iff.1 hh).1, fun j hj => ?_⟩⟩
    rw [cell_of_row w g j cur e (0, 0) hh]
    have h1 : (cur.toList.take (xs.length * 1))[j]? = (xs.map (Value.int k))[j]? := by rw [ht]
    rw [List.getElem?_take_of_lt (by omega), Array.getElem?_toList] at h1
    rw [h1]
    simp [hj]
/-- a list that is not empty lies at the head of a block -/
theorem Own.at {w : World} {base : Nat} {k : IntKind} {e : TypeId} {v : Value} {xs : List Int} (h : Own w base k e v xs) (hn : 0 < xs.length) :
    ∃ g cap, v = .slice (some ⟨g, 0, none⟩) xs.length cap ∧ base ≤ g ∧ g < w.heap.size ∧ (∀ j, j < xs.length → w.cell? ⟨g, j, none⟩ = some (.int k (xs.getD j 0))) ∧ ∀ j, w.frozen? ⟨g, j, none⟩ = false := by
  obtain ⟨ao, cap, hv, hc⟩ := h.open
  obtain ⟨g, rfl, hb, hl, hcell⟩ := hc 0 hn
  refine ⟨g, cap, hv, hb, hl, hcell, fun j => ?_⟩
  unfold Own at h
  rw [hv] at h
  exact h.frozenAt j
theorem Own.alloc {w : World} {base : Nat} {k : IntKind} {e : TypeId} {v : Value} {xs : List Int} (h : Own w base k e v xs) (o : Obj) : Own (w.alloc o) base k e v xs := World.ownsRow.alloc h o
theorem Own.drew {w : World} {base : Nat} {k : IntKind} {e : TypeId} {v : Value} {xs : List Int} (h : Own w base k e v xs) : Own w.drew base k e v xs := h
theorem Own.drewN {w : World} {base : Nat} {k : IntKind} {e : TypeId} {v : Value} {xs : List Int} (h : Own w base k e v xs) (n : Nat) : Own (w.drewN n) base k e v xs := h
theorem Own.block {w w' : World} {base : Nat} {k : IntKind} {e : TypeId} {v : Value} {xs : List Int} (h : Own w base k e v xs) (hb : ∀ g, v.ownBlock = some g → w'.heap[g]? = w.heap[g]?) : Own w' base k e v xs := by
  obtain ⟨h1, h2⟩ := h
  refine ⟨h1, ?_⟩
  rcases h2 with h2 | ⟨g, cap, cur, hv, hg, hh, r⟩
  · exact .inl h2
  · exact .inr ⟨g, cap, cur, hv, hg, by rw [hb g (by rw [hv]; rfl)]; exact hh, r⟩
theorem Own.below {B : Nat} {w w' : World} {base : Nat} {k : IntKind} {e : TypeId} {v : Value} {xs : List Int} (h : Own w base k e v xs) (hb : Below B w w') (hB : w.heap.size ≤ B) : Own w' base k e v xs :=
  h.block fun g hg => hb.block g (Nat.lt_of_lt_of_le (World.ownsRow.lt h g hg).2 hB)
theorem Own.mono {w : World} {base base' : Nat} {k : IntKind} {e : TypeId} {v : Value} {xs : List Int} (h : Own w base k e v xs) (hb : base' ≤ base) : Own w base' k e v xs := by
  obtain ⟨h1, h2⟩ := h
  refine ⟨h1, ?_⟩
  rcases h2 with h2 | ⟨g, cap, cur, hv, hg, r⟩
  · exact .inl h2
  · exact .inr ⟨g, cap, cur, hv, Nat.le_trans hb hg, r⟩
theorem Own.lt {w : World} {base : Nat} {k : IntKind} {e : TypeId} {v : Value} {xs : List Int} (h : Own w base k e v xs) : ∀ g, v.ownBlock = some g → base ≤ g ∧ g < w.heap.size := World.ownsRow.lt h

theorem Own.cellAt {w : World} {base : Nat} {k : IntKind} {e : TypeId} {g n c : Nat} {xs : List Int} (h : Own w base k e (.slice (some ⟨g, 0, none⟩) n c) xs) (j : Nat) (hj : j < xs.length) : w.cell? ⟨g, j, none⟩ = some (.int k (xs.getD j 0)) := by
  obtain ⟨ao, cap, hv, hc⟩ := h.open
  obtain ⟨g', hg', _, _, hcell⟩ := hc j hj
  rw [hg'] at hv
  cases hv
  exact hcell j hj

/-- e's elements are numbers of kind k; t is the slice type -/
structure SlT (P : Program) (t e : TypeId) (k : IntKind) (bytes : Nat) : Prop where
  u : P.underlying t = some (.slice e)
  i : (P.info? e).map (fun i => (i.zero, i.size, i.bytes)) = some (some (.int k 0), 1, bytes)
  b : bytes ≤ 8

theorem oneCell_ints (k : IntKind) (ys : List Int) : ∀ u ∈ ys.map (Value.int k), u.oneCell' = true := ints_oneCell k ys

section
variable {P : Program} {ops : Array Oper} {rest : List Oper} {o : Oper} {a : Act} {w : World} {K : Act → World → Prop} {Q : Exit → Act → World → Prop}

theorem wp_app (s x : Operand) (t e : TypeId) (k : IntKind) (bytes : Nat) (ho : o.op = .call { callee := .builtin .append, args := #[s, x], argTypes := #[t, t] }) (ht : SlT P t e k bytes)
    (base : Nat) (v : Value) (xs : List Int) (hs : a.eval s = v) (hown : Own w base k e v xs)
    (g c : Nat) (ys : List Int) (hx : a.eval x = .slice (some ⟨g, 0, none⟩) ys.length c) (hy : ∀ j, j < ys.length → w.cell? ⟨g, j, none⟩ = some (.int k (ys.getD j 0)))
    (hlen : xs.length + ys.length ≤ 1000000) (hbase : base ≤ w.heap.size)
    (h : ∀ v' w', Own w' base k e v' (xs ++ ys) → w.grownBy w' v.ownBlock → (v'.ownBlock = v.ownBlock ∨ v'.ownBlock = some w.heap.size) → K (a.put o.dst v') w') : o.wp P a w K Q := by
  obtain ⟨i, hi, hz, h1, hb⟩ := info_parts ht.i
  have hnews : ∀ j u, (ys.map (Value.int k))[j]? = some u → w.cell? ((⟨g, 0, none⟩ : Addr).add j) = some u := by
    intro j u hj
    have hadd : (⟨g, 0, none⟩ : Addr).add j = ⟨g, j, none⟩ := by unfold Addr.add; split <;> simp_all
    have hjl : j < ys.length := by have := (List.getElem?_eq_some_iff.1 hj).1; simpa using this
    rw [hadd, hy j hjl]
    simp only [List.getElem?_map, List.getElem?_eq_getElem hjl, Option.map_some] at hj
    simpa [List.getD, hjl] using hj
  have hbytes : (xs.length + ys.length) * bytes ≤ 140737488355328 := by
    have := ht.b
    have h2 : (xs.length + ys.length) * bytes ≤ 1000000 * 8 := Nat.mul_le_mul hlen this
    omega
  obtain ⟨v', w', hr, h2, h3, _, h5⟩ := run_append_own_at (P := P) w base t o.type e i (.int k 0) 1 bytes ht.u hi hz h1 hb rfl (by omega) v xs.length (xs.map (Value.int k)) hown ⟨g, 0, none⟩ ys.length c (ys.map (Value.int k)) (by simp) hnews (ints_oneCell k ys) (by unfold maxLen; omega) hbytes hbase
  unfold Oper.wp execOp
  simp only [ho, resolve, invoke, builtin, Sem.run_bind, Sem.run_pure, Result.andThen_ok, List.map_toArray, List.map_cons, List.map_nil, hs, hx, hr]
  refine h v' w' ?_ h3 h5
  unfold Own
  rw [List.length_append, List.map_append]
  exact h2
theorem wpList_app (hgd : o.guard = none) (s x : Operand) (t e : TypeId) (k : IntKind) (bytes : Nat) (ho : o.op = .call { callee := .builtin .append, args := #[s, x], argTypes := #[t, t] }) (ht : SlT P t e k bytes)
    (base : Nat) (v : Value) (xs : List Int) (hs : a.eval s = v) (hown : Own w base k e v xs)
    (g c : Nat) (ys : List Int) (hx : a.eval x = .slice (some ⟨g, 0, none⟩) ys.length c) (hy : ∀ j, j < ys.length → w.cell? ⟨g, j, none⟩ = some (.int k (ys.getD j 0)))
    (hlen : xs.length + ys.length ≤ 1000000) (hbase : base ≤ w.heap.size)
    (h : ∀ v' w', Own w' base k e v' (xs ++ ys) → w.grownBy w' v.ownBlock → (v'.ownBlock = v.ownBlock ∨ v'.ownBlock = some w.heap.size) → wpList P ops Q rest (a.put o.dst v') w') : wpList P ops Q (o :: rest) a w :=
  wpList_plain hgd fun _ hK => wp_app s x t e k bytes ho ht base v xs hs hown g c ys hx hy hlen hbase fun v' w' h2 h3 h4 => hK _ _ (h v' w' h2 h3 h4)

/-- one element appended, which lies in the block that was made last -/
theorem wpList_app1 {W : World} (hgd : o.guard = none) (s x : Operand) (t e : TypeId) (k : IntKind) (bytes : Nat) (ho : o.op = .call { callee := .builtin .append, args := #[s, x], argTypes := #[t, t] }) (ht : SlT P t e k bytes)
    (base : Nat) (v : Value) (xs : List Int) (hs : a.eval s = v) (hown : Own W base k e v xs) (y : Int) (c : Nat) (ty : TypeId) (hx : a.eval x = .slice (some ⟨W.heap.size, 0, none⟩) 1 c)
    (hlen : xs.length + 1 ≤ 1000000) (hbase : base ≤ W.heap.size)
    (h : ∀ v' w', Own w' base k e v' (xs ++ [y]) → W.grownBy w' v.ownBlock → (v'.ownBlock = v.ownBlock ∨ v'.ownBlock = some (W.heap.size + 1)) → wpList P ops Q rest (a.put o.dst v') w') : wpList P ops Q (o :: rest) a (W.alloc (.cells #[.int k y] ty)) :=
  wpList_app hgd s x t e k bytes ho ht base v xs hs (hown.alloc _) W.heap.size c [y] hx
    (fun j hj => by
      have : j = 0 := by simp at hj; omega
      subst this
      rw [World.cell?_alloc_new]; rfl)
    (by simpa using hlen) (by simp; omega) fun v' w' h1 h2 h3 => h v' w' h1 ((World.grownBy_alloc W _ _).trans h2) (by rwa [World.size_alloc] at h3)
end

theorem below_grown {B base : Nat} {w0 w w' : World} {k : IntKind} {e : TypeId} {v : Value} {xs : List Int} (hb : Below B w0 w) (hg : w.grownBy w' v.ownBlock) (ho : Own w base k e v xs) (h1 : B ≤ w.heap.size) (h2 : B ≤ base) : Below B w0 w' :=
  hb.grown hg h1 fun g hg' => Nat.le_trans h2 (ho.lt g hg').1

/-- two slices in different blocks -/
def Sep (v u : Value) : Prop := ∀ g, v.ownBlock = some g → u.ownBlock ≠ some g
theorem Sep.symm {v u : Value} (h : Sep v u) : Sep u v := fun g h1 h2 => h g h2 h1
theorem Sep.nil (u : Value) : Sep (.slice none 0 0) u := fun g h => by cases h
theorem Own.grown {w w' : World} {base : Nat} {k : IntKind} {e : TypeId} {v u : Value} {xs : List Int} (h : Own w base k e u xs) (hg : w.grownBy w' v.ownBlock) (hs : Sep v u) : Own w' base k e u xs :=
  h.block fun g hu => hg.block g (h.lt g hu).2 (fun e => hs g e.symm hu)
theorem Sep.app {w : World} {base : Nat} {k : IntKind} {e : TypeId} {v u v' : Value} {xs : List Int} (hs : Sep v u) (hu : Own w base k e u xs) {m : Nat} (hm : w.heap.size ≤ m) (h : v'.ownBlock = v.ownBlock ∨ v'.ownBlock = some m) : Sep v' u := by
  intro g hg hu'
  rcases h with h | h
  · exact hs g (h ▸ hg) hu'
  · have h1 := (hu.lt g hu').2
    have h2 : m = g := by rw [h] at hg; exact Option.some.inj hg
    omega

theorem slI : SlT Tryz.prog 42 3 .i64 8 := ⟨by kernel_rfl, by kernel_rfl, by omega⟩
theorem slB : SlT Tryz.prog 49 5 .u8 1 := ⟨by kernel_rfl, by kernel_rfl, by omega⟩
end Go.Proofs.YtaokemapkgggoaaGreatDoor
