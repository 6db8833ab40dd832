import Derived.Test.YtaokemapkgggoaaGreatDoorRefNew
import Derived.Test.YtaokemapkgggoaaGreatDoorProgCodeBy
namespace Go.Proofs.YtaokemapkgggoaaGreatDoor
open Go.RowKit

theorem below_of_none {w w' : World} (hg : w.grownBy w' none) : Below w.heap.size w w' := ⟨hg.os, hg.tape, hg.output, hg.size, fun k hk => hg.block k hk (fun e => by cases e)⟩

section
variable {P : Program} {ops : Array Oper} {o : Oper} {a : Act} {K : Act → World → Prop} {Q : Exit → Act → World → Prop} {E : Prop}
/-- numbers appended inside a statement whose order is open; they lie in the block that was made last -/
theorem step_app (W : World) {wz : World} (hgd : o.guard = none) (s x : Operand) (t e : TypeId) (k : IntKind) (bytes : Nat) (ho : o.op = .call { callee := .builtin .append, args := #[s, x], argTypes := #[t, t] }) (ht : SlT P t e k bytes)
    (base : Nat) (v : Value) (xs : List Int) (hs : a.eval s = v) (hown : Own W base k e v xs) (ys : List Int) (n c : Nat) (ty : TypeId) (hn : ys.length = n) (hx : a.eval x = .slice (some ⟨W.heap.size, 0, none⟩) n c)
    (hh : wz.heap = (W.alloc (.cells (ys.map (Value.int k)).toArray ty)).heap) (h1 : wz.os = W.os) (h2 : wz.tape = W.tape) (h3 : wz.output = W.output)
    (hlen : xs.length + n ≤ 1000000) (hbase : base ≤ W.heap.size)
    (h : ∀ v' w', Own w' base k e v' (xs ++ ys) → W.grownBy w' v.ownBlock → (v'.ownBlock = v.ownBlock ∨ v'.ownBlock = some (W.heap.size + 1)) → K (a.put o.dst v') w') :
    if Region.wanted o (yielded ops a.tmps) = true then o.wp P a wz K Q else E := by
  subst hn
  have hsz : wz.heap.size = W.heap.size + 1 := by rw [hh]; exact World.size_alloc _ _
  have hblk : ∀ g, g < W.heap.size → wz.heap[g]? = W.heap[g]? := fun g hg => by rw [hh]; exact Below.heap_alloc W _ g hg
  refine step_of hgd (wp_app s x t e k bytes ho ht base v xs hs (hown.block fun g hg => hblk g (hown.lt g hg).2) W.heap.size c ys hx ?_ hlen (by omega) ?_)
  · intro j hj
    have hb : wz.heap[W.heap.size]? = (W.alloc (.cells (ys.map (Value.int k)).toArray ty)).heap[W.heap.size]? := by rw [hh]
    rw [World.cell?_of_block (w := W.alloc (.cells (ys.map (Value.int k)).toArray ty)) (a := ⟨W.heap.size, j, none⟩) hb, World.cell?_alloc_new]
    simp [hj]
  · intro v' w' i1 i2 i3
    refine h v' w' i1 ⟨i2.os.trans h1, i2.tape.trans h2, i2.output.trans h3, ?_, fun g hg hne => ?_⟩ ?_
    · have := i2.size
      omega
    · exact (i2.block g (by omega) hne).trans (hblk g hg)
    · rwa [hsz] at i3
end

/-- a list of numbers in a block of which the cells may be written -/
structure Cells9 (w : World) (g : Nat) (hs : List Int) : Prop where
  at' : At w g hs
  fz : ∀ j, w.frozen? ⟨g, j, none⟩ = false
  lt : g < w.heap.size
theorem Cells9.below {B : Nat} {w w' : World} {g : Nat} {hs : List Int} (h : Cells9 w g hs) (hb : Below B w w') (hg : g < B) : Cells9 w' g hs :=
  ⟨h.at'.below hb hg, fun j => (hb.frozen (p := ⟨g, j, none⟩) hg).trans (h.fz j), Nat.lt_of_lt_of_le h.lt hb.size⟩
theorem Cells9.drew {w : World} {g : Nat} {hs : List Int} (h : Cells9 w g hs) : Cells9 w.drew g hs := ⟨h.at', h.fz, h.lt⟩
theorem Cells9.grown {w w' : World} {g : Nat} {hs : List Int} {v u : Value} (h : Cells9 w g hs) (hg : w.grownBy w' v.ownBlock) (hu : u.ownBlock = some g) (hs' : Sep v u) : Cells9 w' g hs := by
  have hb : w'.heap[g]? = w.heap[g]? := hg.block g h.lt (fun e => hs' g e.symm hu)
  exact ⟨fun j hj => (World.cell?_of_block (w := w) hb).trans (h.at' j hj), fun j => (World.frozen?_of_block (w := w) hb).trans (h.fz j), Nat.lt_of_lt_of_le h.lt hg.size⟩
theorem Sep.app9 {w : World} {v u v' : Value} {g m : Nat} (hs : Sep v u) (hu : u.ownBlock = some g) (hg : g < w.heap.size) (hm : w.heap.size ≤ m) (h : v'.ownBlock = v.ownBlock ∨ v'.ownBlock = some m) : Sep v' u := by
  intro k hk hu'
  rcases h with h | h
  · exact hs k (h ▸ hk) hu'
  · rw [hu] at hu'
    rw [h] at hk
    have := Option.some.inj hk
    have := Option.some.inj hu'
    omega
theorem Cells9.set {w : World} {g : Nat} {hs : List Int} (h : Cells9 w g hs) (i : Nat) (hi : i < hs.length) (x : Int) : Cells9 (w.setCell ⟨g, i, none⟩ (.int .i64 x)) g (hs.set i x) := by
  refine ⟨fun j hj => ?_, fun j => ?_, ?_⟩
  · rw [List.length_set] at hj
    by_cases e : i = j
    · subst e
      rw [World.cell?_setCell_same _ _ _ (h.at' i hi)]
      simp [List.getD, hi]
    · rw [World.cell?_setCell_other _ _ _ _ (fun h => e (Addr.mk.inj h).2.1), h.at' j hj]
      simp [List.getD, e]
  · have := h.fz j
    rw [← this]
    simp [World.frozen?, World.setCell, Array.getElem?_modify]
    cases w.heap[g]? with
    | none => rfl
    | some o => cases o <;> rfl
  · have := h.lt
    simpa [World.setCell] using this
end Go.Proofs.YtaokemapkgggoaaGreatDoor
