import Derived.Test.YtaokemapkgggoaaGreatDoorLawSums
namespace Go.Proofs.YtaokemapkgggoaaGreatDoor
open Go.RowKit

theorem struct_of {u : Option TypeDesc} (h : (match u with | some (.struct _) => true | _ => false) = true) : ∃ fs, u = some (.struct fs) := by
  split at h
  · exact ⟨_, rfl⟩
  · cases h
theorem underOp0 : (match Tryz.prog.underlying 36 with | some (.struct _) => true | _ => false) = true := by kernel_rfl
theorem underOp : ∃ fs, Tryz.prog.underlying 36 = some (.struct fs) := struct_of underOp0
theorem sizeOp : (Tryz.prog.info? 36).map (·.size) = some 20 := by kernel_rfl
theorem wpList_loadOp {ops : Array Oper} {rest : List Oper} {o : Oper} {a : Act} {w : World} {Q : Exit → Act → World → Prop} (hgd : o.guard = none) (x : Operand) (ho : o.op = .load 36 x) (g : Nat) (hx : a.eval x = .pointer (some ⟨g, 0, none⟩)) (t : TypeId) (cs : List Value)
    (hr : Row w g cs t) (hn : cs.length = 20) (h : wpList Tryz.prog ops Q rest (a.put o.dst (.agg cs.toArray)) w) : wpList Tryz.prog ops Q (o :: rest) a w := by
  obtain ⟨fs, hu⟩ := underOp
  exact wpList_plain hgd fun _ hK => wp_load_row 36 x ho g hx t cs.toArray (0, 0) _ hr hu rfl (by rw [sizeOp]; simp [hn]) (hK _ _ h)

/-- what lies in memory between two steps -/
structure PlayAt (w0 : World) (g gs : Nat) (w : World) : Prop where
  c0 : w.cell? ⟨g, 0, none⟩ = some (.pointer (some ⟨gs, 0, none⟩))
  c1 : w.cell? ⟨g, 1, none⟩ = some (.slice none 0 0)
  summ : Summ w gs
  glob : Glob w
  below : Below w0.heap.size w0 w
theorem PlayAt.next {w0 : World} {g gs : Nat} {w w' : World} (h : PlayAt w0 g gs w) (hb : Below w.heap.size w w') : PlayAt w0 g gs w' :=
  ⟨(hb.cell (p := ⟨g, 0, none⟩) (World.block_lt_of_cell? _ _ h.c0)).trans h.c0, (hb.cell (p := ⟨g, 1, none⟩) (World.block_lt_of_cell? _ _ h.c1)).trans h.c1, h.summ.below hb (Nat.le_refl _), h.glob.below hb (Nat.le_refl _), h.below.trans (hb.mono h.below.size)⟩
end Go.Proofs.YtaokemapkgggoaaGreatDoor
