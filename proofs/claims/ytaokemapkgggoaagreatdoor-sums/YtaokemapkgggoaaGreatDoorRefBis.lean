import Derived.Test.YtaokemapkgggoaaGreatDoorRefSpec
/-
  The roots by halving, reckoned by the kernel.
-/
namespace Go.Proofs.YtaokemapkgggoaaGreatDoor
def bisF (p : Int) (cube : Bool) : Nat → Int → Int → Int
  | 0, lo, _ => lo
  | k + 1, lo, hi => match over p cube ((lo + hi) / 2) with
    | true => bisF p cube k lo ((lo + hi) / 2)
    | false => bisF p cube k ((lo + hi) / 2) hi
theorem bisF_to (p : Int) (cube : Bool) (j : Nat) : ∀ k, bisF p cube j (bisTo p cube k).1 (bisTo p cube k).2 = (bisTo p cube (k + j)).1 := by
  induction j with
  | zero => intro k; rfl
  | succ j ih =>
    intro k
    rw [show k + (j + 1) = (k + 1) + j by omega, ← ih (k + 1)]
    rw [bisF, bisTo]
    cases over p cube (((bisTo p cube k).1 + (bisTo p cube k).2) / 2) <;> simp
theorem rootL_eq (p : Int) (cube : Bool) (r : Int) (h : bisF p cube 37 0 137438953472 % 4294967296 = r) : rootL p cube = r := by
  have := bisF_to p cube 37 0
  rw [Nat.zero_add] at this
  unfold rootL
  rw [← this]
  exact h
end Go.Proofs.YtaokemapkgggoaaGreatDoor
