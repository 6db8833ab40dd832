import Derived.KernelRfl
/-
  The document's answer's reckoning of the constants, as plain functions: primes, products in pieces of 2^16, roots by halving.
-/
namespace Go.Proofs.YtaokemapkgggoaaGreatDoor

/-- one round of the inner loop of product -/
def mulStep (a b : Int) (at_ : Nat) (oc : List Int × Int) : List Int × Int :=
  (oc.1.set at_ ((oc.1.getD at_ 0 + a * b + oc.2) % 65536), (oc.1.getD at_ 0 + a * b + oc.2) / 65536)
def mulRow (a : Int) (ys : List Int) (i : Nat) (o : List Int) : Nat → List Int × Int
  | 0 => (o, 0)
  | j + 1 => mulStep a (ys.getD j 0) (i + j) (mulRow a ys i o j)
def mulTo (xs ys : List Int) : Nat → List Int
  | 0 => List.replicate (xs.length + ys.length) 0
  | i + 1 =>
    let r := mulRow (xs.getD i 0) ys i (mulTo xs ys i) ys.length
    r.1.set (i + ys.length) (r.1.getD (i + ys.length) 0 + r.2)
def prodL (xs ys : List Int) : List Int := mulTo xs ys xs.length

def piecesL (x : Int) : List Int := [x % 65536, x / 65536 % 65536, x / 4294967296]

/-- what above finds, of the last k places -/
def abv (xs : List Int) (p : Int) (n : Nat) : Nat → Bool
  | 0 => false
  | k + 1 => if xs.getD k 0 = (if k = n then p else 0) then abv xs p n k else decide ((if k = n then p else 0) < xs.getD k 0)

def over (p : Int) (cube : Bool) (mid : Int) : Bool :=
  if cube then abv (prodL (prodL (piecesL mid) (piecesL mid)) (piecesL mid)) p 6 9 else abv (prodL (piecesL mid) (piecesL mid)) p 4 6

def bisTo (p : Int) (cube : Bool) : Nat → Int × Int
  | 0 => (0, 137438953472)
  | k + 1 => if over p cube (((bisTo p cube k).1 + (bisTo p cube k).2) / 2) then ((bisTo p cube k).1, ((bisTo p cube k).1 + (bisTo p cube k).2) / 2) else (((bisTo p cube k).1 + (bisTo p cube k).2) / 2, (bisTo p cube k).2)
def rootL (p : Int) (cube : Bool) : Int := (bisTo p cube 37).1 % 4294967296


/-- a piece -/
def isP (x : Int) : Prop := 0 ≤ x ∧ x < 65536
theorem getD_set (l : List Int) (i p : Nat) (v : Int) : (l.set i v).getD p 0 = if p = i ∧ i < l.length then v else l.getD p 0 := by
  simp only [List.getD, List.getElem?_set]
  by_cases h : i = p
  · subst h
    by_cases h2 : i < l.length
    · simp [h2]
    · simp [h2]
  · have : ¬ (p = i ∧ i < l.length) := fun hc => h hc.1.symm
    simp [h, this]
theorem mul_bd {a b : Int} (ha : isP a) (hb : isP b) : 0 ≤ a * b ∧ a * b ≤ 4294836225 := by
  unfold isP at *
  have h1 : 0 ≤ a * b := Int.mul_nonneg ha.1 hb.1
  have h2 : a * b ≤ 65535 * 65535 := Int.mul_le_mul (by omega) (by omega) hb.1 (by omega)
  omega
theorem mulRow_len (a : Int) (ys : List Int) (i : Nat) (o : List Int) (j : Nat) : (mulRow a ys i o j).1.length = o.length := by
  induction j with
  | zero => rfl
  | succ j ih => simp [mulRow, mulStep, ih]
theorem mulRow_bd {a : Int} {ys : List Int} {i : Nat} {o : List Int} (ha : isP a) (hy : ∀ j, isP (ys.getD j 0)) (ho : ∀ p, isP (o.getD p 0)) (j : Nat) :
    (∀ p, isP ((mulRow a ys i o j).1.getD p 0)) ∧ isP (mulRow a ys i o j).2 := by
  induction j with
  | zero => exact ⟨ho, by unfold isP mulRow; simp⟩
  | succ j ih =>
    obtain ⟨h1, h2⟩ := ih
    have hm := mul_bd ha (hy j)
    have h3 := h1 (i + j)
    have h3a := h3.1
    have h3b := h3.2
    have h2a := h2.1
    have h2b := h2.2
    refine ⟨fun p => ?_, ?_⟩
    · show isP (((mulRow a ys i o j).1.set (i + j) (((mulRow a ys i o j).1.getD (i + j) 0 + a * ys.getD j 0 + (mulRow a ys i o j).2) % 65536)).getD p 0)
      rw [getD_set]
      split
      · unfold isP; omega
      · exact h1 p
    · show isP (((mulRow a ys i o j).1.getD (i + j) 0 + a * ys.getD j 0 + (mulRow a ys i o j).2) / 65536)
      unfold isP
      omega
theorem mulRow_far (a : Int) (ys : List Int) (i : Nat) (o : List Int) (j p : Nat) (h : i + j ≤ p) : (mulRow a ys i o j).1.getD p 0 = o.getD p 0 := by
  induction j with
  | zero => rfl
  | succ j ih =>
    show ((mulRow a ys i o j).1.set (i + j) _).getD p 0 = _
    rw [getD_set, if_neg (by omega), ih (by omega)]
theorem mulTo_len (xs ys : List Int) (i : Nat) : (mulTo xs ys i).length = xs.length + ys.length := by
  induction i with
  | zero => simp [mulTo]
  | succ i ih => simp [mulTo, mulRow_len, ih]
theorem mulTo_bd {xs ys : List Int} (hx : ∀ j, isP (xs.getD j 0)) (hy : ∀ j, isP (ys.getD j 0)) (i : Nat) :
    (∀ p, isP ((mulTo xs ys i).getD p 0)) ∧ ∀ p, i + ys.length ≤ p → (mulTo xs ys i).getD p 0 = 0 := by
  induction i with
  | zero =>
    have h : ∀ p, (mulTo xs ys 0).getD p 0 = 0 := fun p => by
      simp only [mulTo, List.getD, List.getElem?_replicate]
      split <;> rfl
    exact ⟨fun p => by rw [h]; unfold isP; omega, fun p _ => h p⟩
  | succ i ih =>
    obtain ⟨h1, h2⟩ := ih
    obtain ⟨h3, h4⟩ := mulRow_bd (i := i) (hx i) hy h1 ys.length
    have h5 : ∀ p, i + ys.length ≤ p → (mulRow (xs.getD i 0) ys i (mulTo xs ys i) ys.length).1.getD p 0 = 0 := fun p hp => by
      rw [mulRow_far _ _ _ _ _ _ hp]; exact h2 p hp
    refine ⟨fun p => ?_, fun p hp => ?_⟩
    · show isP (((mulRow (xs.getD i 0) ys i (mulTo xs ys i) ys.length).1.set (i + ys.length) _).getD p 0)
      rw [getD_set]
      split
      · rw [h5 _ (Nat.le_refl _), Int.zero_add]; exact h4
      · exact h3 p
    · show ((mulRow (xs.getD i 0) ys i (mulTo xs ys i) ys.length).1.set (i + ys.length) _).getD p 0 = 0
      rw [getD_set, if_neg (by omega)]
      exact h5 p (by omega)
theorem prodL_len (xs ys : List Int) : (prodL xs ys).length = xs.length + ys.length := mulTo_len _ _ _
theorem prodL_bd {xs ys : List Int} (hx : ∀ j, isP (xs.getD j 0)) (hy : ∀ j, isP (ys.getD j 0)) : ∀ p, isP ((prodL xs ys).getD p 0) := (mulTo_bd hx hy _).1
theorem piecesL_bd {x : Int} (h0 : 0 ≤ x) (h1 : x < 281474976710656) : ∀ p, isP ((piecesL x).getD p 0) := by
  intro p
  unfold isP piecesL
  match p with
  | 0 => simp; omega
  | 1 => simp; omega
  | 2 => simp; omega
  | p + 3 => simp
end Go.Proofs.YtaokemapkgggoaaGreatDoor
