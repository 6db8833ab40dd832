import Derived.Test.YtaokemapkgggoaaDoorKb01
import Derived.Laws.AppendOwnNone
import Derived.Maps.AppendAt
import Derived.KernelRfl
/-
  Slices that a call makes and appends to, as lists of numbers.
-/
namespace Go.Proofs.YtaokemapkgggoaaDoor
open Go.RowKit

/-- the slice v, whose elements are of type e (numbers of kind k), is a list of the call's own (blocks from base on): xs -/
def Own (w : World) (base : Nat) (k : IntKind) (e : TypeId) (v : Value) (xs : List Int) : Prop := w.ownsRow base e 1 v xs.length (xs.map (Value.int k))

theorem Own.nil (w : World) (base : Nat) (k : IntKind) (e : TypeId) : Own w base k e (.slice none 0 0) [] := World.ownsRow_nil _ _ _ _
theorem Own.open {w : World} {base : Nat} {k : IntKind} {e : TypeId} {v : Value} {xs : List Int} (h : Own w base k e v xs) :
    ∃ ao cap, v = .slice ao xs.length cap ∧ ∀ i, i < xs.length → ∃ g, ao = some ⟨g, 0, none⟩ ∧ base ≤ g ∧ g < w.heap.size ∧ ∀ j, j < xs.length → w.cell? ⟨g, j, none⟩ = some (.int k (xs.getD j 0)) := by
  obtain ⟨_, h2⟩ := h
  rcases h2 with ⟨hv, hn⟩ | ⟨g, cap, cur, hv, hg, hh, hc, hm, hs, ht⟩
  · exact ⟨none, 0, by rw [hv, hn], fun i hi => by omega⟩
  · refine ⟨some ⟨g, 0, none⟩, cap, hv, fun i _ => ⟨g, rfl, hg, (Array.getElem?_eq_some_iff.1 hh).1, fun j hj => ?_⟩⟩
    rw [cell_of_row w g j cur e (0, 0) hh]
    have h1 : (cur.toList.take (xs.length * 1))[j]? = (xs.map (Value.int k))[j]? := by rw [ht]
    rw [List.getElem?_take_of_lt (by omega), Array.getElem?_toList] at h1
    rw [h1]
    simp [hj]
/-- a list that is not empty lies at the head of a block -/
theorem Own.at {w : World} {base : Nat} {k : IntKind} {e : TypeId} {v : Value} {xs : List Int} (h : Own w base k e v xs) (hn : 0 < xs.length) :
    ∃ g cap, v = .slice (some ⟨g, 0, none⟩) xs.length cap ∧ base ≤ g ∧ g < w.heap.size ∧ (∀ j, j < xs.length → w.cell? ⟨g, j, none⟩ = some (.int k (xs.getD j 0))) ∧ ∀ j, w.frozen? ⟨g, j, none⟩ = false := by
  obtain ⟨ao, cap, hv, hc⟩ := h.open
  obtain ⟨g, rfl, hb, hl, hcell⟩ := hc 0 hn
  refine ⟨g, cap, hv, hb, hl, hcell, fun j => ?_⟩
  unfold Own at h
  rw [hv] at h
  exact h.frozenAt j
theorem Own.alloc {w : World} {base : Nat} {k : IntKind} {e : TypeId} {v : Value} {xs : List Int} (h : Own w base k e v xs) (o : Obj) : Own (w.alloc o) base k e v xs := World.ownsRow.alloc h o
theorem Own.drew {w : World} {base : Nat} {k : IntKind} {e : TypeId} {v : Value} {xs : List Int} (h : Own w base k e v xs) : Own w.drew base k e v xs := h
theorem Own.drewN {w : World} {base : Nat} {k : IntKind} {e : TypeId} {v : Value} {xs : List Int} (h : Own w base k e v xs) (n : Nat) : Own (w.drewN n) base k e v xs := h
theorem Own.block {w w' : World} {base : Nat} {k : IntKind} {e : TypeId} {v : Value} {xs : List Int} (h : Own w base k e v xs) (hb : ∀ g, v.ownBlock = some g → w'.heap[g]? = w.heap[g]?) : Own w' base k e v xs := by
  obtain ⟨h1, h2⟩ := h
  refine ⟨h1, ?_⟩
  rcases h2 with h2 | ⟨g, cap, cur, hv, hg, hh, r⟩
  · exact .inl h2
  · exact .inr ⟨g, cap, cur, hv, hg, by rw [hb g (by rw [hv]; rfl)]; exact hh, r⟩
theorem Own.below {B : Nat} {w w' : World} {base : Nat} {k : IntKind} {e : TypeId} {v : Value} {xs : List Int} (h : Own w base k e v xs) (hb : Below B w w') (hB : w.heap.size ≤ B) : Own w' base k e v xs :=
  h.block fun g hg => hb.block g (Nat.lt_of_lt_of_le (World.ownsRow.lt h g hg).2 hB)
theorem Own.mono {w : World} {base base' : Nat} {k : IntKind} {e : TypeId} {v : Value} {xs : List Int} (h : Own w base k e v xs) (hb : base' ≤ base) : Own w base' k e v xs := by
  obtain ⟨h1, h2⟩ := h
  refine ⟨h1, ?_⟩
  rcases h2 with h2 | ⟨g, cap, cur, hv, hg, r⟩
  · exact .inl h2
  · exact .inr ⟨g, cap, cur, hv, Nat.le_trans hb hg, r⟩
theorem Own.lt {w : World} {base : Nat} {k : IntKind} {e : TypeId} {v : Value} {xs : List Int} (h : Own w base k e v xs) : ∀ g, v.ownBlock = some g → base ≤ g ∧ g < w.heap.size := World.ownsRow.lt h

theorem Own.cellAt {w : World} {base : Nat} {k : IntKind} {e : TypeId} {g n c : Nat} {xs : List Int} (h : Own w base k e (.slice (some ⟨g, 0, none⟩) n c) xs) (j : Nat) (hj : j < xs.length) : w.cell? ⟨g, j, none⟩ = some (.int k (xs.getD j 0)) := by
  obtain ⟨ao, cap, hv, hc⟩ := h.open
  obtain ⟨g', hg', _, _, hcell⟩ := hc j hj
  rw [hg'] at hv
  cases hv
  exact hcell j hj

/-- e's elements are numbers of kind k; t is the slice type -/
structure SlT (P : Program) (t e : TypeId) (k : IntKind) (bytes : Nat) : Prop where
  u : P.underlying t = some (.slice e)
  i : (P.info? e).map (fun i => (i.zero, i.size, i.bytes)) = some (some (.int k 0), 1, bytes)
  b : bytes ≤ 8

theorem oneCell_ints (k : IntKind) (ys : List Int) : ∀ u ∈ ys.map (Value.int k), u.oneCell' = true := ints_oneCell k ys

section
variable {P : Program} {ops : Array Oper} {rest : List Oper} {o : Oper} {a : Act} {w : World} {K : Act → World → Prop} {Q : Exit → Act → World → Prop}

theorem wp_app (s x : Operand) (t e : TypeId) (k : IntKind) (bytes : Nat) (ho : o.op = .call { callee := .builtin .append, args := #[s, x], argTypes := #[t, t] }) (ht : SlT P t e k bytes)
    (base : Nat) (v : Value) (xs : List Int) (hs : a.eval s = v) (hown : Own w base k e v xs)
    (g c : Nat) (ys : List Int) (hx : a.eval x = .slice (some ⟨g, 0, none⟩) ys.length c) (hy : ∀ j, j < ys.length → w.cell? ⟨g, j, none⟩ = some (.int k (ys.getD j 0)))
    (hlen : xs.length + ys.length ≤ 1000000) (hbase : base ≤ w.heap.size)
    (h : ∀ v' w', Own w' base k e v' (xs ++ ys) → w.grownBy w' v.ownBlock → (v'.ownBlock = v.ownBlock ∨ v'.ownBlock = some w.heap.size) → K (a.put o.dst v') w') : o.wp P a w K Q := by
  obtain ⟨i, hi, hz, h1, hb⟩ := info_parts ht.i
  have hnews : ∀ j u, (ys.map (Value.int k))[j]? = some u → w.cell? ((⟨g, 0, none⟩ : Addr).add j) = some u := by
    intro j u hj
    have hadd : (⟨g, 0, none⟩ : Addr).add j = ⟨g, j, none⟩ := by unfold Addr.add; split <;> simp_all
    have hjl : j < ys.length := by have := (List.getElem?_eq_some_iff.1 hj).1; simpa using this
    rw [hadd, hy j hjl]
    simp only [List.getElem?_map, List.getElem?_eq_getElem hjl, Option.map_some] at hj
    simpa [List.getD, hjl] using hj
  have hbytes : (xs.length + ys.length) * bytes ≤ 140737488355328 := by
    have := ht.b
    have h2 : (xs.length + ys.length) * bytes ≤ 1000000 * 8 := Nat.mul_le_mul hlen this
    omega
  obtain ⟨v', w', hr, h2, h3, _, h5⟩ := run_append_own_at (P := P) w base t o.type e i (.int k 0) 1 bytes ht.u hi hz h1 hb rfl (by omega) v xs.length (xs.map (Value.int k)) hown ⟨g, 0, none⟩ ys.length c (ys.map (Value.int k)) (by simp) hnews (ints_oneCell k ys) (by unfold maxLen; omega) hbytes hbase
  unfold Oper.wp execOp
  simp only [ho, resolve, invoke, builtin, Sem.run_bind, Sem.run_pure, Result.andThen_ok, List.map_toArray, List.map_cons, List.map_nil, hs, hx, hr]
  refine h v' w' ?_ h3 h5
  unfold Own
  rw [List.length_append, List.map_append]
  exact h2
theorem wpList_app (hgd : o.guard = none) (s x : Operand) (t e : TypeId) (k : IntKind) (bytes : Nat) (ho : o.op = .call { callee := .builtin .append, args := #[s, x], argTypes := #[t, t] }) (ht : SlT P t e k bytes)
    (base : Nat) (v : Value) (xs : List Int) (hs : a.eval s = v) (hown : Own w base k e v xs)
    (g c : Nat) (ys : List Int) (hx : a.eval x = .slice (some ⟨g, 0, none⟩) ys.length c) (hy : ∀ j, j < ys.length → w.cell? ⟨g, j, none⟩ = some (.int k (ys.getD j 0)))
    (hlen : xs.length + ys.length ≤ 1000000) (hbase : base ≤ w.heap.size)
    (h : ∀ v' w', Own w' base k e v' (xs ++ ys) → w.grownBy w' v.ownBlock → (v'.ownBlock = v.ownBlock ∨ v'.ownBlock = some w.heap.size) → wpList P ops Q rest (a.put o.dst v') w') : wpList P ops Q (o :: rest) a w :=
  wpList_plain hgd fun _ hK => wp_app s x t e k bytes ho ht base v xs hs hown g c ys hx hy hlen hbase fun v' w' h2 h3 h4 => hK _ _ (h v' w' h2 h3 h4)

/-- one element appended, which lies in the block that was made last -/
theorem wpList_app1 {W : World} (hgd : o.guard = none) (s x : Operand) (t e : TypeId) (k : IntKind) (bytes : Nat) (ho : o.op = .call { callee := .builtin .append, args := #[s, x], argTypes := #[t, t] }) (ht : SlT P t e k bytes)
    (base : Nat) (v : Value) (xs : List Int) (hs : a.eval s = v) (hown : Own W base k e v xs) (y : Int) (c : Nat) (ty : TypeId) (hx : a.eval x = .slice (some ⟨W.heap.size, 0, none⟩) 1 c)
    (hlen : xs.length + 1 ≤ 1000000) (hbase : base ≤ W.heap.size)
    (h : ∀ v' w', Own w' base k e v' (xs ++ [y]) → W.grownBy w' v.ownBlock → (v'.ownBlock = v.ownBlock ∨ v'.ownBlock = some (W.heap.size + 1)) → wpList P ops Q rest (a.put o.dst v') w') : wpList P ops Q (o :: rest) a (W.alloc (.cells #[.int k y] ty)) :=
  wpList_app hgd s x t e k bytes ho ht base v xs hs (hown.alloc _) W.heap.size c [y] hx
    (fun j hj => by
      have : j = 0 := by simp at hj; omega
      subst this
      rw [World.cell?_alloc_new]; rfl)
    (by simpa using hlen) (by simp; omega) fun v' w' h1 h2 h3 => h v' w' h1 ((World.grownBy_alloc W _ _).trans h2) (by rwa [World.size_alloc] at h3)
end

theorem below_grown {B base : Nat} {w0 w w' : World} {k : IntKind} {e : TypeId} {v : Value} {xs : List Int} (hb : Below B w0 w) (hg : w.grownBy w' v.ownBlock) (ho : Own w base k e v xs) (h1 : B ≤ w.heap.size) (h2 : B ≤ base) : Below B w0 w' :=
  hb.grown hg h1 fun g hg' => Nat.le_trans h2 (ho.lt g hg').1

/-- two slices in different blocks -/
def Sep (v u : Value) : Prop := ∀ g, v.ownBlock = some g → u.ownBlock ≠ some g
theorem Sep.symm {v u : Value} (h : Sep v u) : Sep u v := fun g h1 h2 => h g h2 h1
theorem Sep.nil (u : Value) : Sep (.slice none 0 0) u := fun g h => by cases h
theorem Own.grown {w w' : World} {base : Nat} {k : IntKind} {e : TypeId} {v u : Value} {xs : List Int} (h : Own w base k e u xs) (hg : w.grownBy w' v.ownBlock) (hs : Sep v u) : Own w' base k e u xs :=
  h.block fun g hu => hg.block g (h.lt g hu).2 (fun e => hs g e.symm hu)
theorem Sep.app {w : World} {base : Nat} {k : IntKind} {e : TypeId} {v u v' : Value} {xs : List Int} (hs : Sep v u) (hu : Own w base k e u xs) {m : Nat} (hm : w.heap.size ≤ m) (h : v'.ownBlock = v.ownBlock ∨ v'.ownBlock = some m) : Sep v' u := by
  intro g hg hu'
  rcases h with h | h
  · exact hs g (h ▸ hg) hu'
  · have h1 := (hu.lt g hu').2
    have h2 : m = g := by rw [h] at hg; exact Option.some.inj hg
    omega

theorem slI : SlT Tryd.prog 34 3 .i64 8 := ⟨by kernel_rfl, by kernel_rfl, by omega⟩
theorem slB : SlT Tryd.prog 28 5 .u8 1 := ⟨by kernel_rfl, by kernel_rfl, by omega⟩
end Go.Proofs.YtaokemapkgggoaaDoor

/-
  The document's answer's reckoning of the constants, as plain functions: primes, products in pieces of 2^16, roots by halving.
-/
namespace Go.Proofs.YtaokemapkgggoaaDoor

/-- one round of the inner loop of product -/
def mulStep (a b : Int) (at_ : Nat) (oc : List Int × Int) : List Int × Int :=
  (oc.1.set at_ ((oc.1.getD at_ 0 + a * b + oc.2) % 65536), (oc.1.getD at_ 0 + a * b + oc.2) / 65536)
def mulRow (a : Int) (ys : List Int) (i : Nat) (o : List Int) : Nat → List Int × Int
  | 0 => (o, 0)
  | j + 1 => mulStep a (ys.getD j 0) (i + j) (mulRow a ys i o j)
def mulTo (xs ys : List Int) : Nat → List Int
  | 0 => List.replicate (xs.length + ys.length) 0
  | i + 1 =>
    let r := mulRow (xs.getD i 0) ys i (mulTo xs ys i) ys.length
    r.1.set (i + ys.length) (r.1.getD (i + ys.length) 0 + r.2)
def prodL (xs ys : List Int) : List Int := mulTo xs ys xs.length

def piecesL (x : Int) : List Int := [x % 65536, x / 65536 % 65536, x / 4294967296]

/-- what above finds, of the last k places -/
def abv (xs : List Int) (p : Int) (n : Nat) : Nat → Bool
  | 0 => false
  | k + 1 => if xs.getD k 0 = (if k = n then p else 0) then abv xs p n k else decide ((if k = n then p else 0) < xs.getD k 0)

def over (p : Int) (cube : Bool) (mid : Int) : Bool :=
  if cube then abv (prodL (prodL (piecesL mid) (piecesL mid)) (piecesL mid)) p 6 9 else abv (prodL (piecesL mid) (piecesL mid)) p 4 6

def bisTo (p : Int) (cube : Bool) : Nat → Int × Int
  | 0 => (0, 137438953472)
  | k + 1 => if over p cube (((bisTo p cube k).1 + (bisTo p cube k).2) / 2) then ((bisTo p cube k).1, ((bisTo p cube k).1 + (bisTo p cube k).2) / 2) else (((bisTo p cube k).1 + (bisTo p cube k).2) / 2, (bisTo p cube k).2)
def rootL (p : Int) (cube : Bool) : Int := (bisTo p cube 37).1 % 4294967296


/-- a piece -/
def isP (x : Int) : Prop := 0 ≤ x ∧ x < 65536
theorem getD_set (l : List Int) (i p : Nat) (v : Int) : (l.set i v).getD p 0 = if p = i ∧ i < l.length then v else l.getD p 0 := by
  simp only [List.getD, List.getElem?_set]
  by_cases h : i = p
  · subst h
    by_cases h2 : i < l.length
    · simp [h2]
    · simp [h2]
  · have : ¬ (p = i ∧ i < l.length) := fun hc => h hc.1.symm
    simp [h, this]
theorem mul_bd {a b : Int} (ha : isP a) (hb : isP b) : 0 ≤ a * b ∧ a * b ≤ 4294836225 := by
  unfold isP at *
  have h1 : 0 ≤ a * b := Int.mul_nonneg ha.1 hb.1
  have h2 : a * b ≤ 65535 * 65535 := Int.mul_le_mul (by omega) (by omega) hb.1 (by omega)
  omega
theorem mulRow_len (a : Int) (ys : List Int) (i : Nat) (o : List Int) (j : Nat) : (mulRow a ys i o j).1.length = o.length := by
  induction j with
  | zero => rfl
  | succ j ih => simp [mulRow, mulStep, ih]
theorem mulRow_bd {a : Int} {ys : List Int} {i : Nat} {o : List Int} (ha : isP a) (hy : ∀ j, isP (ys.getD j 0)) (ho : ∀ p, isP (o.getD p 0)) (j : Nat) :
    (∀ p, isP ((mulRow a ys i o j).1.getD p 0)) ∧ isP (mulRow a ys i o j).2 := by
  induction j with
  | zero => exact ⟨ho, by unfold isP mulRow; simp⟩
  | succ j ih =>
    obtain ⟨h1, h2⟩ := ih
    have hm := mul_bd ha (hy j)
    have h3 := h1 (i + j)
    have h3a := h3.1
    have h3b := h3.2
    have h2a := h2.1
    have h2b := h2.2
    refine ⟨fun p => ?_, ?_⟩
    · show isP (((mulRow a ys i o j).1.set (i + j) (((mulRow a ys i o j).1.getD (i + j) 0 + a * ys.getD j 0 + (mulRow a ys i o j).2) % 65536)).getD p 0)
      rw [getD_set]
      split
      · unfold isP; omega
      · exact h1 p
    · show isP (((mulRow a ys i o j).1.getD (i + j) 0 + a * ys.getD j 0 + (mulRow a ys i o j).2) / 65536)
      unfold isP
      omega
theorem mulRow_far (a : Int) (ys : List Int) (i : Nat) (o : List Int) (j p : Nat) (h : i + j ≤ p) : (mulRow a ys i o j).1.getD p 0 = o.getD p 0 := by
  induction j with
  | zero => rfl
  | succ j ih =>
    show ((mulRow a ys i o j).1.set (i + j) _).getD p 0 = _
    rw [getD_set, if_neg (by omega), ih (by omega)]
theorem mulTo_len (xs ys : List Int) (i : Nat) : (mulTo xs ys i).length = xs.length + ys.length := by
  induction i with
  | zero => simp [mulTo]
  | succ i ih => simp [mulTo, mulRow_len, ih]
theorem mulTo_bd {xs ys : List Int} (hx : ∀ j, isP (xs.getD j 0)) (hy : ∀ j, isP (ys.getD j 0)) (i : Nat) :
    (∀ p, isP ((mulTo xs ys i).getD p 0)) ∧ ∀ p, i + ys.length ≤ p → (mulTo xs ys i).getD p 0 = 0 := by
  induction i with
  | zero =>
    have h : ∀ p, (mulTo xs ys 0).getD p 0 = 0 := fun p => by
      simp only [mulTo, List.getD, List.getElem?_replicate]
      split <;> rfl
    exact ⟨fun p => by rw [h]; unfold isP; omega, fun p _ => h p⟩
  | succ i ih =>
    obtain ⟨h1, h2⟩ := ih
    obtain ⟨h3, h4⟩ := mulRow_bd (i := i) (hx i) hy h1 ys.length
    have h5 : ∀ p, i + ys.length ≤ p → (mulRow (xs.getD i 0) ys i (mulTo xs ys i) ys.length).1.getD p 0 = 0 := fun p hp => by
      rw [mulRow_far _ _ _ _ _ _ hp]; exact h2 p hp
    refine ⟨fun p => ?_, fun p hp => ?_⟩
    · show isP (((mulRow (xs.getD i 0) ys i (mulTo xs ys i) ys.length).1.set (i + ys.length) _).getD p 0)
      rw [getD_set]
      split
      · rw [h5 _ (Nat.le_refl _), Int.zero_add]; exact h4
      · exact h3 p
    · show ((mulRow (xs.getD i 0) ys i (mulTo xs ys i) ys.length).1.set (i + ys.length) _).getD p 0 = 0
      rw [getD_set, if_neg (by omega)]
      exact h5 p (by omega)
theorem prodL_len (xs ys : List Int) : (prodL xs ys).length = xs.length + ys.length := mulTo_len _ _ _
theorem prodL_bd {xs ys : List Int} (hx : ∀ j, isP (xs.getD j 0)) (hy : ∀ j, isP (ys.getD j 0)) : ∀ p, isP ((prodL xs ys).getD p 0) := (mulTo_bd hx hy _).1
theorem piecesL_bd {x : Int} (h0 : 0 ≤ x) (h1 : x < 281474976710656) : ∀ p, isP ((piecesL x).getD p 0) := by
  intro p
  unfold isP piecesL
  match p with
  | 0 => simp; omega
  | 1 => simp; omega
  | 2 => simp; omega
  | p + 3 => simp
end Go.Proofs.YtaokemapkgggoaaDoor

namespace Go.Proofs.YtaokemapkgggoaaDoor
open Go.RowKit

def i64s (l : List Int) : List Value := l.map (Value.int .i64)
@[simp] theorem i64s_length (l : List Int) : (i64s l).length = l.length := by simp [i64s]
theorem i64s_get (l : List Int) (i : Nat) (h : i < l.length) : (i64s l)[i]? = some (.int .i64 (l.getD i 0)) := by simp [i64s, h]
theorem i64s_set (l : List Int) (i : Nat) (x : Int) : (i64s l).set i (.int .i64 x) = i64s (l.set i x) := by simp [i64s, List.map_set]

/-- the numbers xs lie in block g from its head on -/
def At (w : World) (g : Nat) (xs : List Int) : Prop := ∀ j, j < xs.length → w.cell? ⟨g, j, none⟩ = some (.int .i64 (xs.getD j 0))
theorem At.below {B : Nat} {w w' : World} {g : Nat} {xs : List Int} (h : At w g xs) (hb : Below B w w') (hg : g < B) : At w' g xs := fun j hj => (hb.cell (p := ⟨g, j, none⟩) hg).trans (h j hj)
theorem Row.toAt {w : World} {g : Nat} {xs : List Int} {t : TypeId} (h : Row w g (i64s xs) t) : At w g xs := fun j hj => by rw [h.cell, i64s_get _ _ hj]
theorem At.drew {w : World} {g : Nat} {xs : List Int} (h : At w g xs) : At w.drew g xs := h

theorem row_of_own {w' : World} {base g : Nat} {e : TypeId} {n : Nat} (h : w'.ownsRow base e 1 (.slice (some ⟨g, 0, none⟩) n n) n (madeCells (Value.int .i64 0).cells (n * 1)).toList) : Row w' g (i64s (List.replicate n 0)) e := by
  obtain ⟨_, h2⟩ := h
  rcases h2 with ⟨hv, _⟩ | ⟨g', cap, cur, hv, hg, hh, hc, hm, hs, ht⟩
  · cases hv
  · cases hv
    have hl : cur.toList.length = n := by rw [Array.length_toList, hs]; omega
    rw [List.take_of_length_le (by omega)] at ht
    have hz : (madeCells (Value.int .i64 0).cells (n * 1)).toList = List.replicate n (.int .i64 0) := by
      rw [Nat.mul_one]; exact toList_madeCells_one _ _
    unfold Row
    rw [hh, show i64s (List.replicate n 0) = cur.toList by rw [ht, hz]; simp [i64s]]

end Go.Proofs.YtaokemapkgggoaaDoor

namespace Go.Proofs.YtaokemapkgggoaaDoor
open Go.RowKit

theorem ret_bool {a b : Bool} (h : a = b) : Ending.returned (.bool a) = .returned (.bool b) := by rw [h]

theorem bisTo_inv (p : Int) (cube : Bool) (k : Nat) (hk : k ≤ 37) : 0 ≤ (bisTo p cube k).1 ∧ (bisTo p cube k).2 = (bisTo p cube k).1 + 2 ^ (37 - k) ∧ (bisTo p cube k).2 ≤ 137438953472 := by
  induction k with
  | zero => simp [bisTo]
  | succ k ih =>
    obtain ⟨h1, h2, h3⟩ := ih (by omega)
    have he : (2 : Int) ^ (37 - k) = 2 * 2 ^ (37 - (k + 1)) := by rw [show 37 - k = (37 - (k + 1)) + 1 by omega, Int.pow_succ, Int.mul_comm]
    have hp : (0 : Int) < 2 ^ (37 - (k + 1)) := Int.pow_pos (by omega)
    rw [he] at h2
    unfold bisTo
    generalize (2 : Int) ^ (37 - (k + 1)) = q at *
    split <;> (simp only []; omega)

theorem over_true (p mid : Int) : over p true mid = abv (prodL (prodL (piecesL mid) (piecesL mid)) (piecesL mid)) p 6 9 := by unfold over; rw [if_pos rfl]
theorem over_false (p mid : Int) : over p false mid = abv (prodL (piecesL mid) (piecesL mid)) p 4 6 := by unfold over; rw [if_neg (by decide)]
end Go.Proofs.YtaokemapkgggoaaDoor

namespace Go.Proofs.YtaokemapkgggoaaDoor
open Go.RowKit

/-- no number of the list divides p -/
def noDiv (p : Int) (l : List Int) : Bool := l.all fun q => p % q != 0
/-- the primes among the k numbers from 2 on -/
def prTo : Nat → List Int
  | 0 => []
  | k + 1 => if noDiv ((k : Int) + 2) (prTo k) then prTo k ++ [(k : Int) + 2] else prTo k
theorem prTo_bd (k : Nat) : ∀ q ∈ prTo k, 2 ≤ q ∧ q ≤ (k : Int) + 1 := by
  induction k with
  | zero => intro q hq; cases hq
  | succ k ih =>
    intro q hq
    unfold prTo at hq
    split at hq
    · rcases List.mem_append.1 hq with h | h
      · have := ih q h; omega
      · simp only [List.mem_singleton] at h; omega
    · have := ih q hq; omega
theorem prTo_len (k : Nat) : (prTo k).length ≤ (prTo (k + 1)).length := by
  show _ ≤ (if noDiv ((k : Int) + 2) (prTo k) then prTo k ++ [(k : Int) + 2] else prTo k).length
  split <;> simp
theorem prTo_mono {j k : Nat} (h : j ≤ k) : (prTo j).length ≤ (prTo k).length := by
  induction k with
  | zero => have : j = 0 := by omega
            subst this; exact Nat.le_refl _
  | succ k ih =>
    rcases Nat.lt_or_ge j (k + 1) with h1 | h1
    · exact Nat.le_trans (ih (by omega)) (prTo_len k)
    · have : j = k + 1 := by omega
      subst this; exact Nat.le_refl _
def P64 : List Int := [2, 3, 5, 7, 11, 13, 17, 19, 23, 29, 31, 37, 41, 43, 47, 53, 59, 61, 67, 71, 73, 79, 83, 89, 97, 101, 103, 107, 109, 113, 127, 131, 137, 139, 149, 151, 157, 163, 167, 173, 179, 181, 191, 193, 197, 199, 211, 223, 227, 229, 233, 239, 241, 251, 257, 263, 269, 271, 277, 281, 283, 293, 307, 311]
theorem prTo_310 : prTo 310 = P64 := by decide +kernel
theorem prTo_309 : (prTo 309).length = 63 := by decide +kernel
theorem noDiv_snoc (p : Int) (l : List Int) (i : Nat) (h : i < l.length) : noDiv p (l.take (i + 1)) = (noDiv p (l.take i) && (p % l.getD i 0 != 0)) := by
  rw [List.take_succ_eq_append_getElem h]
  unfold noDiv
  rw [List.all_append, show l.getD i 0 = l[i] by simp [List.getD, h]]
  simp only [List.all_cons, List.all_nil, Bool.and_true]

end Go.Proofs.YtaokemapkgggoaaDoor

namespace Go.Proofs.YtaokemapkgggoaaDoor
open Go.RowKit

theorem map_snoc (f : Int → Int) (l : List Int) (i : Nat) (h : i < l.length) : (l.take (i + 1)).map f = (l.take i).map f ++ [f (l.getD i 0)] := by
  rw [List.take_succ_eq_append_getElem h, List.map_append, show l.getD i 0 = l[i] by simp [List.getD, h]]
  rfl
theorem P64_len : P64.length = 64 := rfl

end Go.Proofs.YtaokemapkgggoaaDoor

namespace Go.Proofs.YtaokemapkgggoaaDoor
open Go.RowKit

theorem u64_neg_and31 (n : Nat) (h1 : 1 ≤ n) (h2 : n ≤ 31) : bits .and .u64 (IntKind.u64.wrap (-(n : Int))) 31 = 32 - (n : Int) := by
  have e : IntKind.u64.wrap (-(n : Int)) = 18446744073709551616 - (n : Int) := by
    simp only [IntKind.wrap, IntKind.bits, IntKind.signed]; simp; omega
  rw [e]
  obtain ⟨a, ha⟩ := Int.eq_ofNat_of_zero_le (show (0 : Int) ≤ 18446744073709551616 - (n : Int) by omega)
  rw [ha]
  have := u64_and_nat a 31 (by omega) (by omega)
  rw [show ((31 : Nat) : Int) = 31 from rfl] at this
  rw [this, nat_mask5]
  omega

theorem rotl_bits (x : Int) (n : Nat) (hx0 : 0 ≤ x) (hx1 : x < 4294967296) (h0 : 1 ≤ n) (h1 : n ≤ 31) :
    bits .or .u32 (x * 2 ^ (32 - n) % 4294967296) (x / 2 ^ (32 - (32 - n))) = rr n x := by
  rw [show 32 - (32 - n) = n by omega]
  obtain ⟨m, hm⟩ : ∃ m, m = 32 - n := ⟨_, rfl⟩
  have hpn : (2 : Nat) ^ n * 2 ^ m = 4294967296 := by rw [← Nat.pow_add, show n + m = 32 by omega]
  obtain ⟨y, rfl⟩ := Int.eq_ofNat_of_zero_le hx0
  have hy : y < 4294967296 := by omega
  unfold rr
  rw [← hm]
  have hq : (4294967296 : Int) / 2 ^ n = ((2 ^ m : Nat) : Int) := by
    have : ((2 : Int) ^ n) * ((2 ^ m : Nat) : Int) = 4294967296 := by
      have := congrArg (fun z : Nat => (z : Int)) hpn
      simpa using this
    rw [← this]; exact Int.mul_ediv_cancel_left _ (by have := (pow_bd n h1).1; omega)
  rw [hq]
  have e1 : ((y : Int) * 2 ^ m % 4294967296) = ((y % 2 ^ n * 2 ^ m : Nat) : Int) := by
    have : y * 2 ^ m % 4294967296 = y % 2 ^ n * 2 ^ m := by rw [← hpn, Nat.mul_mod_mul_right]
    rw [← this]; simp
  have e2 : ((y : Int) / 2 ^ n) = ((y / 2 ^ n : Nat) : Int) := by simp
  have e3 : ((y : Int) % 2 ^ n) = ((y % 2 ^ n : Nat) : Int) := by simp
  rw [e1, e2, e3]
  have b1 : y % 2 ^ n * 2 ^ m < 4294967296 := by
    rw [← hpn]; exact Nat.mul_lt_mul_of_pos_right (Nat.mod_lt _ (Nat.pow_pos (by omega))) (Nat.pow_pos (by omega))
  have b2 : y / 2 ^ n < 2 ^ m := by
    apply Nat.div_lt_of_lt_mul; rw [hpn]; exact hy
  have b3 : y / 2 ^ n ≤ y := Nat.div_le_self _ _
  rw [u32_or_nat _ _ b1 (by omega), nat_join m _ _ (Nat.mul_mod_left _ _) b2]
  simp
  omega

set_option maxHeartbeats 400000 in
theorem rotl (x : Int) (n : Nat) (w : World) (hx0 : 0 ≤ x) (hx1 : x < 4294967296) (h0 : 1 ≤ n) (h1 : n ≤ 31) :
    Calls Tryd.prog 78 #[.int .u32 x, .int .i64 (-(n : Int))] w fun e w' => e = .returned (.int .u32 (rr n x)) ∧ w' = w := by
  have hs := u64_neg_and31 n h0 h1
  have HR : Hid _ := rotl_bits x n hx0 hx1 h0 h1
  go_enter Tryd.func78, Tryd.ntmps78
  go_wp2
  go_ret
  exact ⟨ret_int HR.out, rfl⟩

set_option maxHeartbeats 400000 in
theorem prog_right (x n : Int) (w : World) (hx : isW x) (h0 : 1 ≤ n) (h1 : n ≤ 31) :
    Calls Tryd.prog 72 #[.int .u32 x, .int .i64 n] w fun e w' => e = .returned (.int .u32 (rr n.toNat x)) ∧ w' = w := by
  obtain ⟨m, rfl⟩ := Int.eq_ofNat_of_zero_le (show 0 ≤ n by omega)
  rw [Int.toNat_natCast]
  go_enter Tryd.func72, Tryd.ntmps72
  go_wp2_with (go_at_call 78; refine (rotl x m _ hx.1 hx.2 (by omega) (by omega)).mono ?_; rintro e w' ⟨rfl, rfl⟩)
  go_ret
  exact ⟨rfl, rfl⟩

theorem or4 (a b c d : Int) (ha : 0 ≤ a ∧ a < 256) (hb : 0 ≤ b ∧ b < 256) (hc : 0 ≤ c ∧ c < 256) (hd : 0 ≤ d ∧ d < 256) :
    bits .or .u32 (bits .or .u32 (bits .or .u32 (a * 16777216) (b * 65536)) (c * 256)) d = word4 a b c d := by
  obtain ⟨a, rfl⟩ := Int.eq_ofNat_of_zero_le ha.1
  obtain ⟨b, rfl⟩ := Int.eq_ofNat_of_zero_le hb.1
  obtain ⟨c, rfl⟩ := Int.eq_ofNat_of_zero_le hc.1
  obtain ⟨d, rfl⟩ := Int.eq_ofNat_of_zero_le hd.1
  rw [show ((a : Int) * 16777216) = ((a * 16777216 : Nat) : Int) by simp, show ((b : Int) * 65536) = ((b * 65536 : Nat) : Int) by simp, show ((c : Int) * 256) = ((c * 256 : Nat) : Int) by simp]
  rw [u32_or_nat _ _ (by omega) (by omega), nat_join 24 _ _ (by omega) (by omega), u32_or_nat _ _ (by omega) (by omega), nat_join 16 _ _ (by omega) (by omega), u32_or_nat _ _ (by omega) (by omega), nat_join 8 _ _ (by omega) (by omega)]
  unfold word4; omega

set_option maxHeartbeats 400000 in
theorem prog_word (a b c d : Int) (w : World) (ha : 0 ≤ a ∧ a < 256) (hb : 0 ≤ b ∧ b < 256) (hc : 0 ≤ c ∧ c < 256) (hd : 0 ≤ d ∧ d < 256) :
    Calls Tryd.prog 49 #[.int .u8 a, .int .u8 b, .int .u8 c, .int .u8 d] w fun e w' => e = .returned (.int .u32 (word4 a b c d)) ∧ w' = w := by
  have H : Hid _ := or4 a b c d ha hb hc hd
  obtain ⟨ha0, ha1⟩ := ha
  obtain ⟨hb0, hb1⟩ := hb
  obtain ⟨hc0, hc1⟩ := hc
  obtain ⟨hd0, hd1⟩ := hd
  go_enter Tryd.func49, Tryd.ntmps49
  go_wp2
  go_ret
  exact ⟨ret_int H.out, rfl⟩

end Go.Proofs.YtaokemapkgggoaaDoor
