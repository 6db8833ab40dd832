import Derived.Test.YtaokemapkgggoaaDoorGd01
import Derived.Laws.AppendOwnNone
import Derived.Maps.AppendAt
import Derived.KernelRfl
/-
  Slices that a call makes and appends to, as lists of numbers.
-/
namespace Go.Proofs.YtaokemapkgggoaaDoor
open Go.RowKit

/-- the slice v, whose elements are of type e (numbers of kind k), is a list of the call's own (blocks from base on): xs -/
def Own (w : World) (base : Nat) (k : IntKind) (e : TypeId) (v : Value) (xs : List Int) : Prop := w.ownsRow base e 1 v xs.length (xs.map (Value.int k))

theorem Own.nil (w : World) (base : Nat) (k : IntKind) (e : TypeId) : Own w base k e (.slice none 0 0) [] := World.ownsRow_nil _ _ _ _
theorem Own.open {w : World} {base : Nat} {k : IntKind} {e : TypeId} {v : Value} {xs : List Int} (h : Own w base k e v xs) :
    ∃ ao cap, v = .slice ao xs.length cap ∧ ∀ i, i < xs.length → ∃ g, ao = some ⟨g, 0, none⟩ ∧ base ≤ g ∧ g < w.heap.size ∧ ∀ j, j < xs.length → w.cell? ⟨g, j, none⟩ = some (.int k (xs.getD j 0)) := by
  obtain ⟨_, h2⟩ := h
  rcases h2 with ⟨hv, hn⟩ | ⟨g, cap, cur, hv, hg, hh, hc, hm, hs, ht⟩
  · exact ⟨none, 0, by rw [hv, hn], fun i hi => by omega⟩
  · refine ⟨some ⟨g, 0, none⟩, cap, hv, fun i _ => ⟨g, rfl, hg, (Array.getElem?_eq_some_iff.1 hh).1, fun j hj => ?_⟩⟩
    rw [cell_of_row w g j cur e (0, 0) hh]
    have h1 : (cur.toList.take (xs.length * 1))[j]? = (xs.map (Value.int k))[j]? := by rw [ht]
    rw [List.getElem?_take_of_lt (by omega), Array.getElem?_toList] at h1
    rw [h1]
    simp [hj]
/-- a list that is not empty lies at the head of a block -/
theorem Own.at {w : World} {base : Nat} {k : IntKind} {e : TypeId} {v : Value} {xs : List Int} (h : Own w base k e v xs) (hn : 0 < xs.length) :
    ∃ g cap, v = .slice (some ⟨g, 0, none⟩) xs.length cap ∧ base ≤ g ∧ g < w.heap.size ∧ (∀ j, j < xs.length → w.cell? ⟨g, j, none⟩ = some (.int k (xs.getD j 0))) ∧ ∀ j, w.frozen? ⟨g, j, none⟩ = false := by
  obtain ⟨ao, cap, hv, hc⟩ := h.open
  obtain ⟨g, rfl, hb, hl, hcell⟩ := hc 0 hn
  refine ⟨g, cap, hv, hb, hl, hcell, fun j => ?_⟩
  unfold Own at h
  rw [hv] at h
  exact h.frozenAt j
theorem Own.alloc {w : World} {base : Nat} {k : IntKind} {e : TypeId} {v : Value} {xs : List Int} (h : Own w base k e v xs) (o : Obj) : Own (w.alloc o) base k e v xs := World.ownsRow.alloc h o
theorem Own.drew {w : World} {base : Nat} {k : IntKind} {e : TypeId} {v : Value} {xs : List Int} (h : Own w base k e v xs) : Own w.drew base k e v xs := h
theorem Own.drewN {w : World} {base : Nat} {k : IntKind} {e : TypeId} {v : Value} {xs : List Int} (h : Own w base k e v xs) (n : Nat) : Own (w.drewN n) base k e v xs := h
theorem Own.block {w w' : World} {base : Nat} {k : IntKind} {e : TypeId} {v : Value} {xs : List Int} (h : Own w base k e v xs) (hb : ∀ g, v.ownBlock = some g → w'.heap[g]? = w.heap[g]?) : Own w' base k e v xs := by
  obtain ⟨h1, h2⟩ := h
  refine ⟨h1, ?_⟩
  rcases h2 with h2 | ⟨g, cap, cur, hv, hg, hh, r⟩
  · exact .inl h2
  · exact .inr ⟨g, cap, cur, hv, hg, by rw [hb g (by rw [hv]; rfl)]; exact hh, r⟩
theorem Own.below {B : Nat} {w w' : World} {base : Nat} {k : IntKind} {e : TypeId} {v : Value} {xs : List Int} (h : Own w base k e v xs) (hb : Below B w w') (hB : w.heap.size ≤ B) : Own w' base k e v xs :=
  h.block fun g hg => hb.block g (Nat.lt_of_lt_of_le (World.ownsRow.lt h g hg).2 hB)
theorem Own.mono {w : World} {base base' : Nat} {k : IntKind} {e : TypeId} {v : Value} {xs : List Int} (h : Own w base k e v xs) (hb : base' ≤ base) : Own w base' k e v xs := by
  obtain ⟨h1, h2⟩ := h
  refine ⟨h1, ?_⟩
  rcases h2 with h2 | ⟨g, cap, cur, hv, hg, r⟩
  · exact .inl h2
  · exact .inr ⟨g, cap, cur, hv, Nat.le_trans hb hg, r⟩
theorem Own.lt {w : World} {base : Nat} {k : IntKind} {e : TypeId} {v : Value} {xs : List Int} (h : Own w base k e v xs) : ∀ g, v.ownBlock = some g → base ≤ g ∧ g < w.heap.size := World.ownsRow.lt h

/-- e's elements are numbers of kind k; t is the slice type -/
structure SlT (P : Program) (t e : TypeId) (k : IntKind) (bytes : Nat) : Prop where
  u : P.underlying t = some (.slice e)
  i : (P.info? e).map (fun i => (i.zero, i.size, i.bytes)) = some (some (.int k 0), 1, bytes)
  b : bytes ≤ 8

section
variable {P : Program} {ops : Array Oper} {rest : List Oper} {o : Oper} {a : Act} {w : World} {K : Act → World → Prop} {Q : Exit → Act → World → Prop}

theorem wp_app (s x : Operand) (t e : TypeId) (k : IntKind) (bytes : Nat) (ho : o.op = .call { callee := .builtin .append, args := #[s, x], argTypes := #[t, t] }) (ht : SlT P t e k bytes)
    (base : Nat) (v : Value) (xs : List Int) (hs : a.eval s = v) (hown : Own w base k e v xs)
    (g c : Nat) (ys : List Int) (hx : a.eval x = .slice (some ⟨g, 0, none⟩) ys.length c) (hy : ∀ j, j < ys.length → w.cell? ⟨g, j, none⟩ = some (.int k (ys.getD j 0)))
    (hlen : xs.length + ys.length ≤ 1000000) (hbase : base ≤ w.heap.size)
    (h : ∀ v' w', Own w' base k e v' (xs ++ ys) → w.grownBy w' v.ownBlock → (v'.ownBlock = v.ownBlock ∨ v'.ownBlock = some w.heap.size) → K (a.put o.dst v') w') : o.wp P a w K Q := by
  obtain ⟨i, hi, hz, h1, hb⟩ := info_parts ht.i
  have hnews : ∀ j u, (ys.map (Value.int k))[j]? = some u → w.cell? ((⟨g, 0, none⟩ : Addr).add j) = some u := by
    intro j u hj
    have hadd : (⟨g, 0, none⟩ : Addr).add j = ⟨g, j, none⟩ := by unfold Addr.add; split <;> simp_all
    have hjl : j < ys.length := by have := (List.getElem?_eq_some_iff.1 hj).1; simpa using this
    rw [hadd, hy j hjl]
    simp only [List.getElem?_map, List.getElem?_eq_getElem hjl, Option.map_some] at hj
    simpa [List.getD, hjl] using hj
  have hbytes : (xs.length + ys.length) * bytes ≤ 140737488355328 := by
    have := ht.b
    have h2 : (xs.length + ys.length) * bytes ≤ 1000000 * 8 := Nat.mul_le_mul hlen this
    omega
  obtain ⟨v', w', hr, h2, h3, _, h5⟩ := run_append_own_at (P := P) w base t o.type e i (.int k 0) 1 bytes ht.u hi hz h1 hb rfl (by omega) v xs.length (xs.map (Value.int k)) hown ⟨g, 0, none⟩ ys.length c (ys.map (Value.int k)) (by simp) hnews (ints_oneCell k ys) (by unfold maxLen; omega) hbytes hbase
  unfold Oper.wp execOp
  simp only [ho, resolve, invoke, builtin, Sem.run_bind, Sem.run_pure, Result.andThen_ok, List.map_toArray, List.map_cons, List.map_nil, hs, hx, hr]
  refine h v' w' ?_ h3 h5
  unfold Own
  rw [List.length_append, List.map_append]
  exact h2
theorem wpList_app (hgd : o.guard = none) (s x : Operand) (t e : TypeId) (k : IntKind) (bytes : Nat) (ho : o.op = .call { callee := .builtin .append, args := #[s, x], argTypes := #[t, t] }) (ht : SlT P t e k bytes)
    (base : Nat) (v : Value) (xs : List Int) (hs : a.eval s = v) (hown : Own w base k e v xs)
    (g c : Nat) (ys : List Int) (hx : a.eval x = .slice (some ⟨g, 0, none⟩) ys.length c) (hy : ∀ j, j < ys.length → w.cell? ⟨g, j, none⟩ = some (.int k (ys.getD j 0)))
    (hlen : xs.length + ys.length ≤ 1000000) (hbase : base ≤ w.heap.size)
    (h : ∀ v' w', Own w' base k e v' (xs ++ ys) → w.grownBy w' v.ownBlock → (v'.ownBlock = v.ownBlock ∨ v'.ownBlock = some w.heap.size) → wpList P ops Q rest (a.put o.dst v') w') : wpList P ops Q (o :: rest) a w :=
  wpList_plain hgd fun _ hK => wp_app s x t e k bytes ho ht base v xs hs hown g c ys hx hy hlen hbase fun v' w' h2 h3 h4 => hK _ _ (h v' w' h2 h3 h4)

/-- one element appended, which lies in the block that was made last -/
theorem wpList_app1 {W : World} (hgd : o.guard = none) (s x : Operand) (t e : TypeId) (k : IntKind) (bytes : Nat) (ho : o.op = .call { callee := .builtin .append, args := #[s, x], argTypes := #[t, t] }) (ht : SlT P t e k bytes)
    (base : Nat) (v : Value) (xs : List Int) (hs : a.eval s = v) (hown : Own W base k e v xs) (y : Int) (c : Nat) (ty : TypeId) (hx : a.eval x = .slice (some ⟨W.heap.size, 0, none⟩) 1 c)
    (hlen : xs.length + 1 ≤ 1000000) (hbase : base ≤ W.heap.size)
    (h : ∀ v' w', Own w' base k e v' (xs ++ [y]) → W.grownBy w' v.ownBlock → (v'.ownBlock = v.ownBlock ∨ v'.ownBlock = some (W.heap.size + 1)) → wpList P ops Q rest (a.put o.dst v') w') : wpList P ops Q (o :: rest) a (W.alloc (.cells #[.int k y] ty)) :=
  wpList_app hgd s x t e k bytes ho ht base v xs hs (hown.alloc _) W.heap.size c [y] hx
    (fun j hj => by
      have : j = 0 := by simp at hj; omega
      subst this
      rw [World.cell?_alloc_new]; rfl)
    (by simpa using hlen) (by simp; omega) fun v' w' h1 h2 h3 => h v' w' h1 ((World.grownBy_alloc W _ _).trans h2) (by rwa [World.size_alloc] at h3)
end

theorem below_grown {B base : Nat} {w0 w w' : World} {k : IntKind} {e : TypeId} {v : Value} {xs : List Int} (hb : Below B w0 w) (hg : w.grownBy w' v.ownBlock) (ho : Own w base k e v xs) (h1 : B ≤ w.heap.size) (h2 : B ≤ base) : Below B w0 w' :=
  hb.grown hg h1 fun g hg' => Nat.le_trans h2 (ho.lt g hg').1

/-- two slices in different blocks -/
def Sep (v u : Value) : Prop := ∀ g, v.ownBlock = some g → u.ownBlock ≠ some g
theorem Sep.symm {v u : Value} (h : Sep v u) : Sep u v := fun g h1 h2 => h g h2 h1
theorem Sep.nil (u : Value) : Sep (.slice none 0 0) u := fun g h => by cases h
theorem Own.grown {w w' : World} {base : Nat} {k : IntKind} {e : TypeId} {v u : Value} {xs : List Int} (h : Own w base k e u xs) (hg : w.grownBy w' v.ownBlock) (hs : Sep v u) : Own w' base k e u xs :=
  h.block fun g hu => hg.block g (h.lt g hu).2 (fun e => hs g e.symm hu)
theorem slB : SlT Tryd.prog 28 5 .u8 1 := ⟨by kernel_rfl, by kernel_rfl, by omega⟩
end Go.Proofs.YtaokemapkgggoaaDoor

/-
  The document's answer's reckoning of the constants, as plain functions: primes, products in pieces of 2^16, roots by halving.
-/
namespace Go.Proofs.YtaokemapkgggoaaDoor

/-- one round of the inner loop of product -/
def mulStep (a b : Int) (at_ : Nat) (oc : List Int × Int) : List Int × Int :=
  (oc.1.set at_ ((oc.1.getD at_ 0 + a * b + oc.2) % 65536), (oc.1.getD at_ 0 + a * b + oc.2) / 65536)
def mulRow (a : Int) (ys : List Int) (i : Nat) (o : List Int) : Nat → List Int × Int
  | 0 => (o, 0)
  | j + 1 => mulStep a (ys.getD j 0) (i + j) (mulRow a ys i o j)
def mulTo (xs ys : List Int) : Nat → List Int
  | 0 => List.replicate (xs.length + ys.length) 0
  | i + 1 =>
    let r := mulRow (xs.getD i 0) ys i (mulTo xs ys i) ys.length
    r.1.set (i + ys.length) (r.1.getD (i + ys.length) 0 + r.2)
def prodL (xs ys : List Int) : List Int := mulTo xs ys xs.length

def piecesL (x : Int) : List Int := [x % 65536, x / 65536 % 65536, x / 4294967296]

/-- what above finds, of the last k places -/
def abv (xs : List Int) (p : Int) (n : Nat) : Nat → Bool
  | 0 => false
  | k + 1 => if xs.getD k 0 = (if k = n then p else 0) then abv xs p n k else decide ((if k = n then p else 0) < xs.getD k 0)

def over (p : Int) (cube : Bool) (mid : Int) : Bool :=
  if cube then abv (prodL (prodL (piecesL mid) (piecesL mid)) (piecesL mid)) p 6 9 else abv (prodL (piecesL mid) (piecesL mid)) p 4 6

end Go.Proofs.YtaokemapkgggoaaDoor

namespace Go.Proofs.YtaokemapkgggoaaDoor
open Go.RowKit

/-- the numbers xs lie in block g from its head on -/
def At (w : World) (g : Nat) (xs : List Int) : Prop := ∀ j, j < xs.length → w.cell? ⟨g, j, none⟩ = some (.int .i64 (xs.getD j 0))
theorem At.below {B : Nat} {w w' : World} {g : Nat} {xs : List Int} (h : At w g xs) (hb : Below B w w') (hg : g < B) : At w' g xs := fun j hj => (hb.cell (p := ⟨g, j, none⟩) hg).trans (h j hj)
theorem At.drew {w : World} {g : Nat} {xs : List Int} (h : At w g xs) : At w.drew g xs := h

end Go.Proofs.YtaokemapkgggoaaDoor

namespace Go.Proofs.YtaokemapkgggoaaDoor
open Go.RowKit

theorem ret_bool {a b : Bool} (h : a = b) : Ending.returned (.bool a) = .returned (.bool b) := by rw [h]

end Go.Proofs.YtaokemapkgggoaaDoor

namespace Go.Proofs.YtaokemapkgggoaaDoor
open Go.RowKit

end Go.Proofs.YtaokemapkgggoaaDoor

namespace Go.Proofs.YtaokemapkgggoaaDoor
open Go.RowKit

end Go.Proofs.YtaokemapkgggoaaDoor

namespace Go.Proofs.YtaokemapkgggoaaDoor
open Go.RowKit

theorem u64_neg_and31 (n : Nat) (h1 : 1 ≤ n) (h2 : n ≤ 31) : bits .and .u64 (IntKind.u64.wrap (-(n : Int))) 31 = 32 - (n : Int) := by
  have e : IntKind.u64.wrap (-(n : Int)) = 18446744073709551616 - (n : Int) := by
    simp only [IntKind.wrap, IntKind.bits, IntKind.signed]; simp; omega
  rw [e]
  obtain ⟨a, ha⟩ := Int.eq_ofNat_of_zero_le (show (0 : Int) ≤ 18446744073709551616 - (n : Int) by omega)
  rw [ha]
  have := u64_and_nat a 31 (by omega) (by omega)
  rw [show ((31 : Nat) : Int) = 31 from rfl] at this
  rw [this, nat_mask5]
  omega

theorem rotl_bits (x : Int) (n : Nat) (hx0 : 0 ≤ x) (hx1 : x < 4294967296) (h0 : 1 ≤ n) (h1 : n ≤ 31) :
    bits .or .u32 (x * 2 ^ (32 - n) % 4294967296) (x / 2 ^ (32 - (32 - n))) = rr n x := by
  rw [show 32 - (32 - n) = n by omega]
  obtain ⟨m, hm⟩ : ∃ m, m = 32 - n := ⟨_, rfl⟩
  have hpn : (2 : Nat) ^ n * 2 ^ m = 4294967296 := by rw [← Nat.pow_add, show n + m = 32 by omega]
  obtain ⟨y, rfl⟩ := Int.eq_ofNat_of_zero_le hx0
  have hy : y < 4294967296 := by omega
  unfold rr
  rw [← hm]
  have hq : (4294967296 : Int) / 2 ^ n = ((2 ^ m : Nat) : Int) := by
    have : ((2 : Int) ^ n) * ((2 ^ m : Nat) : Int) = 4294967296 := by
      have := congrArg (fun z : Nat => (z : Int)) hpn
      simpa using this
    rw [← this]; exact Int.mul_ediv_cancel_left _ (by have := (pow_bd n h1).1; omega)
  rw [hq]
  have e1 : ((y : Int) * 2 ^ m % 4294967296) = ((y % 2 ^ n * 2 ^ m : Nat) : Int) := by
    have : y * 2 ^ m % 4294967296 = y % 2 ^ n * 2 ^ m := by rw [← hpn, Nat.mul_mod_mul_right]
    rw [← this]; simp
  have e2 : ((y : Int) / 2 ^ n) = ((y / 2 ^ n : Nat) : Int) := by simp
  have e3 : ((y : Int) % 2 ^ n) = ((y % 2 ^ n : Nat) : Int) := by simp
  rw [e1, e2, e3]
  have b1 : y % 2 ^ n * 2 ^ m < 4294967296 := by
    rw [← hpn]; exact Nat.mul_lt_mul_of_pos_right (Nat.mod_lt _ (Nat.pow_pos (by omega))) (Nat.pow_pos (by omega))
  have b2 : y / 2 ^ n < 2 ^ m := by
    apply Nat.div_lt_of_lt_mul; rw [hpn]; exact hy
  have b3 : y / 2 ^ n ≤ y := Nat.div_le_self _ _
  rw [u32_or_nat _ _ b1 (by omega), nat_join m _ _ (Nat.mul_mod_left _ _) b2]
  simp
  omega

set_option maxHeartbeats 400000 in
theorem rotl (x : Int) (n : Nat) (w : World) (hx0 : 0 ≤ x) (hx1 : x < 4294967296) (h0 : 1 ≤ n) (h1 : n ≤ 31) :
    Calls Tryd.prog 78 #[.int .u32 x, .int .i64 (-(n : Int))] w fun e w' => e = .returned (.int .u32 (rr n x)) ∧ w' = w := by
  have hs := u64_neg_and31 n h0 h1
  have HR : Hid _ := rotl_bits x n hx0 hx1 h0 h1
  go_enter Tryd.func78, Tryd.ntmps78
  go_wp2
  go_ret
  exact ⟨ret_int HR.out, rfl⟩

set_option maxHeartbeats 400000 in
theorem prog_right (x n : Int) (w : World) (hx : isW x) (h0 : 1 ≤ n) (h1 : n ≤ 31) :
    Calls Tryd.prog 72 #[.int .u32 x, .int .i64 n] w fun e w' => e = .returned (.int .u32 (rr n.toNat x)) ∧ w' = w := by
  obtain ⟨m, rfl⟩ := Int.eq_ofNat_of_zero_le (show 0 ≤ n by omega)
  rw [Int.toNat_natCast]
  go_enter Tryd.func72, Tryd.ntmps72
  go_wp2_with (go_at_call 78; refine (rotl x m _ hx.1 hx.2 (by omega) (by omega)).mono ?_; rintro e w' ⟨rfl, rfl⟩)
  go_ret
  exact ⟨rfl, rfl⟩

theorem or4 (a b c d : Int) (ha : 0 ≤ a ∧ a < 256) (hb : 0 ≤ b ∧ b < 256) (hc : 0 ≤ c ∧ c < 256) (hd : 0 ≤ d ∧ d < 256) :
    bits .or .u32 (bits .or .u32 (bits .or .u32 (a * 16777216) (b * 65536)) (c * 256)) d = word4 a b c d := by
  obtain ⟨a, rfl⟩ := Int.eq_ofNat_of_zero_le ha.1
  obtain ⟨b, rfl⟩ := Int.eq_ofNat_of_zero_le hb.1
  obtain ⟨c, rfl⟩ := Int.eq_ofNat_of_zero_le hc.1
  obtain ⟨d, rfl⟩ := Int.eq_ofNat_of_zero_le hd.1
  rw [show ((a : Int) * 16777216) = ((a * 16777216 : Nat) : Int) by simp, show ((b : Int) * 65536) = ((b * 65536 : Nat) : Int) by simp, show ((c : Int) * 256) = ((c * 256 : Nat) : Int) by simp]
  rw [u32_or_nat _ _ (by omega) (by omega), nat_join 24 _ _ (by omega) (by omega), u32_or_nat _ _ (by omega) (by omega), nat_join 16 _ _ (by omega) (by omega), u32_or_nat _ _ (by omega) (by omega), nat_join 8 _ _ (by omega) (by omega)]
  unfold word4; omega

set_option maxHeartbeats 400000 in
theorem prog_word (a b c d : Int) (w : World) (ha : 0 ≤ a ∧ a < 256) (hb : 0 ≤ b ∧ b < 256) (hc : 0 ≤ c ∧ c < 256) (hd : 0 ≤ d ∧ d < 256) :
    Calls Tryd.prog 49 #[.int .u8 a, .int .u8 b, .int .u8 c, .int .u8 d] w fun e w' => e = .returned (.int .u32 (word4 a b c d)) ∧ w' = w := by
  have H : Hid _ := or4 a b c d ha hb hc hd
  obtain ⟨ha0, ha1⟩ := ha
  obtain ⟨hb0, hb1⟩ := hb
  obtain ⟨hc0, hc1⟩ := hc
  obtain ⟨hd0, hd1⟩ := hd
  go_enter Tryd.func49, Tryd.ntmps49
  go_wp2
  go_ret
  exact ⟨ret_int H.out, rfl⟩

end Go.Proofs.YtaokemapkgggoaaDoor

namespace Go.Proofs.YtaokemapkgggoaaDoor
open Go.RowKit

theorem arr64b : ArrT Tryd.prog 95 64 (.int .u8 0) := ⟨⟨5, by kernel_rfl⟩, by kernel_rfl⟩
theorem arr32b : ArrT Tryd.prog 24 32 (.int .u8 0) := ⟨⟨5, by kernel_rfl⟩, by kernel_rfl⟩
theorem arr21b : ArrT Tryd.prog 63 21 (.int .u8 0) := ⟨⟨5, by kernel_rfl⟩, by kernel_rfl⟩
theorem arr4b : ArrT Tryd.prog 118 4 (.int .u8 0) := ⟨⟨5, by kernel_rfl⟩, by kernel_rfl⟩
theorem arr8b : ArrT Tryd.prog 71 8 (.int .u8 0) := ⟨⟨5, by kernel_rfl⟩, by kernel_rfl⟩
theorem arr6b : ArrT Tryd.prog 121 6 (.int .u8 0) := ⟨⟨5, by kernel_rfl⟩, by kernel_rfl⟩
theorem arr8w : ArrT Tryd.prog 69 8 (.int .u32 0) := ⟨⟨68, by kernel_rfl⟩, by kernel_rfl⟩
theorem arr64w : ArrT Tryd.prog 115 64 (.int .u32 0) := ⟨⟨68, by kernel_rfl⟩, by kernel_rfl⟩

theorem under_bytes : Tryd.prog.underlying 28 = some (.slice 5) := by kernel_rfl
theorem size_byte : (Tryd.prog.info? 5).map (·.size) = some 1 := by kernel_rfl

/-- a text's first n bytes, and bytes 0 behind them -/
def blk (n : Nat) (l : List UInt8) : List Int := bytesI (l.take n) ++ List.replicate (n - (l.take n).length) 0
theorem blk_length (n : Nat) (l : List UInt8) : (blk n l).length = n := by simp [blk, bytesI]; omega
theorem blk_cells (n : Nat) (l : List UInt8) : bcells (l.take n) ++ (zrow n (.int .u8 0)).drop (l.take n).length = u8s (blk n l) := by
  rw [bcells_eq]; simp [zrow, blk, u8s]

set_option maxRecDepth 100000 in
set_option maxHeartbeats 400000 in
theorem prog_blockOf (s : ByteArray) (w : World) :
    Calls Tryd.prog 47 #[.string s] w fun r w' => r = .returned (.agg (u8s (blk 64 s.data.toList)).toArray) ∧ Below w.heap.size w w' := by
  have hcp := run_copyStr_made (P := Tryd.prog) (w.alloc (.cells (zrow 64 (.int .u8 0)).toArray 95)) 28 9 3 5 (w.heap.size + 1) 64 64 s (zrow 64 (.int .u8 0)) 95 (by simp) under_bytes size_byte (by rw [zrow_length]; omega)
  rw [blk_cells] at hcp
  have hl := blk_length 64 s.data.toList
  have HL : Hid ((blk 64 s.data.toList).length = 64) := hl
  clear hl
  generalize blk 64 s.data.toList = b at *
  go_enter Tryd.func47, Tryd.ntmps47
  go_wp2_with (first | refine wpList_allocR rfl 95 rfl 64 (.int .u8 0) arr64b ?_ | refine wpList_loadR rfl 95 _ rfl (w.heap.size + 1) rfl 95 (u8s b) 64 (.int .u8 0) (Row.made1 _ _ _ _) arr64b (by rw [u8s_length]; exact HL.out) ?_ | refine wpList_storeR rfl 95 _ _ rfl w.heap.size rfl (u8s b) rfl 95 (zrow 64 (.int .u8 0)) 64 (.int .u8 0) ((Row.made _ _ _).alloc _) arr64b (by rw [u8s_length]; exact HL.out) (zrow_length _ _) (u8s_one _) ?_)
  refine bodyPost_ret (v := .agg (u8s b).toArray) (results_row Tryd.results47 _ w.heap.size 95 (u8s b) 64 (.int .u8 0) rfl (Row.setRow ((Row.made _ _ _).alloc _) _) arr64b (by rw [u8s_length]; exact HL.out)) rfl ⟨rfl, ?_⟩
  exact below_setRow (((Below.refl _ _).alloc (Nat.le_refl _) _).alloc (by simp) _) (Nat.le_refl _) _
end Go.Proofs.YtaokemapkgggoaaDoor
