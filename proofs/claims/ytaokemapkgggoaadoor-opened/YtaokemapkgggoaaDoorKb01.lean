import Derived.Laws.BitsAllLaws
import Derived.Test.YtaokemapkgggoaaDoorRows
import Derived.WalkKit
import Derived.WalkSpells
import Derived.WalkLawsBesides
import Derived.Deep.QuietTactic
import Derived.BigQuiet
import Derived.Laws.Rows
import Derived.Laws.CopyOwn
/-
  The plain mathematics of the sum, the seal and the code: words are whole numbers from 0 to 2^32 - 1.
-/
namespace Go.Proofs.YtaokemapkgggoaaDoor

def xr (a b : Int) : Int := ((a.toNat ^^^ b.toNat : Nat) : Int)
def an (a b : Int) : Int := ((a.toNat &&& b.toNat : Nat) : Int)
def rr (n : Nat) (x : Int) : Int := x / 2 ^ n + x % 2 ^ n * (4294967296 / 2 ^ n)

/-- a word -/
def isW (x : Int) : Prop := 0 ≤ x ∧ x < 4294967296

theorem xr_w {a b : Int} (ha : isW a) (hb : isW b) : isW (xr a b) := by
  unfold isW xr at *
  have h := @Nat.xor_lt_two_pow a.toNat b.toNat 32 (by omega) (by omega)
  omega
theorem an_w {a b : Int} (hb : isW b) : isW (an a b) := by
  unfold isW an at *
  have h : a.toNat &&& b.toNat ≤ b.toNat := Nat.and_le_right
  omega

theorem rr_w (n : Nat) (hn : n ≤ 32) {x : Int} (hx : isW x) : isW (rr n x) := by
  unfold isW rr at *
  have hp : (2 : Int) ^ n * 2 ^ (32 - n) = 4294967296 := by
    rw [← Int.pow_add, show n + (32 - n) = 32 by omega]; rfl
  have hpos : (0 : Int) < 2 ^ n := Int.pow_pos (by omega)
  have hpos2 : (0 : Int) < 2 ^ (32 - n) := Int.pow_pos (by omega)
  have hq : (4294967296 : Int) / 2 ^ n = 2 ^ (32 - n) := by
    rw [← hp]; exact Int.mul_ediv_cancel_left _ (by omega)
  rw [hq]
  generalize (2 : Int) ^ n = p at *
  generalize (2 : Int) ^ (32 - n) = q at *
  have h1 : 0 ≤ x / p := Int.ediv_nonneg hx.1 (by omega)
  have h2 : x / p < q := Int.ediv_lt_of_lt_mul hpos (by rw [Int.mul_comm, hp]; exact hx.2)
  have h3 : 0 ≤ x % p := Int.emod_nonneg _ (by omega)
  have h4 : x % p < p := Int.emod_lt_of_pos _ hpos
  have h5 : x % p * q ≤ (p - 1) * q := Int.mul_le_mul_of_nonneg_right (by omega) (by omega)
  have h6 : (p - 1) * q = 4294967296 - q := by rw [Int.sub_mul, hp]; omega
  have h7 : 0 ≤ x % p * q := Int.mul_nonneg h3 (by omega)
  omega

theorem shr_w (n : Nat) {x : Int} (hx : isW x) : isW (x / 2 ^ n) := by
  unfold isW at *
  have hpos : (0 : Int) < 2 ^ n := Int.pow_pos (by omega)
  have h1 : 0 ≤ x / 2 ^ n := Int.ediv_nonneg hx.1 (by omega)
  have h2 : x / 2 ^ n ≤ x := Int.ediv_le_self _ hx.1
  omega

def s0 (x : Int) : Int := xr (xr (rr 7 x) (rr 18 x)) (x / 2 ^ 3)
def s1 (x : Int) : Int := xr (xr (rr 17 x) (rr 19 x)) (x / 2 ^ 10)
def bigE (e : Int) : Int := xr (xr (rr 6 e) (rr 11 e)) (rr 25 e)
def bigA (a : Int) : Int := xr (xr (rr 2 a) (rr 13 a)) (rr 22 a)
def choose (e f g : Int) : Int := xr (an e f) (an (4294967295 - e) g)
def most (a b c : Int) : Int := xr (xr (an a b) (an a c)) (an b c)

theorem s0_w {x : Int} (h : isW x) : isW (s0 x) := xr_w (xr_w (rr_w _ (by omega) h) (rr_w _ (by omega) h)) (shr_w _ h)
theorem s1_w {x : Int} (h : isW x) : isW (s1 x) := xr_w (xr_w (rr_w _ (by omega) h) (rr_w _ (by omega) h)) (shr_w _ h)
theorem bigE_w {x : Int} (h : isW x) : isW (bigE x) := xr_w (xr_w (rr_w _ (by omega) h) (rr_w _ (by omega) h)) (rr_w _ (by omega) h)
theorem bigA_w {x : Int} (h : isW x) : isW (bigA x) := xr_w (xr_w (rr_w _ (by omega) h) (rr_w _ (by omega) h)) (rr_w _ (by omega) h)
theorem choose_w {e f g : Int} (hf : isW f) (hg : isW g) : isW (choose e f g) := xr_w (an_w hf) (an_w hg)
theorem most_w {a b c : Int} (hb : isW b) (hc : isW c) : isW (most a b c) := xr_w (xr_w (an_w hb) (an_w hc)) (an_w hc)

theorem mod_w (x : Int) : isW (x % 4294967296) := by unfold isW; omega

/-- the next word of the row W -/
def nextW (x16 x15 x7 x2 : Int) : Int := (s1 x2 + x7 + s0 x15 + x16) % 4294967296
/-- four bytes, the highest first -/
def word4 (a b c d : Int) : Int := ((a * 256 + b) * 256 + c) * 256 + d
theorem word4_w {a b c d : Int} (ha : 0 ≤ a ∧ a < 256) (hb : 0 ≤ b ∧ b < 256) (hc : 0 ≤ c ∧ c < 256) (hd : 0 ≤ d ∧ d < 256) : isW (word4 a b c d) := by
  unfold isW word4; omega

/-- W, its first t words, of 64 bytes -/
def rowW (b : List Int) : Nat → List Int
  | 0 => []
  | t + 1 => rowW b t ++ [if t < 16 then word4 (b.getD (4 * t) 0) (b.getD (4 * t + 1) 0) (b.getD (4 * t + 2) 0) (b.getD (4 * t + 3) 0)
      else nextW ((rowW b t).getD (t - 16) 0) ((rowW b t).getD (t - 15) 0) ((rowW b t).getD (t - 7) 0) ((rowW b t).getD (t - 2) 0)]
theorem rowW_length (b : List Int) (t : Nat) : (rowW b t).length = t := by
  induction t with
  | zero => rfl
  | succ t ih => simp [rowW, ih]

/-- one round -/
def turn1 (k w : Int) : List Int → List Int
  | [a, b, c, d, e, f, g, h] =>
    [(h + bigE e + choose e f g + k + w + bigA a + most a b c) % 4294967296, a, b, c, (d + (h + bigE e + choose e f g + k + w)) % 4294967296, e, f, g]
  | l => l
def rounds (K W v : List Int) : Nat → List Int
  | 0 => v
  | t + 1 => turn1 (K.getD t 0) (W.getD t 0) (rounds K W v t)
/-- one block -/
def blockOn (K h b : List Int) : List Int := List.zipWith (fun x y => (x + y) % 4294967296) h (rounds K (rowW b 64) h 64)

end Go.Proofs.YtaokemapkgggoaaDoor

namespace Go.Proofs.YtaokemapkgggoaaDoor
open Go.RowKit

theorem ret_int {k : IntKind} {a b : Int} (h : a = b) : Ending.returned (.int k a) = .returned (.int k b) := by rw [h]

theorem i64_xor_w {a b : Int} (ha : isW a) (hb : isW b) : bits .xor .i64 a b = xr a b := by
  unfold isW at ha hb
  obtain ⟨x, rfl⟩ := Int.eq_ofNat_of_zero_le ha.1
  obtain ⟨y, rfl⟩ := Int.eq_ofNat_of_zero_le hb.1
  have hx : x < 4294967296 := by omega
  have hy : y < 4294967296 := by omega
  show IntKind.i64.wrap ((BitVec.ofInt 64 (x : Int) ^^^ BitVec.ofInt 64 (y : Int)).toNat : Int) = ((x ^^^ y : Nat) : Int)
  rw [BitVec.toNat_xor, ofInt_u64 x (by omega), ofInt_u64 y (by omega)]
  have h := @Nat.xor_lt_two_pow x y 32 (by omega) (by omega)
  simp only [IntKind.wrap, IntKind.bits, IntKind.signed]
  simp
  omega
theorem i64_and_w {a b : Int} (ha : isW a) (hb : isW b) : bits .and .i64 a b = an a b := by
  unfold isW at ha hb
  obtain ⟨x, rfl⟩ := Int.eq_ofNat_of_zero_le ha.1
  obtain ⟨y, rfl⟩ := Int.eq_ofNat_of_zero_le hb.1
  have hx : x < 4294967296 := by omega
  have hy : y < 4294967296 := by omega
  show IntKind.i64.wrap ((BitVec.ofInt 64 (x : Int) &&& BitVec.ofInt 64 (y : Int)).toNat : Int) = ((x &&& y : Nat) : Int)
  rw [BitVec.toNat_and, ofInt_u64 x (by omega), ofInt_u64 y (by omega)]
  have h : x &&& y ≤ y := Nat.and_le_right
  simp only [IntKind.wrap, IntKind.bits, IntKind.signed]
  simp
  omega

theorem pow_bd (k : Nat) (h : k ≤ 31) : 1 ≤ (2 : Int) ^ k ∧ (2 : Int) ^ k ≤ 2147483648 := by
  have h1 : (2 : Nat) ^ k ≤ 2 ^ 31 := Nat.pow_le_pow_right (by omega) h
  have h2 : 0 < (2 : Nat) ^ k := Nat.pow_pos (by omega)
  have e : ((2 ^ k : Nat) : Int) = (2 : Int) ^ k := by simp
  rw [← e]
  have h3 : (2 : Nat) ^ 31 = 2147483648 := by decide
  omega

theorem half_pow (x : Int) (k : Nat) : x / 2 ^ k / 2 = x / 2 ^ (k + 1) := by
  rw [Int.ediv_ediv_of_nonneg (Int.pow_nonneg (by omega)), Int.pow_succ]

theorem rr_bits (x : Int) (hx : isW x) (k : Nat) (hk : k ≤ 31) : 0 ≤ x / 2 ^ k ∧ x / 2 ^ k < 4294967296 ∧ 0 ≤ 4294967296 / (2 : Int) ^ k ∧ 4294967296 / (2 : Int) ^ k ≤ 4294967296 ∧
    0 ≤ x % 2 ^ k * (4294967296 / 2 ^ k) ∧ x % 2 ^ k * (4294967296 / 2 ^ k) < 4294967296 ∧ Hid (x / 2 ^ k + x % 2 ^ k * (4294967296 / 2 ^ k) = rr k x) := by
  have hw := shr_w k hx
  have hr := rr_w k (by omega) hx
  have hb := pow_bd k hk
  have h3 : 0 ≤ x % 2 ^ k := Int.emod_nonneg _ (by omega)
  have h4 : 0 ≤ 4294967296 / (2 : Int) ^ k := Int.ediv_nonneg (by omega) (by omega)
  have h5 : 4294967296 / (2 : Int) ^ k ≤ 4294967296 := Int.ediv_le_self _ (by omega)
  have h7 : 0 ≤ x % 2 ^ k * (4294967296 / 2 ^ k) := Int.mul_nonneg h3 h4
  unfold isW rr at *
  exact ⟨hw.1, hw.2, h4, h5, h7, by omega, rfl⟩

end Go.Proofs.YtaokemapkgggoaaDoor

/-
  Whole rows of cells (arrays that lie in a block of their own): what a row holds, and the laws by which the walk makes, reads and writes one at once.
-/
namespace Go.Proofs.YtaokemapkgggoaaDoor
open Go.RowKit

/-- block g is a row of the cells cs, which may be written -/
def Row (w : World) (g : Nat) (cs : List Value) (t : TypeId) : Prop := w.heap[g]? = some (.cells cs.toArray t (0, 0))

theorem Row.cell {w : World} {g i : Nat} {cs : List Value} {t : TypeId} (h : Row w g cs t) : w.cell? ⟨g, i, none⟩ = cs[i]? := by
  rw [cell_of_row w g i _ t (0, 0) h]; simp
theorem Row.cellD {w : World} {g i : Nat} {cs : List Value} {t : TypeId} (h : Row w g cs t) (hi : i < cs.length) : w.cell? ⟨g, i, none⟩ = some (cs.getD i undef) := by
  rw [h.cell]; simp [hi]
theorem Row.frozen {w : World} {g : Nat} {cs : List Value} {t : TypeId} (h : Row w g cs t) (i : Nat) : w.frozen? ⟨g, i, none⟩ = false := frozen_of_row w g i _ t h
theorem Row.lt {w : World} {g : Nat} {cs : List Value} {t : TypeId} (h : Row w g cs t) : g < w.heap.size := (Array.getElem?_eq_some_iff.1 h).1
theorem Row.setCell {w : World} {g : Nat} {cs : List Value} {t : TypeId} (h : Row w g cs t) (i : Nat) (v : Value) : Row (w.setCell ⟨g, i, none⟩ v) g (cs.set i v) t := by
  unfold Row; rw [heap_setCell_same w g i _ t v h]; simp
theorem Row.setCell_other {w : World} {g : Nat} {cs : List Value} {t : TypeId} (h : Row w g cs t) (a : Addr) (v : Value) (hne : g ≠ a.block) : Row (w.setCell a v) g cs t := by
  unfold Row; rw [heap_setCell_other w a g v hne]; exact h
theorem Row.below {B : Nat} {w w' : World} {g : Nat} {cs : List Value} {t : TypeId} (h : Row w g cs t) (hb : Below B w w') (hg : g < B) : Row w' g cs t := by
  unfold Row; rw [hb.block g hg]; exact h
theorem Row.drewN {w : World} {g : Nat} {cs : List Value} {t : TypeId} (h : Row w g cs t) (n : Nat) : Row (w.drewN n) g cs t := h
theorem Row.drew {w : World} {g : Nat} {cs : List Value} {t : TypeId} (h : Row w g cs t) : Row w.drew g cs t := h
theorem Row.made (w : World) (cs : List Value) (t : TypeId) : Row (w.alloc (.cells cs.toArray t)) w.heap.size cs t := heap_alloc_new w _
theorem Row.made1 (w : World) (A : Obj) (cs : List Value) (t : TypeId) : Row ((w.alloc A).alloc (.cells cs.toArray t)) (w.heap.size + 1) cs t := by
  have := Row.made (w.alloc A) cs t
  rwa [World.size_alloc] at this
theorem Row.alloc {w : World} {g : Nat} {cs : List Value} {t : TypeId} (h : Row w g cs t) (o : Obj) : Row (w.alloc o) g cs t := by
  unfold Row; rw [Below.heap_alloc w o g h.lt]; exact h
theorem Row.setRow {w : World} {g : Nat} {cs : List Value} {t : TypeId} (h : Row w g cs t) (ds : List Value) : Row (w.setRow g ds.toArray) g ds t := setRow_heap w g _ _ t _ h
theorem Row.setRow_other {w : World} {g : Nat} {cs : List Value} {t : TypeId} (h : Row w g cs t) (k : Nat) (ds : Array Value) (hne : g ≠ k) : Row (w.setRow k ds) g cs t := by
  unfold Row; rw [Go.setRow_other w k g ds hne]; exact h
theorem Row.inj {w : World} {g : Nat} {cs ds : List Value} {t u : TypeId} (h : Row w g cs t) (k : Row w g ds u) : cs = ds := by
  unfold Row at *; rw [h] at k; simpa using (Obj.cells.inj (Option.some.inj k)).1

theorem setRow_made (w : World) (c c' : Array Value) (t : TypeId) (g : Nat) (hg : g = w.heap.size) : (w.alloc (.cells c t)).setRow g c' = w.alloc (.cells c' t) := by
  subst hg
  simp only [World.setRow, World.alloc]
  congr 1
  apply Array.ext_getElem?
  intro i
  rw [Array.getElem?_modify]
  by_cases h : w.heap.size = i
  · subst h; simp
  · have h' : ¬ i = w.heap.size := fun e => h e.symm
    simp [h, h', Array.getElem?_push]

/-- n zero cells -/
def zrow (n : Nat) (z : Value) : List Value := List.replicate n z
theorem zrow_length (n : Nat) (z : Value) : (zrow n z).length = n := by simp [zrow]

/-- ty is an array type of n one-cell elements -/
structure ArrT (P : Program) (ty : TypeId) (n : Nat) (zero : Value) : Prop where
  u : ∃ e, P.underlying ty = some (.array n e)
  i : (P.info? ty).map (fun i => (i.zero, i.size)) = some (some (.agg (zrow n zero).toArray), n)

theorem ArrT.size {P : Program} {ty : TypeId} {n : Nat} {z : Value} (h : ArrT P ty n z) : (P.info? ty).map (·.size) = some n := by
  have := h.i
  cases hq : P.info? ty with
  | none => simp [hq] at this
  | some i => simp [hq] at this; simp [this]

section
variable {P : Program} {ops : Array Oper} {rest : List Oper} {o : Oper} {a : Act} {w : World} {K : Act → World → Prop} {Q : Exit → Act → World → Prop}

theorem wp_allocR (ty : TypeId) (ho : o.op = .alloc ty) (n : Nat) (z : Value) (hz : ArrT P ty n z)
    (h : K (a.put o.dst (.pointer (some ⟨w.heap.size, 0, none⟩))) (w.alloc (.cells (zrow n z).toArray ty))) : o.wp P a w K Q := by
  have hi := hz.i
  cases hq : P.info? ty with
  | none => simp [hq] at hi
  | some i =>
    simp only [hq, Option.map_some, Option.some.injEq, Prod.mk.injEq] at hi
    have hrun : (execOp a.eval o).run P w = .ok (.value (.pointer (some ⟨w.heap.size, 0, none⟩))) (w.alloc (.cells (zrow n z).toArray ty)) := by
      unfold execOp
      simp [ho, Instr.alloc, zeroValue, typeInfo, newVar, hq, hi.1, go_sem, Value.cells]
    unfold Oper.wp
    rw [hrun]
    exact h

theorem wpList_allocR (hgd : o.guard = none) (ty : TypeId) (ho : o.op = .alloc ty) (n : Nat) (z : Value) (hz : ArrT P ty n z)
    (h : wpList P ops Q rest (a.put o.dst (.pointer (some ⟨w.heap.size, 0, none⟩))) (w.alloc (.cells (zrow n z).toArray ty))) : wpList P ops Q (o :: rest) a w :=
  wpList_plain hgd fun _ hK => wp_allocR ty ho n z hz (hK _ _ h)

theorem wp_boxR (ty : TypeId) (x : Operand) (ho : o.op = .box ty x) (cs : List Value) (hx : a.eval x = .agg cs.toArray)
    (h : K (a.put o.dst (.pointer (some ⟨w.heap.size, 0, none⟩))) (w.alloc (.cells cs.toArray ty))) : o.wp P a w K Q := by
  have hrun : (execOp a.eval o).run P w = .ok (.value (.pointer (some ⟨w.heap.size, 0, none⟩))) (w.alloc (.cells cs.toArray ty)) := by
    unfold execOp
    simp only [ho, hx]
    simp [Instr.box, newVar, go_sem, Value.cells]
  unfold Oper.wp
  rw [hrun]
  exact h
theorem wpList_boxR (hgd : o.guard = none) (ty : TypeId) (x : Operand) (ho : o.op = .box ty x) (cs : List Value) (hx : a.eval x = .agg cs.toArray)
    (h : wpList P ops Q rest (a.put o.dst (.pointer (some ⟨w.heap.size, 0, none⟩))) (w.alloc (.cells cs.toArray ty))) : wpList P ops Q (o :: rest) a w :=
  wpList_plain hgd fun _ hK => wp_boxR ty x ho cs hx (hK _ _ h)

theorem wp_loadR (ty : TypeId) (x : Operand) (ho : o.op = .load ty x) (g : Nat) (hx : a.eval x = .pointer (some ⟨g, 0, none⟩)) (t : TypeId) (cs : List Value) (n : Nat) (z : Value)
    (hr : Row w g cs t) (ht : ArrT P ty n z) (hn : cs.length = n) (h : K (a.put o.dst (.agg cs.toArray)) w) : o.wp P a w K Q := by
  obtain ⟨e, hu⟩ := ht.u
  exact wp_load_row ty x ho g hx t cs.toArray (0, 0) _ hr hu rfl (by rw [ht.size]; simp [hn]) h
theorem wpList_loadR (hgd : o.guard = none) (ty : TypeId) (x : Operand) (ho : o.op = .load ty x) (g : Nat) (hx : a.eval x = .pointer (some ⟨g, 0, none⟩)) (t : TypeId) (cs : List Value) (n : Nat) (z : Value)
    (hr : Row w g cs t) (ht : ArrT P ty n z) (hn : cs.length = n) (h : wpList P ops Q rest (a.put o.dst (.agg cs.toArray)) w) : wpList P ops Q (o :: rest) a w :=
  wpList_plain hgd fun _ hK => wp_loadR ty x ho g hx t cs n z hr ht hn (hK _ _ h)

theorem wp_storeR (ty : TypeId) (x y : Operand) (ho : o.op = .store ty x y) (g : Nat) (hx : a.eval x = .pointer (some ⟨g, 0, none⟩)) (ds : List Value) (hy : a.eval y = .agg ds.toArray) (t : TypeId) (cs : List Value)
    (n : Nat) (z : Value) (hr : Row w g cs t) (ht : ArrT P ty n z) (hn : ds.length = n) (hc : cs.length = n) (h1 : ∀ v ∈ ds, v.oneCell' = true)
    (h : K (a.put o.dst undef) (w.setRow g ds.toArray)) : o.wp P a w K Q := by
  have hs := run_storeVar_row (P := P) w g t ty cs.toArray ds.toArray hr (by rw [ht.size]; simp [hn]) (by simp [hn, hc]) (Array.all_eq_true_iff_forall_mem.2 (fun v hv => h1 v (by simpa using hv)))
  unfold Oper.wp execOp
  simp only [ho, hx, hy, Instr.storeAt, Instr.sureAddr, Sem.run_bind, Sem.run_pure, Result.andThen_ok, hs]
  exact h
theorem wpList_storeR (hgd : o.guard = none) (ty : TypeId) (x y : Operand) (ho : o.op = .store ty x y) (g : Nat) (hx : a.eval x = .pointer (some ⟨g, 0, none⟩)) (ds : List Value) (hy : a.eval y = .agg ds.toArray) (t : TypeId) (cs : List Value)
    (n : Nat) (z : Value) (hr : Row w g cs t) (ht : ArrT P ty n z) (hn : ds.length = n) (hc : cs.length = n) (h1 : ∀ v ∈ ds, v.oneCell' = true)
    (h : wpList P ops Q rest (a.put o.dst undef) (w.setRow g ds.toArray)) : wpList P ops Q (o :: rest) a w :=
  wpList_plain hgd fun _ hK => wp_storeR ty x y ho g hx ds hy t cs n z hr ht hn hc h1 (hK _ _ h)

/-- a whole row stored into the block that was made last -/
theorem wp_storeM {W : World} (ty : TypeId) (x y : Operand) (ho : o.op = .store ty x y) (g : Nat) (hx : a.eval x = .pointer (some ⟨g, 0, none⟩)) (hg : g = W.heap.size) (ds : List Value) (hy : a.eval y = .agg ds.toArray) (t : TypeId) (cs : List Value)
    (n : Nat) (z : Value) (ht : ArrT P ty n z) (hn : ds.length = n) (hc : cs.length = n) (h1 : ∀ v ∈ ds, v.oneCell' = true)
    (h : K (a.put o.dst undef) (W.alloc (.cells ds.toArray t))) : o.wp P a (W.alloc (.cells cs.toArray t)) K Q := by
  subst hg
  refine wp_storeR ty x y ho _ hx ds hy t cs n z (Row.made _ _ _) ht hn hc h1 ?_
  rw [setRow_made _ _ _ _ _ rfl]
  exact h
theorem wpList_storeM {W : World} (hgd : o.guard = none) (ty : TypeId) (x y : Operand) (ho : o.op = .store ty x y) (g : Nat) (hx : a.eval x = .pointer (some ⟨g, 0, none⟩)) (hg : g = W.heap.size) (ds : List Value) (hy : a.eval y = .agg ds.toArray) (t : TypeId) (cs : List Value)
    (n : Nat) (z : Value) (ht : ArrT P ty n z) (hn : ds.length = n) (hc : cs.length = n) (h1 : ∀ v ∈ ds, v.oneCell' = true)
    (h : wpList P ops Q rest (a.put o.dst undef) (W.alloc (.cells ds.toArray t))) : wpList P ops Q (o :: rest) a (W.alloc (.cells cs.toArray t)) :=
  wpList_plain hgd fun _ hK => wp_storeM ty x y ho g hx hg ds hy t cs n z ht hn hc h1 (hK _ _ h)

theorem wpList_storeMA {W : World} (hgd : o.guard = none) (ty : TypeId) (x y : Operand) (ho : o.op = .store ty x y) (g : Nat) (hx : a.eval x = .pointer (some ⟨g, 0, none⟩)) (hg : g = W.heap.size) (ds : List Value) (hy : a.eval y = .agg ds.toArray) (t : TypeId) (cs : List Value)
    (n : Nat) (z : Value) (ht : ArrT P ty n z) (hn : ds.length = n) (hc : cs.length = n) (h1 : ∀ v ∈ ds, v.oneCell' = true)
    (h : ∀ w', Row w' W.heap.size ds t → Below W.heap.size W w' → wpList P ops Q rest (a.put o.dst undef) w') : wpList P ops Q (o :: rest) a (W.alloc (.cells cs.toArray t)) :=
  wpList_storeM hgd ty x y ho g hx hg ds hy t cs n z ht hn hc h1 (h _ (Row.made _ _ _) ((Below.refl _ _).alloc (Nat.le_refl _) _))

/-- an array's zero value, written as a literal without parts -/
theorem wp_buildZ (ty : TypeId) (ho : o.op = .build ty #[]) (n : Nat) (z : Value) (ht : ArrT P ty n z) (he : ∀ e, P.underlying ty = some (.array n e) → (P.info? e).isSome = true)
    (h : K (a.put o.dst (.agg (zrow n z).toArray)) w) : o.wp P a w K Q := by
  obtain ⟨e, hu⟩ := ht.u
  have hi := ht.i
  have hes := he e hu
  cases hq : P.info? ty with
  | none => simp [hq] at hi
  | some i =>
    cases hqe : P.info? e with
    | none => simp [hqe] at hes
    | some ie =>
      simp only [hq, Option.map_some, Option.some.injEq, Prod.mk.injEq] at hi
      have hrun : (execOp a.eval o).run P w = .ok (.value (.agg (zrow n z).toArray)) w := by
        unfold execOp
        simp only [ho]
        simp [Instr.build, zeroValue, typeInfo, hq, hi.1, run_underlying hu, sizeOf, hqe, Instr.fill, Value.cells]
      unfold Oper.wp
      rw [hrun]
      exact h
theorem wpList_buildZ (hgd : o.guard = none) (ty : TypeId) (ho : o.op = .build ty #[]) (n : Nat) (z : Value) (ht : ArrT P ty n z) (he : ∀ e, P.underlying ty = some (.array n e) → (P.info? e).isSome = true)
    (h : wpList P ops Q rest (a.put o.dst (.agg (zrow n z).toArray)) w) : wpList P ops Q (o :: rest) a w :=
  wpList_plain hgd fun _ hK => wp_buildZ ty ho n z ht he (hK _ _ h)

/-- what is handed back out of a row -/
theorem results_row {fn : Func} {p : Tmp} {ty : TypeId} (hf : fn.results = #[.cell p ty]) (tmps : Array Value) (g : Nat) (t : TypeId) (cs : List Value) (n : Nat) (z : Value)
    (hp : tmps.getD p undef = .pointer (some ⟨g, 0, none⟩)) (hr : Row w g cs t) (ht : ArrT P ty n z) (hn : cs.length = n) : (results fn tmps).run P w = .ok (.agg cs.toArray) w := by
  obtain ⟨e, hu⟩ := ht.u
  exact results_cell_row hf tmps w g t cs.toArray (0, 0) _ hp hr hu rfl (by rw [ht.size]; simp [hn])

/-- the bytes of a text, as cells -/
def bcells (l : List UInt8) : List Value := l.map fun b => .int .u8 b.toNat
theorem bcells_one (l : List UInt8) : ∀ v ∈ bcells l, v.oneCell' = true := by
  intro v hv
  simp only [bcells, List.mem_map] at hv
  obtain ⟨b, _, rfl⟩ := hv
  rfl

/-- bytes as whole numbers, and as cells -/
def bytesI (l : List UInt8) : List Int := l.map fun b => (b.toNat : Int)
def u8s (l : List Int) : List Value := l.map (Value.int .u8)
def u32s (l : List Int) : List Value := l.map (Value.int .u32)
theorem bcells_eq (l : List UInt8) : bcells l = u8s (bytesI l) := by simp [bcells, u8s, bytesI]
theorem u8s_one (l : List Int) : ∀ v ∈ u8s l, v.oneCell' = true := by
  intro v hv
  simp only [u8s, List.mem_map] at hv
  obtain ⟨b, _, rfl⟩ := hv
  rfl
theorem u32s_one (l : List Int) : ∀ v ∈ u32s l, v.oneCell' = true := by
  intro v hv
  simp only [u32s, List.mem_map] at hv
  obtain ⟨b, _, rfl⟩ := hv
  rfl
@[simp] theorem u8s_length (l : List Int) : (u8s l).length = l.length := by simp [u8s]
@[simp] theorem u32s_length (l : List Int) : (u32s l).length = l.length := by simp [u32s]
theorem u8s_get (l : List Int) (i : Nat) (h : i < l.length) : (u8s l)[i]? = some (.int .u8 (l.getD i 0)) := by simp [u8s, h]
theorem u32s_get (l : List Int) (i : Nat) (h : i < l.length) : (u32s l)[i]? = some (.int .u32 (l.getD i 0)) := by simp [u32s, h]
theorem u8s_set (l : List Int) (i : Nat) (x : Int) : (u8s l).set i (.int .u8 x) = u8s (l.set i x) := by simp [u8s, List.map_set]
theorem u32s_set (l : List Int) (i : Nat) (x : Int) : (u32s l).set i (.int .u32 x) = u32s (l.set i x) := by simp [u32s, List.map_set]
theorem zrow_u8 (n : Nat) : zrow n (.int .u8 0) = u8s (List.replicate n 0) := by simp [zrow, u8s]
theorem zrow_u32 (n : Nat) : zrow n (.int .u32 0) = u32s (List.replicate n 0) := by simp [zrow, u32s]

theorem run_copyStr (dT sT ty elem : TypeId) (g dLen dCap : Nat) (s : ByteArray) (cs : List Value) (t : TypeId)
    (hu : P.underlying dT = some (.slice elem)) (hs : (P.info? elem).map (·.size) = some 1) (hr : Row w g cs t) (hle : dLen ≤ cs.length) :
    (Builtin.copy_ #[dT, sT] ty #[.slice (some ⟨g, 0, none⟩) dLen dCap, .string s]).run P w =
      .ok (goInt (Nat.min s.size dLen)) (w.setRow g (bcells (s.data.toList.take dLen) ++ cs.drop (s.data.toList.take dLen).length).toArray) := by
  have hl : (bcells (s.data.toList.take dLen)).length = (s.data.toList.take dLen).length := by simp [bcells]
  have hst := run_storeCells_at P g 0 t (bcells (s.data.toList.take dLen)) 0 cs.toArray w hr (by rw [hl, List.length_take]; simp; omega) (bcells_one _)
  have hcells : (Builtin.firstCells 1 (Nat.min s.size dLen) (.string s)).run P w = .ok (bcells (s.data.toList.take dLen)).toArray w := by
    have e : ((s.extract 0 (Nat.min s.size dLen)).data.map fun b => Value.int .u8 b.toNat) = (bcells (s.data.toList.take dLen)).toArray := by
      apply Array.toList_inj.1
      rw [Array.toList_map, List.toList_toArray]
      show _ = List.map _ _
      congr 1
      have : (s.extract 0 (Nat.min s.size dLen)).data.toList = s.data.toList.take (Nat.min s.size dLen) := by
        rw [ByteArray.data_extract]; simp
      rw [this]
      have hsz : s.size = s.data.toList.length := by rw [Array.length_toList]; rfl
      rw [hsz, show Nat.min s.data.toList.length dLen = min dLen s.data.toList.length from Nat.min_comm _ _, ← List.take_eq_take_min]
    simp only [Builtin.firstCells, e, Sem.run_pure]
  rw [hl] at hst
  simp only [Nat.zero_add, List.take_zero, List.nil_append] at hst
  cases hq : P.info? elem with
  | none => simp [hq] at hs
  | some i =>
    have hi : i.size = 1 := by simpa [hq] using hs
    simp only [Builtin.copy_, Builtin.lenOf, sizeOf, typeInfo]
    simp only [List.getElem?_toArray, List.getElem?_cons_zero, List.getElem?_cons_succ]
    simp [hi, hcells, hst, run_underlying hu, hq]

/-- a text copied into the row that was made last -/
theorem run_copyStr_made (W : World) (dT sT ty elem : TypeId) (g dLen dCap : Nat) (s : ByteArray) (cs : List Value) (t : TypeId) (hg : g = W.heap.size)
    (hu : P.underlying dT = some (.slice elem)) (hs : (P.info? elem).map (·.size) = some 1) (hle : dLen ≤ cs.length) :
    (Builtin.copy_ #[dT, sT] ty #[.slice (some ⟨g, 0, none⟩) dLen dCap, .string s]).run P (W.alloc (.cells cs.toArray t)) =
      .ok (goInt (Nat.min s.size dLen)) (W.alloc (.cells (bcells (s.data.toList.take dLen) ++ cs.drop (s.data.toList.take dLen).length).toArray t)) := by
  subst hg
  rw [run_copyStr dT sT ty elem W.heap.size dLen dCap s cs t hu hs (Row.made _ _ _) hle, setRow_made _ _ _ _ _ rfl]

end
end Go.Proofs.YtaokemapkgggoaaDoor
