import Derived.Test.YtaokemapkgggoaaGreatDoorRefPure
import Derived.Deep.RegionLaw
import Derived.Deep.RegionHeld3
namespace Go.Proofs.YtaokemapkgggoaaGreatDoor
open Go.RowKit

def goL : Code → Code
  | .seq a _ => a
  | c => c
def goR : Code → Code
  | .seq _ b => b
  | c => c
def goI : Code → Code
  | .loop c => c
  | .block _ c => c
  | .scope c => c
  | c => c
/-- the only way out is the one out of the block of that number -/
def onlyExit (k : Nat) (N : Act → World → Prop) : Exit → Act → World → Prop
  | .exit j, a, w => j = k ∧ N a w
  | _, _, _ => False
def goR4 (c : Code) : Code := goR (goR (goR (goR c)))
/-- the body of the function that tells a text's sum -/
def sumCode (f : Func) : Code := f.body.getD .skip
/-- a round over one block of 64 bytes -/
def sumTurn (f : Func) : Code := goI (goI (goR (goL (goR (goR (goR4 (goR4 (sumCode f))))))))
/-- a round of the loop that lays the 64 words -/
def sumWord (f : Func) : Code := goI (goI (goR (goL (goR (goI (goL (goR (sumTurn f))))))))
/-- a round of the loop of 64 mixings -/
def sumMix (f : Func) : Code := goI (goI (goR (goL (goR4 (goI (goL (goR (sumTurn f))))))))
/-- a round of the loop that adds -/
def sumAdd (f : Func) : Code := goI (goI (goR (goR (goR4 (goI (goL (goR (sumTurn f))))))))
/-- a round of the loop that lays the bytes -/
def sumOut (f : Func) : Code := goI (goI (goR (goL (goR4 (goR4 (goR4 (sumCode f)))))))

theorem wrap8_id (n : Int) (h0 : 0 ≤ n) (h1 : n < 256) : IntKind.u8.wrap n = n := by
  simp only [IntKind.wrap, IntKind.bits, IntKind.signed]
  simp
  omega
theorem eightTo_take (n : Int) (i : Nat) (h : i < 8) : (eightTo n 8).take (i + 1) = (eightTo n 8).take i ++ [n / 2 ^ (56 - 8 * i) % 256] := by
  rw [List.take_succ_eq_append_getElem (by rw [eightTo_length]; exact h)]
  congr 2
  simp [eightTo, h]
theorem pow_step (i : Nat) (h : i < 8) : (72057594037927936 : Int) / 256 ^ i = 2 ^ (56 - 8 * i) := by
  match i, h with
  | 0, _ => rfl
  | 1, _ => rfl
  | 2, _ => rfl
  | 3, _ => rfl
  | 4, _ => rfl
  | 5, _ => rfl
  | 6, _ => rfl
  | 7, _ => rfl
theorem div_256 (i : Nat) : (72057594037927936 : Int) / 256 ^ i / 256 = 72057594037927936 / 256 ^ (i + 1) := by
  rw [Int.ediv_ediv_of_nonneg (Int.pow_nonneg (by omega)), Int.pow_succ]
theorem pow_bd8 (i : Nat) (h : i < 8) : 1 ≤ (2 : Int) ^ (56 - 8 * i) ∧ (2 : Int) ^ (56 - 8 * i) ≤ 72057594037927936 := by
  have h1 : (2 : Nat) ^ (56 - 8 * i) ≤ 2 ^ 56 := Nat.pow_le_pow_right (by omega) (by omega)
  have h2 : 0 < (2 : Nat) ^ (56 - 8 * i) := Nat.pow_pos (by omega)
  have e : ((2 ^ (56 - 8 * i) : Nat) : Int) = (2 : Int) ^ (56 - 8 * i) := by simp
  have h3 : (2 : Nat) ^ 56 = 72057594037927936 := by decide
  omega

theorem blk_byte {T : ByteArray} {tl : List UInt8} (h : Hid (T.data.toList = tl)) {a j : Nat} (ha : a + 64 ≤ T.size) (hj : j < 64) : ((T[a + j]'(by omega)).toNat : Int) = (blk 64 (tl.drop a)).getD j 0 := by
  have hsz : tl.length = T.size := by rw [← h.out, Array.length_toList]; rfl
  have hl : j < ((tl.drop a).take 64).length := by rw [List.length_take, List.length_drop]; omega
  have h1 : (blk 64 (tl.drop a)).getD j 0 = ((((tl.drop a).take 64)[j]'hl).toNat : Int) := by
    unfold blk List.getD
    rw [List.getElem?_append_left (by rw [bytesI, List.length_map]; exact hl), bytesI, List.getElem?_map, List.getElem?_eq_getElem hl]
    rfl
  rw [h1]
  congr 2
  rw [List.getElem_take, List.getElem_drop]
  have h2 := h.out
  subst h2
  rfl

end Go.Proofs.YtaokemapkgggoaaGreatDoor
