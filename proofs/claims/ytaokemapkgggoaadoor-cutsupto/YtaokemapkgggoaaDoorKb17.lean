import Derived.Test.YtaokemapkgggoaaDoorKb16
import Derived.Test.YtaokemapkgggoaaDoorKb14
namespace Go.Proofs.YtaokemapkgggoaaDoor
open Go.RowKit
set_option linter.unusedVariables false

/-- the bytes of an image, part by part -/
def raw (m : UInt8) (nb : List UInt8) (t : UInt8) (pf k0 k1 k2 k3 : List UInt8) (x : UInt8) : List UInt8 := m :: (nb ++ (t :: (pf ++ (k0 ++ (k1 ++ (k2 ++ (k3 ++ [x])))))))

section
variable {m t x : UInt8} {nb pf k0 k1 k2 k3 : List UInt8}
theorem raw_length (hn : nb.length = 4) (hp : pf.length = 9) (h0 : k0.length = 21) (h1 : k1.length = 21) (h2 : k2.length = 21) (h3 : k3.length = 21) : (raw m nb t pf k0 k1 k2 k3 x).length = 100 := by simp [raw, hn, hp, h0, h1, h2, h3]
theorem raw_set5 (hn : nb.length = 4) (hp : pf.length = 9) (h0 : k0.length = 21) (h1 : k1.length = 21) (h2 : k2.length = 21) (h3 : k3.length = 21) (y : UInt8) : (raw m nb t pf k0 k1 k2 k3 x).set 5 y = raw m nb y pf k0 k1 k2 k3 x := by
  match nb, hn with
  | [a, b, c, d], _ => rfl
theorem raw_set0 (hn : nb.length = 4) (hp : pf.length = 9) (h0 : k0.length = 21) (h1 : k1.length = 21) (h2 : k2.length = 21) (h3 : k3.length = 21) (y : UInt8) : (raw m nb t pf k0 k1 k2 k3 x).set 0 y = raw y nb t pf k0 k1 k2 k3 x := rfl
theorem raw_num (hn : nb.length = 4) (hp : pf.length = 9) (h0 : k0.length = 21) (h1 : k1.length = 21) (h2 : k2.length = 21) (h3 : k3.length = 21) : numOf (raw m nb t pf k0 k1 k2 k3 x) = word4 (bAt nb 0) (bAt nb 1) (bAt nb 2) (bAt nb 3) := by
  match nb, hn with
  | [a, b, c, d], _ => rfl
theorem raw_five (hn : nb.length = 4) (hp : pf.length = 9) (h0 : k0.length = 21) (h1 : k1.length = 21) (h2 : k2.length = 21) (h3 : k3.length = 21) : bAt (raw m nb t pf k0 k1 k2 k3 x) 5 = t.toNat := by
  match nb, hn with
  | [a, b, c, d], _ => rfl
theorem raw_withNum (hn : nb.length = 4) (hp : pf.length = 9) (h0 : k0.length = 21) (h1 : k1.length = 21) (h2 : k2.length = 21) (h3 : k3.length = 21) (y : Int) : withNum (raw m nb t pf k0 k1 k2 k3 x) y = raw m (toBytes (four y)) t pf k0 k1 k2 k3 x := by
  match nb, hn with
  | [a, b, c, d], _ => simp [withNum, raw]
theorem raw_mid (hn : nb.length = 4) (hp : pf.length = 9) (h0 : k0.length = 21) (h1 : k1.length = 21) (h2 : k2.length = 21) (h3 : k3.length = 21) : ((raw m nb t pf k0 k1 k2 k3 x).drop 1).take 98 = nb ++ (t :: (pf ++ (k0 ++ (k1 ++ (k2 ++ k3))))) := by
  have e : (raw m nb t pf k0 k1 k2 k3 x).drop 1 = (nb ++ (t :: (pf ++ (k0 ++ (k1 ++ (k2 ++ k3)))))) ++ [x] := by simp [raw]
  rw [e, List.take_append_of_le_length (by simp [hn, hp, h0, h1, h2, h3]), List.take_of_length_le (by simp [hn, hp, h0, h1, h2, h3])]
theorem raw_set99 (hn : nb.length = 4) (hp : pf.length = 9) (h0 : k0.length = 21) (h1 : k1.length = 21) (h2 : k2.length = 21) (h3 : k3.length = 21) (y : UInt8) : (raw m nb t pf k0 k1 k2 k3 x).set 99 y = raw m nb t pf k0 k1 k2 k3 y := by
  have e : ∀ z, raw m nb t pf k0 k1 k2 k3 z = (m :: (nb ++ (t :: (pf ++ (k0 ++ (k1 ++ (k2 ++ k3))))))) ++ [z] := by intro z; simp [raw]
  rw [e, e, List.set_append_right _ _ (by simp [hn, hp, h0, h1, h2, h3])]
  congr 1
  simp [hn, hp, h0, h1, h2, h3]
theorem raw_last (hn : nb.length = 4) (hp : pf.length = 9) (h0 : k0.length = 21) (h1 : k1.length = 21) (h2 : k2.length = 21) (h3 : k3.length = 21) : bAt (raw m nb t pf k0 k1 k2 k3 x) 99 = x.toNat := by
  have e : raw m nb t pf k0 k1 k2 k3 x = (m :: (nb ++ (t :: (pf ++ (k0 ++ (k1 ++ (k2 ++ k3))))))) ++ [x] := by simp [raw]
  rw [e, bAt, bytesI, List.map_append, List.getD_eq_getElem?_getD, List.getElem?_append_right (by simp [hn, hp, h0, h1, h2, h3])]
  simp [hn, hp, h0, h1, h2, h3]
theorem raw_turned (hn : nb.length = 4) (hp : pf.length = 9) (h0 : k0.length = 21) (h1 : k1.length = 21) (h2 : k2.length = 21) (h3 : k3.length = 21) (y : Int) (hy : y = (numOf (raw m nb t pf k0 k1 k2 k3 x) + 1) % 4294967296) :
    turned (raw m nb t pf k0 k1 k2 k3 x) = raw m (toBytes (four y)) t pf k0 k1 k2 k3 (b8 (1 + sumB (toBytes (four y) ++ (t :: (pf ++ (k0 ++ (k1 ++ (k2 ++ k3)))))))) := by
  have hn' : (toBytes (four y)).length = 4 := by rw [toBytes_length]; rfl
  rw [turned, ← hy, raw_withNum hn hp h0 h1 h2 h3, raw_set99 hn' hp h0 h1 h2 h3, chkOf, raw_mid hn' hp h0 h1 h2 h3, b8_mod]
theorem raw_front (hn : nb.length = 4) (hp : pf.length = 9) (h0 : k0.length = 21) (h1 : k1.length = 21) (h2 : k2.length = 21) (h3 : k3.length = 21) : (raw m nb t pf k0 k1 k2 k3 x).take 6 = m :: (nb ++ [t]) := by
  match nb, hn with
  | [a, b, c, d], _ => rfl
theorem raw_pin (hn : nb.length = 4) (hp : pf.length = 9) (h0 : k0.length = 21) (h1 : k1.length = 21) (h2 : k2.length = 21) (h3 : k3.length = 21) : (raw m nb t pf k0 k1 k2 k3 x).drop 6 = pf ++ (k0 ++ (k1 ++ (k2 ++ (k3 ++ [x])))) := by
  match nb, hn with
  | [a, b, c, d], _ => rfl
theorem raw_keys (hn : nb.length = 4) (hp : pf.length = 9) (h0 : k0.length = 21) (h1 : k1.length = 21) (h2 : k2.length = 21) (h3 : k3.length = 21) : (raw m nb t pf k0 k1 k2 k3 x).drop 15 = k0 ++ (k1 ++ (k2 ++ (k3 ++ [x]))) := by
  rw [show 15 = 6 + 9 from rfl, ← List.drop_drop, raw_pin hn hp h0 h1 h2 h3, ← hp, List.drop_left]
theorem raw_keys1 (hn : nb.length = 4) (hp : pf.length = 9) (h0 : k0.length = 21) (h1 : k1.length = 21) (h2 : k2.length = 21) (h3 : k3.length = 21) : (raw m nb t pf k0 k1 k2 k3 x).drop 36 = k1 ++ (k2 ++ (k3 ++ [x])) := by
  rw [show 36 = 15 + 21 from rfl, ← List.drop_drop, raw_keys hn hp h0 h1 h2 h3]
  conv => lhs; rw [← h0, List.drop_left]
theorem raw_keys2 (hn : nb.length = 4) (hp : pf.length = 9) (h0 : k0.length = 21) (h1 : k1.length = 21) (h2 : k2.length = 21) (h3 : k3.length = 21) : (raw m nb t pf k0 k1 k2 k3 x).drop 57 = k2 ++ (k3 ++ [x]) := by
  rw [show 57 = 36 + 21 from rfl, ← List.drop_drop, raw_keys1 hn hp h0 h1 h2 h3]
  conv => lhs; rw [← h1, List.drop_left]
theorem raw_keys3 (hn : nb.length = 4) (hp : pf.length = 9) (h0 : k0.length = 21) (h1 : k1.length = 21) (h2 : k2.length = 21) (h3 : k3.length = 21) : (raw m nb t pf k0 k1 k2 k3 x).drop 78 = k3 ++ [x] := by
  rw [show 78 = 57 + 21 from rfl, ← List.drop_drop, raw_keys2 hn hp h0 h1 h2 h3]
  conv => lhs; rw [← h2, List.drop_left]
theorem raw_check (hn : nb.length = 4) (hp : pf.length = 9) (h0 : k0.length = 21) (h1 : k1.length = 21) (h2 : k2.length = 21) (h3 : k3.length = 21) : (raw m nb t pf k0 k1 k2 k3 x).drop 99 = [x] := by
  rw [show 99 = 78 + 21 from rfl, ← List.drop_drop, raw_keys3 hn hp h0 h1 h2 h3]
  conv => lhs; rw [← h3, List.drop_left]
theorem raw_take15 (hn : nb.length = 4) (hp : pf.length = 9) (h0 : k0.length = 21) (h1 : k1.length = 21) (h2 : k2.length = 21) (h3 : k3.length = 21) : (raw m nb t pf k0 k1 k2 k3 x).take 15 = m :: (nb ++ (t :: pf)) := by
  have e : raw m nb t pf k0 k1 k2 k3 x = (m :: (nb ++ (t :: pf))) ++ (k0 ++ (k1 ++ (k2 ++ (k3 ++ [x])))) := by simp [raw]
  rw [e, List.take_append_of_le_length (by simp [hn, hp]), List.take_of_length_le (by simp [hn, hp])]
theorem raw_take36 (hn : nb.length = 4) (hp : pf.length = 9) (h0 : k0.length = 21) (h1 : k1.length = 21) (h2 : k2.length = 21) (h3 : k3.length = 21) : (raw m nb t pf k0 k1 k2 k3 x).take 36 = m :: (nb ++ (t :: (pf ++ k0))) := by
  have e : raw m nb t pf k0 k1 k2 k3 x = (m :: (nb ++ (t :: (pf ++ k0)))) ++ (k1 ++ (k2 ++ (k3 ++ [x]))) := by simp [raw]
  rw [e, List.take_append_of_le_length (by simp [hn, hp, h0]), List.take_of_length_le (by simp [hn, hp, h0])]
theorem raw_take57 (hn : nb.length = 4) (hp : pf.length = 9) (h0 : k0.length = 21) (h1 : k1.length = 21) (h2 : k2.length = 21) (h3 : k3.length = 21) : (raw m nb t pf k0 k1 k2 k3 x).take 57 = m :: (nb ++ (t :: (pf ++ (k0 ++ k1)))) := by
  have e : raw m nb t pf k0 k1 k2 k3 x = (m :: (nb ++ (t :: (pf ++ (k0 ++ k1))))) ++ (k2 ++ (k3 ++ [x])) := by simp [raw]
  rw [e, List.take_append_of_le_length (by simp [hn, hp, h0, h1]), List.take_of_length_le (by simp [hn, hp, h0, h1])]
theorem raw_take78 (hn : nb.length = 4) (hp : pf.length = 9) (h0 : k0.length = 21) (h1 : k1.length = 21) (h2 : k2.length = 21) (h3 : k3.length = 21) : (raw m nb t pf k0 k1 k2 k3 x).take 78 = m :: (nb ++ (t :: (pf ++ (k0 ++ (k1 ++ k2))))) := by
  have e : raw m nb t pf k0 k1 k2 k3 x = (m :: (nb ++ (t :: (pf ++ (k0 ++ (k1 ++ k2)))))) ++ (k3 ++ [x]) := by simp [raw]
  rw [e, List.take_append_of_le_length (by simp [hn, hp, h0, h1, h2]), List.take_of_length_le (by simp [hn, hp, h0, h1, h2])]
end

theorem take_left' {a b : List UInt8} {n : Nat} (h : a.length = n) : (a ++ b).take n = a := by rw [← h, List.take_left]
/-- the bytes of a text -/
abbrev Bs (b : ByteArray) : List UInt8 := b.data.toList
theorem Bs_len (b : ByteArray) : (Bs b).length = b.size := by rw [Bs, Array.length_toList]; rfl

/-- an image's bytes, with any sum -/
def Kep.raw (k : Kep) (x : UInt8) : List UInt8 := Go.Proofs.YtaokemapkgggoaaDoor.raw 167 (toBytes (four k.num)) (b8 k.tries) (fieldB 9 (Bs k.pin)) (fieldB 21 (Bs k.k0)) (fieldB 21 (Bs k.k1)) (fieldB 21 (Bs k.k2)) (fieldB 21 (Bs k.k3)) x
structure Kep.good (k : Kep) : Prop where
  n0 : 0 ≤ k.num
  n1 : k.num < 4294967296
  t0 : 0 ≤ k.tries
  t1 : k.tries ≤ 5
  pin : k.pin.size ≤ 8
  k0 : k.k0.size ≤ 20
  k1 : k.k1.size ≤ 20
  k2 : k.k2.size ≤ 20
  k3 : k.k3.size ≤ 20
theorem four_len (y : Int) : (toBytes (four y)).length = 4 := by rw [toBytes_length]; rfl
theorem fieldB_len (n : Nat) (b : ByteArray) (h : b.size < n) : (fieldB n (Bs b)).length = n := fieldB_length n _ (by rw [Bs_len]; exact h)
section
variable {k : Kep} {x : UInt8}
theorem Kep.good.lp (h : k.good) : (fieldB 9 (Bs k.pin)).length = 9 := fieldB_len 9 _ (by have := h.pin; omega)
theorem Kep.good.l0 (h : k.good) : (fieldB 21 (Bs k.k0)).length = 21 := fieldB_len 21 _ (by have := h.k0; omega)
theorem Kep.good.l1 (h : k.good) : (fieldB 21 (Bs k.k1)).length = 21 := fieldB_len 21 _ (by have := h.k1; omega)
theorem Kep.good.l2 (h : k.good) : (fieldB 21 (Bs k.k2)).length = 21 := fieldB_len 21 _ (by have := h.k2; omega)
theorem Kep.good.l3 (h : k.good) : (fieldB 21 (Bs k.k3)).length = 21 := fieldB_len 21 _ (by have := h.k3; omega)
theorem Kep.raw_length (h : k.good) : (k.raw x).length = 100 := Go.Proofs.YtaokemapkgggoaaDoor.raw_length (four_len _) h.lp h.l0 h.l1 h.l2 h.l3
theorem Kep.body_eq (h : k.good) : k.body = toBytes (four k.num) ++ (b8 k.tries :: (fieldB 9 (Bs k.pin) ++ (fieldB 21 (Bs k.k0) ++ (fieldB 21 (Bs k.k1) ++ (fieldB 21 (Bs k.k2) ++ fieldB 21 (Bs k.k3)))))) := by
  have h0 := h.n0
  have h1 := h.n1
  have e1 : k.num.tdiv 16777216 = k.num / 16777216 := Int.tdiv_eq_ediv_of_nonneg h0
  have e2 : (k.num.tdiv 65536).tmod 256 = k.num / 65536 % 256 := by rw [Int.tdiv_eq_ediv_of_nonneg h0, Int.tmod_eq_emod_of_nonneg (by omega)]
  have e3 : (k.num.tdiv 256).tmod 256 = k.num / 256 % 256 := by rw [Int.tdiv_eq_ediv_of_nonneg h0, Int.tmod_eq_emod_of_nonneg (by omega)]
  have e4 : k.num.tmod 256 = k.num % 256 := Int.tmod_eq_emod_of_nonneg h0
  have f : toBytes (four k.num) = [b8 (k.num / 16777216), b8 (k.num / 65536 % 256), b8 (k.num / 256 % 256), b8 (k.num % 256)] := by
    simp only [four, toBytes, List.map_cons, List.map_nil]
    rw [toBytes_b8 (by omega) (by omega), toBytes_b8 (by omega) (by omega), toBytes_b8 (by omega) (by omega), toBytes_b8 (by omega) (by omega)]
  have ek : ∀ l, keyPart l = fieldB 21 l := fun l => rfl
  have ep : b8 (k.pin.size : Int) :: padTo 8 (Bs k.pin) = fieldB 9 (Bs k.pin) := by rw [fieldB, Bs_len]
  rw [Kep.body, Kep.head, e1, e2, e3, e4, f, ek, ek, ek, ek, ← ep]
  simp
theorem Kep.img_raw (h : k.good) : k.img = k.raw (b8 (1 + sumB k.body)) := by
  rw [Kep.img, closed, Kep.raw, Kep.body_eq h, Go.Proofs.YtaokemapkgggoaaDoor.raw]
  simp
theorem Kep.raw_num (h : k.good) : numOf (k.raw x) = k.num := by
  have h0 := h.n0
  have h1 := h.n1
  rw [Kep.raw, Go.Proofs.YtaokemapkgggoaaDoor.raw_num (four_len _) h.lp h.l0 h.l1 h.l2 h.l3]
  have e : ∀ i, bAt (toBytes (four k.num)) i = (four k.num).getD i 0 := by intro i; rw [bAt, bytesI_toBytes (four_B (by unfold isW; omega))]
  rw [e, e, e, e]
  show word4 (k.num / 16777216) (k.num / 65536 % 256) (k.num / 256 % 256) (k.num % 256) = k.num
  unfold word4
  omega
theorem Kep.raw_tries (h : k.good) : bAt (k.raw x) 5 = k.tries := by
  have h0 := h.t0
  have h1 := h.t1
  rw [Kep.raw, raw_five (four_len _) h.lp h.l0 h.l1 h.l2 h.l3, b8_toNat]
  omega
theorem Kep.raw_set5 (h : k.good) (t : Int) : (k.raw x).set 5 (b8 t) = ({ k with tries := t } : Kep).raw x := Go.Proofs.YtaokemapkgggoaaDoor.raw_set5 (four_len _) h.lp h.l0 h.l1 h.l2 h.l3 _
theorem Kep.raw_turned (h : k.good) (hn : k.num + 1 < 4294967296) : turned (k.raw x) = (k.next (k.num + 1)).img := by
  have h0 := h.n0
  have hg : (k.next (k.num + 1)).good := ⟨by simp only [Kep.next]; omega, by simp only [Kep.next]; omega, h.t0, h.t1, h.pin, h.k0, h.k1, h.k2, h.k3⟩
  have hy : k.num + 1 = (numOf (k.raw x) + 1) % 4294967296 := by rw [Kep.raw_num h]; omega
  rw [Kep.img_raw hg, Kep.body_eq hg]
  exact Go.Proofs.YtaokemapkgggoaaDoor.raw_turned (four_len _) h.lp h.l0 h.l1 h.l2 h.l3 (k.num + 1) hy
theorem Kep.img_length (h : k.good) : k.img.length = 100 := by rw [Kep.img_raw h]; exact Kep.raw_length h
theorem Kep.raw_pin (h : k.good) (p : ByteArray) : (k.raw x).take 6 ++ fieldB 9 (Bs p) ++ (k.raw x).drop 15 = (k.withPin p).raw x := by
  rw [Kep.raw, raw_front (four_len _) h.lp h.l0 h.l1 h.l2 h.l3, raw_keys (four_len _) h.lp h.l0 h.l1 h.l2 h.l3, Kep.raw, Go.Proofs.YtaokemapkgggoaaDoor.raw]
  simp [Kep.withPin]
theorem Kep.raw_bare (h : k.good) : (k.raw x).take 15 ++ List.replicate 84 0 ++ (k.raw x).drop 99 = k.bare.raw x := by
  rw [Kep.raw, raw_take15 (four_len _) h.lp h.l0 h.l1 h.l2 h.l3, raw_check (four_len _) h.lp h.l0 h.l1 h.l2 h.l3, Kep.raw, Go.Proofs.YtaokemapkgggoaaDoor.raw]
  have e : fieldB 21 (Bs ⟨#[]⟩) = List.replicate 21 0 := rfl
  simp only [Kep.bare, e]
  simp
theorem Kep.raw_put (h : k.good) (i : Nat) (q : ByteArray) (hi : i < 4) : (k.raw x).take (15 + 21 * i) ++ fieldB 21 (Bs q) ++ (k.raw x).drop (15 + 21 * i + 21) = (k.put i q).raw x := by
  rcases (by omega : i = 0 ∨ i = 1 ∨ i = 2 ∨ i = 3) with rfl | rfl | rfl | rfl
  · rw [Kep.raw]
    show List.take 15 _ ++ _ ++ List.drop 36 _ = _
    rw [raw_take15 (four_len _) h.lp h.l0 h.l1 h.l2 h.l3, raw_keys1 (four_len _) h.lp h.l0 h.l1 h.l2 h.l3]
    simp [Kep.put, Kep.raw, Go.Proofs.YtaokemapkgggoaaDoor.raw]
  · rw [Kep.raw]
    show List.take 36 _ ++ _ ++ List.drop 57 _ = _
    rw [raw_take36 (four_len _) h.lp h.l0 h.l1 h.l2 h.l3, raw_keys2 (four_len _) h.lp h.l0 h.l1 h.l2 h.l3]
    simp [Kep.put, Kep.raw, Go.Proofs.YtaokemapkgggoaaDoor.raw]
  · rw [Kep.raw]
    show List.take 57 _ ++ _ ++ List.drop 78 _ = _
    rw [raw_take57 (four_len _) h.lp h.l0 h.l1 h.l2 h.l3, raw_keys3 (four_len _) h.lp h.l0 h.l1 h.l2 h.l3]
    simp [Kep.put, Kep.raw, Go.Proofs.YtaokemapkgggoaaDoor.raw]
  · rw [Kep.raw]
    show List.take 78 _ ++ _ ++ List.drop 99 _ = _
    rw [raw_take78 (four_len _) h.lp h.l0 h.l1 h.l2 h.l3, raw_check (four_len _) h.lp h.l0 h.l1 h.l2 h.l3]
    simp [Kep.put, Kep.raw, Go.Proofs.YtaokemapkgggoaaDoor.raw]
theorem Kep.raw_pinAt (h : k.good) : fieldAt (k.raw x) 6 9 = fieldB 9 (Bs k.pin) := by
  rw [fieldAt, Kep.raw, Go.Proofs.YtaokemapkgggoaaDoor.raw_pin (four_len _) h.lp h.l0 h.l1 h.l2 h.l3, take_left' h.lp]
theorem Kep.raw_keyAt (h : k.good) (i : Nat) (hi : i < 4) : fieldAt (k.raw x) (15 + 21 * i) 21 = fieldB 21 (Bs (k.key i)) := by
  rcases (by omega : i = 0 ∨ i = 1 ∨ i = 2 ∨ i = 3) with rfl | rfl | rfl | rfl
  · rw [fieldAt, Kep.raw]
    show List.take 21 (List.drop 15 _) = _
    rw [raw_keys (four_len _) h.lp h.l0 h.l1 h.l2 h.l3, take_left' h.l0]
    rfl
  · rw [fieldAt, Kep.raw]
    show List.take 21 (List.drop 36 _) = _
    rw [raw_keys1 (four_len _) h.lp h.l0 h.l1 h.l2 h.l3, take_left' h.l1]
    rfl
  · rw [fieldAt, Kep.raw]
    show List.take 21 (List.drop 57 _) = _
    rw [raw_keys2 (four_len _) h.lp h.l0 h.l1 h.l2 h.l3, take_left' h.l2]
    rfl
  · rw [fieldAt, Kep.raw]
    show List.take 21 (List.drop 78 _) = _
    rw [raw_keys3 (four_len _) h.lp h.l0 h.l1 h.l2 h.l3, take_left' h.l3]
    rfl
theorem Kep.good.key (h : k.good) (i : Nat) : (k.key i).size ≤ 20 := by
  unfold Kep.key
  repeat' split
  · exact h.k0
  · exact h.k1
  · exact h.k2
  · exact h.k3
end
theorem bAt_field (l : List UInt8) (a n j : Nat) (hj : j < n) : bAt l (a + j) = bAt (fieldAt l a n) j := by
  unfold bAt bytesI fieldAt
  rw [List.getD_eq_getElem?_getD, List.getD_eq_getElem?_getD, List.getElem?_map, List.getElem?_map, List.getElem?_take, if_pos hj, List.getElem?_drop]
theorem field_first (n : Nat) (b : ByteArray) (h : b.size < 256) : bAt (fieldB n (Bs b)) 0 = b.size := by
  unfold fieldB bAt bytesI
  rw [List.map_cons, List.getD_cons_zero, b8_toNat, Bs_len]
  omega
theorem field_rest (n : Nat) (b : ByteArray) (h : b.size < n) : restZero (fieldB n (Bs b)) (1 + b.size) := by
  intro i h1 h2
  rw [fieldB_len n b h] at h2
  obtain ⟨j, rfl⟩ : ∃ j, i = j + 1 := ⟨i - 1, by omega⟩
  unfold fieldB bAt bytesI padTo
  rw [List.map_cons, List.getD_cons_succ, List.map_append, List.getD_eq_getElem?_getD, List.getElem?_append_right (by rw [List.length_map, Bs_len]; omega), List.getElem?_map, List.length_map, List.getElem?_replicate]
  split <;> rfl
section
variable {k : Kep} {x : UInt8}
theorem Kep.raw_key0 (h : k.good) (i : Nat) (hi : i < 4) : bAt (k.raw x) (15 + 21 * i) = (k.key i).size := by
  have := bAt_field (k.raw x) (15 + 21 * i) 21 0 (by omega)
  rw [Nat.add_zero] at this
  rw [this, Kep.raw_keyAt h i hi, field_first 21 _ (by have := h.key i; omega)]
theorem Kep.raw_pin0 (h : k.good) : bAt (k.raw x) 6 = k.pin.size := by
  have := bAt_field (k.raw x) 6 9 0 (by omega)
  rw [Nat.add_zero] at this
  rw [this, Kep.raw_pinAt h, field_first 9 _ (by have := h.pin; omega)]
theorem Kep.raw_bits (h : k.good) : ∀ i, i ≤ 4 → pbits (k.raw x) i = k.bits i
  | 0, _ => rfl
  | i + 1, hi => by
    rw [pbits, Kep.bits, Kep.raw_bits h i (by omega), Kep.raw_key0 h i (by omega)]
    congr 1
    by_cases hz : (k.key i).size = 0
    · rw [if_pos (by omega), if_pos hz]
    · rw [if_neg (by omega), if_neg hz]
theorem Kep.img_right (h : k.good) (hn : 1 ≤ k.num) (hp : 1 ≤ k.pin.size) : RightL k.img := by
  have hb : ∀ y, k.raw y = k.img → RightL k.img := by
    intro y hy
    have hy' := hy
    rw [Kep.img_raw h] at hy'
    rw [← hy]
    refine ⟨Kep.raw_length h, rfl, by rw [Kep.raw_num h]; omega, by rw [Kep.raw_tries h]; exact h.t1, by rw [Kep.raw_pin0 h]; omega, ⟨k.pin.size, ?_, by have := h.pin; omega, ?_⟩, ?_, ?_⟩
    · rw [Kep.raw_pinAt h, field_first 9 _ (by have := h.pin; omega)]
    · rw [Kep.raw_pinAt h]; exact field_rest 9 _ (by have := h.pin; omega)
    · intro i hi
      refine ⟨(k.key i).size, ?_, by have := h.key i; omega, ?_⟩
      · rw [Kep.raw_keyAt h i hi, field_first 21 _ (by have := h.key i; omega)]
      · rw [Kep.raw_keyAt h i hi]; exact field_rest 21 _ (by have := h.key i; omega)
    · rw [hy']
      rw [Kep.raw, raw_last (four_len _) h.lp h.l0 h.l1 h.l2 h.l3, chkOf, raw_mid (four_len _) h.lp h.l0 h.l1 h.l2 h.l3, ← Kep.body_eq h, b8_toNat]
  exact hb _ (Kep.img_raw h).symm
theorem Kep.img_set0 (h : k.good) : k.img.set 0 167 = k.img := rfl
end
/-- the first image -/
theorem first_img (p : ByteArray) (h : p.size ≤ 8) : (turned (rawFirst (fieldB 9 (Bs p)))).set 0 167 = Kep.img ⟨1, 5, p, ⟨#[]⟩, ⟨#[]⟩, ⟨#[]⟩, ⟨#[]⟩⟩ := by
  have hg : Kep.good ⟨1, 5, p, ⟨#[]⟩, ⟨#[]⟩, ⟨#[]⟩, ⟨#[]⟩⟩ := ⟨by simp only; omega, by simp only; omega, by simp only; omega, by simp only; omega, h, Nat.zero_le _, Nat.zero_le _, Nat.zero_le _, Nat.zero_le _⟩
  have e : rawFirst (fieldB 9 (Bs p)) = raw 0 [0, 0, 0, 0] 5 (fieldB 9 (Bs p)) (fieldB 21 (Bs ⟨#[]⟩)) (fieldB 21 (Bs ⟨#[]⟩)) (fieldB 21 (Bs ⟨#[]⟩)) (fieldB 21 (Bs ⟨#[]⟩)) 0 := by
    have e0 : fieldB 21 (Bs ⟨#[]⟩) = List.replicate 21 0 := rfl
    rw [e0]
    simp only [rawFirst, raw, List.cons_append, List.nil_append]
    rfl
  rw [e, Go.Proofs.YtaokemapkgggoaaDoor.raw_turned rfl hg.lp hg.l0 hg.l1 hg.l2 hg.l3 1 (by rw [Go.Proofs.YtaokemapkgggoaaDoor.raw_num rfl hg.lp hg.l0 hg.l1 hg.l2 hg.l3]; rfl), raw_set0 (four_len _) hg.lp hg.l0 hg.l1 hg.l2 hg.l3, Kep.img_raw hg, Kep.body_eq hg]
  rfl
end Go.Proofs.YtaokemapkgggoaaDoor

namespace Go.Proofs.YtaokemapkgggoaaDoor
open Go.RowKit

/-- a half in whose middle the power has gone, behind n bytes -/
def tornB (n : Nat) (t : List UInt8) (old : ByteArray) : ByteArray := if n = 0 then old else str (0 :: (t.drop 1).take (n - 1) ++ old.data.toList.drop n)
/-- a write in whose middle the power goes -/
def Dv.torn (d : Dv) (k : Kep) : Dv :=
  { d with h0 := if d.wh = 0 then d.h0 else tornB d.cut.toNat (k.next (d.k.num + 1)).img d.h0, h1 := if d.wh = 0 then tornB d.cut.toNat (k.next (d.k.num + 1)).img d.h1 else d.h1, off := true, unl := false }
/-- a write -/
def Dv.put (d : Dv) (k : Kep) : Dv := if 0 ≤ d.cut ∧ d.cut < 101 then d.torn k else d.wrote k
def Dv.puts (d : Dv) : Bool := decide (¬ (0 ≤ d.cut ∧ d.cut < 101))
theorem torn_str (n : Nat) (hn : 1 ≤ n) (im old : ByteArray) (t : List UInt8) (him : im = str t) : (⟨#[0]⟩ : ByteArray) ++ im.extract 1 n ++ old.extract n old.size = tornB n t old := by
  unfold tornB
  rw [if_neg (by omega)]
  apply ByteArray.ext
  apply Array.toList_inj.1
  rw [ByteArray.data_append, ByteArray.data_append, Array.toList_append, Array.toList_append, him]
  have e1 : ((str t).extract 1 n).data.toList = (t.drop 1).take (n - 1) := by
    rw [ByteArray.data_extract, Array.toList_extract, List.extract_eq_take_drop]
    rfl
  have e2 : (old.extract n old.size).data.toList = old.data.toList.drop n := by
    rw [ByteArray.data_extract, Array.toList_extract, List.extract_eq_take_drop]
    exact List.take_of_length_le (by rw [List.length_drop, Array.length_toList]; exact Nat.le_refl _)
  rw [e1, e2]
  rfl

end Go.Proofs.YtaokemapkgggoaaDoor

namespace Go.Proofs.YtaokemapkgggoaaDoor
open Go.RowKit

/-- a write that the power bears to its end -/
def whole (c : Int) : Prop := c < 0 ∨ (101 ≤ c ∧ c ≤ 9223372036854775807)
/-- what stands in a device whose power may go -/
structure Dv.sound (d : Dv) : Prop where
  n0 : 1 ≤ d.k.num
  n1 : d.k.num ≤ 4294967295
  t0 : 0 ≤ d.k.tries
  t1 : d.k.tries ≤ 5
  p0 : 1 ≤ d.k.pin.size
  p1 : d.k.pin.size ≤ 8
  k0 : d.k.k0.size ≤ 20
  k1 : d.k.k1.size ≤ 20
  k2 : d.k.k2.size ≤ 20
  k3 : d.k.k3.size ≤ 20
  wh : d.wh = 0 ∨ d.wh = 1
  c1 : d.cut ≤ 9223372036854775807
  s0 : d.h0.size = 100
  s1 : d.h1.size = 100
theorem Dv.sound.good {d : Dv} (h : d.sound) : d.k.good := ⟨by have := h.n0; omega, by have := h.n1; omega, h.t0, h.t1, h.p1, h.k0, h.k1, h.k2, h.k3⟩
theorem Dv.sound.next {d : Dv} {k : Kep} (h : d.sound) (hw : ¬ 4294967295 ≤ d.k.num) (hk : k.good) : (k.next (d.k.num + 1)).good :=
  ⟨by have := h.n0; simp only [Kep.next]; omega, by simp only [Kep.next]; omega, hk.t0, hk.t1, hk.pin, hk.k0, hk.k1, hk.k2, hk.k3⟩
theorem Dv.sound.wrote {d : Dv} {k : Kep} (h : d.sound) (hw : ¬ 4294967295 ≤ d.k.num) (hk : k.good) (hp : 1 ≤ k.pin.size) : (d.wrote k).sound := by
  have n0 := h.n0
  have wh := h.wh
  have c1 := h.c1
  have him : (str (k.next (d.k.num + 1)).img).size = 100 := by rw [str_size]; exact Kep.img_length (h.next hw hk)
  refine ⟨?_, ?_, hk.t0, hk.t1, hp, hk.pin, hk.k0, hk.k1, hk.k2, hk.k3, ?_, ?_, ?_, ?_⟩
  · simp only [Dv.wrote, Kep.next]; omega
  · simp only [Dv.wrote, Kep.next]; omega
  · simp only [Dv.wrote]; omega
  · simp only [Dv.wrote]; split <;> omega
  · simp only [Dv.wrote]; split
    · exact h.s0
    · exact him
  · simp only [Dv.wrote]; split
    · exact him
    · exact h.s1
theorem Dv.sound.lock {d : Dv} (h : d.sound) : d.lock.sound := ⟨h.n0, h.n1, h.t0, h.t1, h.p0, h.p1, h.k0, h.k1, h.k2, h.k3, h.wh, h.c1, h.s0, h.s1⟩
theorem Dv.sound.open {d : Dv} (h : d.sound) : d.open.sound := ⟨h.n0, h.n1, h.t0, h.t1, h.p0, h.p1, h.k0, h.k1, h.k2, h.k3, h.wh, h.c1, h.s0, h.s1⟩
theorem Dv.sound.withIn {d : Dv} (h : d.sound) (l : List UInt8) : ({ d with inn := str l } : Dv).sound := ⟨h.n0, h.n1, h.t0, h.t1, h.p0, h.p1, h.k0, h.k1, h.k2, h.k3, h.wh, h.c1, h.s0, h.s1⟩
theorem tornB_size (n : Nat) (t : List UInt8) (old : ByteArray) (hn : n ≤ 100) (ht : t.length = 100) (ho : old.size = 100) : (tornB n t old).size = 100 := by
  unfold tornB
  split
  · exact ho
  · have hl : old.data.toList.length = 100 := by rw [Array.length_toList]; exact ho
    rw [str_size]
    simp only [List.length_append, List.length_cons, List.length_take, List.length_drop, ht, hl]
    omega
theorem Dv.sound.torn {d : Dv} {k : Kep} (h : d.sound) (hw : ¬ 4294967295 ≤ d.k.num) (hk : k.good) (hc : 0 ≤ d.cut ∧ d.cut < 101) : (d.torn k).sound := by
  have hl := Kep.img_length (h.next hw hk)
  refine ⟨h.n0, h.n1, h.t0, h.t1, h.p0, h.p1, h.k0, h.k1, h.k2, h.k3, h.wh, h.c1, ?_, ?_⟩
  · simp only [Dv.torn]; split
    · exact h.s0
    · exact tornB_size _ _ _ (by omega) hl h.s0
  · simp only [Dv.torn]; split
    · exact tornB_size _ _ _ (by omega) hl h.s1
    · exact h.s1
theorem Dv.sound.put {d : Dv} {k : Kep} (h : d.sound) (hw : ¬ 4294967295 ≤ d.k.num) (hk : k.good) (hp : 1 ≤ k.pin.size) : (d.put k).sound := by
  unfold Dv.put
  split
  · exact h.torn hw hk (by assumption)
  · exact h.wrote hw hk hp
theorem less_goodS {k : Kep} (h : k.good) (ht : ¬ k.tries = 0) : k.less.good := ⟨h.n0, h.n1, by have := h.t0; simp only [Kep.less]; omega, by have := h.t1; simp only [Kep.less]; omega, h.pin, h.k0, h.k1, h.k2, h.k3⟩

/-- a PIN is tried, wherever the power goes -/
def Dv.unlockC (d : Dv) (p : ByteArray) : Dv × Int × List UInt8 :=
  if p.size < 1 ∨ 8 < p.size then (d, 4, [])
  else if d.k.tries = 0 then (d, 5, [])
  else if 4294967295 ≤ d.k.num then (d, 7, [])
  else if 0 ≤ d.cut ∧ d.cut < 101 then (d.torn d.k.less, 0, [])
  else if p ≠ d.k.pin then
    (if d.k.tries - 1 = 0 ∧ ¬ 4294967295 ≤ d.k.num + 1 then (d.wrote d.k.less).lock.put d.k.less.bare else (d.wrote d.k.less).lock, 3, [b8 (d.k.tries - 1)])
  else if 4294967295 ≤ d.k.num + 1 then ((d.wrote d.k.less).lock, 7, [])
  else if 0 ≤ (d.wrote d.k.less).cut ∧ (d.wrote d.k.less).cut < 101 then ((d.wrote d.k.less).torn d.k.less.full, 0, [])
  else (((d.wrote d.k.less).wrote d.k.less.full).open, 0, [])

end Go.Proofs.YtaokemapkgggoaaDoor

namespace Go.Proofs.YtaokemapkgggoaaDoor
open Go.RowKit

theorem whole_of {c : Int} (h : ¬ (0 ≤ c ∧ c < 101)) (h1 : c ≤ 9223372036854775807) : whole c := by unfold whole; omega
/-- what is asked of a slot, wherever the power goes -/
def Dv.slotC (d : Dv) (kind : Int) (p : ByteArray) : Dv × Int × List UInt8 :=
  if kind = 3 ∧ d.unl = true ∧ ¬ (p.size = 0 ∨ 4 ≤ hd0 p) ∧ ¬ 20 < (rest1 p).size ∧ ¬ 4294967295 ≤ d.k.num then (d.put (d.k.put (hd0 p) (rest1 p)), 0, [])
  else d.slot kind p
/-- a command, wherever the power goes -/
def Dv.commandC (d : Dv) (kind : Int) (p : ByteArray) : Dv × Int × List UInt8 :=
  if kind = 1 then d.unlockC p
  else if kind = 3 ∨ kind = 4 ∨ kind = 5 then d.slotC kind p
  else if kind = 6 ∧ d.unl = true ∧ ¬ (p.size < 1 ∨ 8 < p.size) ∧ ¬ 4294967295 ≤ d.k.num then (d.put (d.k.withPin p), 0, [])
  else d.command kind p
theorem Dv.sound.fairPut {d : Dv} (h : d.sound) (n : Nat) (q : ByteArray) (hq : q.size ≤ 20) : (d.k.put n q).fair := by
  have f : d.k.fair := ⟨by have := h.n0; omega, by have := h.n1; omega, by have := h.t0; omega, by have := h.t1; omega, by have := h.p1; omega, by have := h.k0; omega, by have := h.k1; omega, by have := h.k2; omega, by have := h.k3; omega⟩
  unfold Kep.put
  repeat' split
  · exact ⟨f.n0, f.n1, f.t0, f.t1, f.pin, by show q.size < _; omega, f.k1, f.k2, f.k3⟩
  · exact ⟨f.n0, f.n1, f.t0, f.t1, f.pin, f.k0, by show q.size < _; omega, f.k2, f.k3⟩
  · exact ⟨f.n0, f.n1, f.t0, f.t1, f.pin, f.k0, f.k1, by show q.size < _; omega, f.k3⟩
  · exact ⟨f.n0, f.n1, f.t0, f.t1, f.pin, f.k0, f.k1, f.k2, by show q.size < _; omega⟩
theorem Dv.sound.fair {d : Dv} (h : d.sound) : d.k.fair := ⟨by have := h.n0; omega, by have := h.n1; omega, by have := h.t0; omega, by have := h.t1; omega, by have := h.p1; omega, by have := h.k0; omega, by have := h.k1; omega, by have := h.k2; omega, by have := h.k3; omega⟩
theorem put_goodS {k : Kep} {i : Nat} {q : ByteArray} (h : k.good) (hq : q.size ≤ 20) : (k.put i q).good := by
  unfold Kep.put
  repeat' split
  · exact ⟨h.n0, h.n1, h.t0, h.t1, h.pin, hq, h.k1, h.k2, h.k3⟩
  · exact ⟨h.n0, h.n1, h.t0, h.t1, h.pin, h.k0, hq, h.k2, h.k3⟩
  · exact ⟨h.n0, h.n1, h.t0, h.t1, h.pin, h.k0, h.k1, hq, h.k3⟩
  · exact ⟨h.n0, h.n1, h.t0, h.t1, h.pin, h.k0, h.k1, h.k2, hq⟩

theorem command6C (d : Dv) (p : ByteArray) : d.commandC 6 p = (if d.unl = false then (d, 2, []) else if p.size < 1 ∨ 8 < p.size then (d, 4, []) else if 4294967295 ≤ d.k.num then (d, 7, []) else (d.put (d.k.withPin p), 0, [])) := by
  have e : d.command 6 p = (if d.unl = false then (d, 2, []) else if p.size < 1 ∨ 8 < p.size then (d, 4, []) else if 4294967295 ≤ d.k.num then (d, 7, []) else (d.wrote (d.k.withPin p), 0, [])) := by unfold Dv.command; rw [if_neg (by omega), if_neg (by omega), if_neg (by omega), if_neg (by omega), if_pos rfl]
  unfold Dv.commandC
  rw [if_neg (by omega), if_neg (by omega), e]
  by_cases hu : d.unl = false
  · rw [if_neg (fun x => by rw [hu] at x; exact absurd x.2.1 (by simp))]
    simp only [if_pos hu]
  · have hu' : d.unl = true := by simpa using hu
    by_cases h1 : p.size < 1 ∨ 8 < p.size
    · rw [if_neg (fun x => x.2.2.1 h1)]
      simp only [if_neg hu, if_pos h1]
    · by_cases hw : 4294967295 ≤ d.k.num
      · rw [if_neg (fun x => x.2.2.2 hw)]
        simp only [if_neg hu, if_neg h1, if_pos hw]
      · rw [if_pos ⟨rfl, hu', h1, hw⟩]
        simp only [if_neg hu, if_neg h1, if_neg hw]

end Go.Proofs.YtaokemapkgggoaaDoor
