import Derived.Test.YtaokemapkgggoaaDoorKb32
import Derived.BigQuiet
namespace Go.Proofs.YtaokemapkgggoaaDoor
open Go.RowKit

theorem hd0_cons (x : UInt8) (l : List UInt8) : hd0 (str (x :: l)) = x.toNat := by
  unfold hd0
  rw [str_list]
  rfl
theorem rest1_cons (x : UInt8) (l : List UInt8) : rest1 (str (x :: l)) = str l := by
  unfold rest1
  apply ByteArray.ext
  apply Array.toList_inj.1
  rw [ByteArray.data_extract, Array.toList_extract, List.extract_eq_take_drop, str_list, str_list, str_size]
  simp

/-- a device with power that will not go, and that waits for nothing -/
structure Up (d : Dv) : Prop where
  off : d.off = false
  inn : d.inn = ⟨#[]⟩
  cut : d.cut < 0
section
variable {d : Dv}
theorem Up.put (U : Up d) (k : Kep) : d.put k = d.wrote k := by
  unfold Dv.put
  exact if_neg (by have := U.cut; omega)
theorem Up.wrote (U : Up d) (k : Kep) : Up (d.wrote k) := ⟨U.off, U.inn, by show (if d.cut < 0 then d.cut else d.cut - 101) < 0; rw [if_pos U.cut]; exact U.cut⟩
theorem fed_slot (U : Up d) (ki : Int) (hk : ki = 4 ∨ ki = 5) (p : List UInt8) (hp : p.length ≤ 48) {st : Int} {r : List UInt8} (h : d.slot ki (str p) = (d, st, r)) : fed d (told ki p) = (told st r, d) := by
  refine fed_on ki p (by omega) (by omega) hp U.off U.inn ?_ U.off U.inn
  rw [Dv.commandC_command (by omega) (by omega) (by omega)]
  unfold Dv.command
  rw [if_neg (by omega), if_neg (by omega), if_neg (by omega), if_pos (by omega)]
  exact h
theorem slot_ok (x : UInt8) (hx : x.toNat < 4) (m : List UInt8) : ¬ ((str (x :: m)).size = 0 ∨ 4 ≤ hd0 (str (x :: m))) := by
  rw [hd0_cons, str_size]
  simp
  omega
/-- nothing is told by a slot without a key -/
theorem fed_none4 (U : Up d) (hu : d.unl = true) (x : UInt8) (hx : x.toNat < 4) (m : List UInt8) (hm : m.length ≤ 47) (hk : (d.k.key x.toNat).size = 0) : fed d (told 4 (x :: m)) = (told 5 [], d) := by
  refine fed_slot U 4 (.inl rfl) (x :: m) (by simp; omega) ?_
  unfold Dv.slot
  rw [if_neg (by rw [hu]; decide), if_neg (slot_ok x hx m), if_neg (fun e => absurd e.1 (by omega)), if_neg (fun e => absurd e.1 (by omega)), if_neg (by omega), if_neg (fun e => absurd e.1 (by omega)), if_pos (by rw [hd0_cons]; exact hk)]
theorem key_list {k : ByteArray} (h : k.size ≤ 20) : k.data.toList.length ≤ 20 := by rw [Array.length_toList]; exact h
/-- a seal -/
theorem fed_seal (U : Up d) (hu : d.unl = true) (x : UInt8) (hx : x.toNat < 4) (m : List UInt8) (hm : m.length ≤ 47) (hk : ¬ (d.k.key x.toNat).size = 0) (hk2 : (d.k.key x.toNat).size ≤ 20) :
    fed d (told 4 (x :: m)) = (told 0 (toBytes (sealSpec (blk 20 (d.k.key x.toNat).data.toList) m)), d) := by
  refine fed_slot U 4 (.inl rfl) (x :: m) (by simp; omega) ?_
  unfold Dv.slot
  rw [if_neg (by rw [hu]; decide), if_neg (slot_ok x hx m), if_neg (fun e => absurd e.1 (by omega)), if_neg (fun e => absurd e.1 (by omega)), if_neg (by omega), if_neg (fun e => absurd e.1 (by omega)), if_neg (by rw [hd0_cons]; exact hk), if_neg (by omega)]
  rw [hd0_cons, rest1_cons, str_list, refSeal_eq (key_list hk2)]
end

theorem key_le {d : Dv} (h : d.sound) (n : Nat) : (d.k.key n).size ≤ 20 := by
  unfold Kep.key
  repeat' split
  · exact h.k0
  · exact h.k1
  · exact h.k2
  · exact h.k3

/-- an unlocked device whose slots have these keys -/
structure Fine (p : List UInt8) (m : Int) (ss : List ByteArray) (d : Dv) : Prop where
  up : Up d
  unl : d.unl = true
  pin : d.k.pin = str p
  tries : d.k.tries = 5
  num : d.k.num ≤ m
  len : ss.length = 4
  key : ∀ n, n < 4 → d.k.key n = ss.getD n ⟨#[]⟩
/-- what is told of the seal of a message by a slot with this key -/
def sealTold (k : ByteArray) (m : List UInt8) : List UInt8 := if k.size = 0 then told 5 [] else told 0 (toBytes (sealSpec (blk 20 k.data.toList) m))
theorem Fine.seal {p : List UInt8} {m : Int} {ss : List ByteArray} {d : Dv} (F : Fine p m ss d) (S : d.sound) (x : UInt8) (n : Nat) (hx : x.toNat = n) (hn : n < 4) (t : List UInt8) (ht : t.length ≤ 47) :
    fed d (told 4 (x :: t)) = (sealTold (ss.getD n ⟨#[]⟩) t, d) := by
  subst hx
  have hk := F.key x.toNat hn
  unfold sealTold
  by_cases hz : (ss.getD x.toNat ⟨#[]⟩).size = 0
  · rw [if_pos hz]
    exact fed_none4 F.up F.unl x hn t ht (by rw [hk]; exact hz)
  · rw [if_neg hz]
    have := fed_seal F.up F.unl x hn t ht (by rw [hk]; exact hz) (key_le S _)
    rw [hk] at this
    exact this
theorem Fine.key_le {p : List UInt8} {m : Int} {ss : List ByteArray} {d : Dv} (F : Fine p m ss d) (S : d.sound) (n : Nat) (hn : n < 4) : (ss.getD n ⟨#[]⟩).size ≤ 20 := by
  rw [← F.key n hn]
  exact Proofs.YtaokemapkgggoaaDoor.key_le S n
end Go.Proofs.YtaokemapkgggoaaDoor

namespace Go.Proofs.YtaokemapkgggoaaDoor
open Go.RowKit

end Go.Proofs.YtaokemapkgggoaaDoor

namespace Go.Proofs.YtaokemapkgggoaaDoor
open Go.RowKit

/-- texts as cells -/
def strs (ss : List ByteArray) : List Value := ss.map Value.string
theorem strs_get (ss : List ByteArray) (n : Nat) (h : n < ss.length) : (strs ss)[n]? = some (.string (ss.getD n ⟨#[]⟩)) := by
  simp [strs, List.getD_eq_getElem?_getD, h]
/-- fine's own memory: what it answers with, and what its slots have -/
structure HasAt (w wr : World) (g : Nat) (d : Dv) (ss : List ByteArray) : Prop where
  kd : KdAt w wr g d
  out : Row wr w.heap.size (zrow 4 (.string ⟨#[]⟩)) 45
  has : Row wr (w.heap.size + 1) (strs ss) 45
  low : w.heap.size + 2 ≤ g
section
variable {w wr wr' : World} {g : Nat} {d e : Dv} {ss : List ByteArray}
theorem HasAt.next (H : HasAt w wr g d ss) (hb : Below wr.heap.size wr wr') : HasAt w wr' g d ss := ⟨H.kd.next hb, H.out.below hb H.out.lt, H.has.below hb H.has.lt, H.low⟩
theorem HasAt.cell (H : HasAt w wr g d ss) (n : Nat) (hn : n < ss.length) : wr.cell? ⟨w.heap.size + 1, n, none⟩ = some (.string (ss.getD n ⟨#[]⟩)) := by rw [H.has.cell, strs_get _ _ hn]
end

end Go.Proofs.YtaokemapkgggoaaDoor

namespace Go.Proofs.YtaokemapkgggoaaDoor
open Go.RowKit

/-- a device, and a table of four texts beside it -/
structure HoldAt (w wr : World) (g : Nat) (d : Dv) (hb : Nat) (ss : List ByteArray) : Prop where
  kd : KdAt w wr g d
  has : Row wr hb (strs ss) 45
  low : w.heap.size ≤ hb
  ne : ¬ hb = g
section
variable {w wr wr' : World} {g hb : Nat} {d e : Dv} {ss : List ByteArray}
theorem HoldAt.next (H : HoldAt w wr g d hb ss) (hx : Below wr.heap.size wr wr') : HoldAt w wr' g d hb ss := ⟨H.kd.next hx, H.has.below hx H.has.lt, H.low, H.ne⟩
theorem HoldAt.cell (H : HoldAt w wr g d hb ss) (n : Nat) (hn : n < ss.length) : wr.cell? ⟨hb, n, none⟩ = some (.string (ss.getD n ⟨#[]⟩)) := by rw [H.has.cell, strs_get _ _ hn]
theorem HoldAt.glob (H : HoldAt w wr g d hb ss) (G : Glob w) : Glob wr := G.below H.kd.base (Nat.le_refl _)
end
theorem sealSpec_length (kb : List Int) (l : List UInt8) : (sealSpec kb l).length = 32 := sumSpec_length _ (blockOn_w8 W8_H0) _ _
theorem sealSpec_B (kb : List Int) (l : List UInt8) : ∀ x ∈ sealSpec kb l, isB x := sumSpec_B _ (blockOn_w8 W8_H0) _ _

end Go.Proofs.YtaokemapkgggoaaDoor

namespace Go.Proofs.YtaokemapkgggoaaDoor
open Go.RowKit

theorem eight_le (n : Int) (i : Nat) (h0 : 0 ≤ n) : 0 ≤ n / 256 ^ i := Int.ediv_nonneg h0 (Int.pow_nonneg (by omega))
theorem eight_step (n : Int) (i : Nat) : strOfNums [n / 256 ^ i % 256] ++ strOfNums (eightL n i) = strOfNums (eightL n (i + 1)) := by
  rw [strOfNums_str, strOfNums_str, str_append]
  rfl
end Go.Proofs.YtaokemapkgggoaaDoor

namespace Go.Proofs.YtaokemapkgggoaaDoor
open Go.RowKit

theorem strOfNums_app (a b : List Int) : strOfNums a ++ strOfNums b = strOfNums (a ++ b) := by
  rw [strOfNums_str, strOfNums_str, strOfNums_str, str_append]
  unfold toBytes
  rw [List.map_append]
theorem str_nums {s : ByteArray} {l : List Int} (h : s = strOfNums l) : s.data.toList = toBytes l := by rw [h]; rfl
/-- a seal is a sum of sums -/
theorem mix_seal (k : List UInt8) (hk : k.length ≤ 20) (t : List UInt8) : sealSpec (blk 20 k) t = sumSpec K0 H0 0 (toBytes (refMask k 92) ++ toBytes (sumSpec K0 H0 0 (toBytes (refMask k 54) ++ t))) := by
  rw [← refSeal_eq hk]
  unfold refSeal
  rw [sumSpecRef_eq, sumSpecRef_eq]
/-- a code is taken out of a seal -/
theorem mix_code (k : List UInt8) (hk : k.length ≤ 20) (n : Int) : codeSpec (blk 20 k) n = digL (refWord (sealSpec (blk 20 k) (toBytes (eightL n 8)))) 6 := by
  rw [← refCode_eq hk, refSeal_eq hk]
/-- a seal in memory -/
structure MixW (w wr : World) (b : Nat) (sv : List Int) : Prop where
  base : Below w.heap.size w wr
  row : Row wr b (u8s sv) 24
section
variable {w wr wr' : World} {b : Nat} {sv : List Int}
theorem MixW.next (H : MixW w wr b sv) (hb : Below wr.heap.size wr wr') : MixW w wr' b sv := ⟨H.base.trans (hb.mono H.base.size), H.row.below hb H.row.lt⟩
theorem MixW.glob (H : MixW w wr b sv) (G : Glob w) : Glob wr := G.below H.base (Nat.le_refl _)
end
theorem u8s_bcells {sv : List Int} (h : ∀ x ∈ sv, isB x) : u8s sv = bcells (toBytes sv) := by
  have e := bytesI_toBytes h
  conv => lhs; rw [← e]
  unfold u8s bcells bytesI
  rw [List.map_map]
  rfl
theorem equal_32 (w : World) {sv : List Int} (hl : sv.length = 32) (h : ∀ x ∈ sv, isB x) : (Op.equalIn 10000 24 (.agg (u8s sv).toArray) (.agg (u8s sv).toArray)).run Tryd.prog w = .ok true w := by
  have e : (Op.equalIn 10000 24 (.agg (bcells (toBytes sv)).toArray) (.agg (bcells (toBytes sv)).toArray)).run Tryd.prog w = .ok (toBytes sv == toBytes sv) w := run_equalIn_bytes w 9998 24 5 32 under32b under_u8 (by intro w; kernel_rfl) (toBytes sv) (toBytes sv) (by rw [toBytes_length, hl]) (by rw [toBytes_length, hl])
  rw [beq_self_eq_true] at e
  rw [u8s_bcells h]
  exact e
theorem wpList_loadRG {P : Program} {ops : Array Oper} {rest : List Oper} {o : Oper} {a : Act} {w : World} {Q : Exit → Act → World → Prop} (hw : Region.wanted o (yielded ops a.tmps) = true) (ty : TypeId) (x : Operand) (ho : o.op = .load ty x) (g : Nat) (hx : a.eval x = .pointer (some ⟨g, 0, none⟩)) (t : TypeId) (cs : List Value) (n : Nat) (z : Value)
    (hr : Row w g cs t) (ht : ArrT P ty n z) (hn : cs.length = n) (h : wpList P ops Q rest (a.put o.dst (.agg cs.toArray)) w) : wpList P ops Q (o :: rest) a w :=
  wpList_step fun K hK => by
    rw [if_pos hw]
    exact wp_loadR ty x ho g hx t cs n z hr ht hn (hK _ _ h)
end Go.Proofs.YtaokemapkgggoaaDoor
