import Derived.Test.YtaokemapkgggoaaDoorKb32
import Derived.Test.YtaokemapkgggoaaDoorKb26
namespace Go.Proofs.YtaokemapkgggoaaDoor
open Go.RowKit

theorem hd0_cons (x : UInt8) (l : List UInt8) : hd0 (str (x :: l)) = x.toNat := by
  unfold hd0
  rw [str_list]
  rfl
theorem rest1_cons (x : UInt8) (l : List UInt8) : rest1 (str (x :: l)) = str l := by
  unfold rest1
  apply ByteArray.ext
  apply Array.toList_inj.1
  rw [ByteArray.data_extract, Array.toList_extract, List.extract_eq_take_drop, str_list, str_list, str_size]
  simp

/-- a device with power that will not go, and that waits for nothing -/
structure Up (d : Dv) : Prop where
  off : d.off = false
  inn : d.inn = ⟨#[]⟩
  cut : d.cut < 0
section
variable {d : Dv}
theorem Up.put (U : Up d) (k : Kep) : d.put k = d.wrote k := by
  unfold Dv.put
  exact if_neg (by have := U.cut; omega)
theorem Up.wrote (U : Up d) (k : Kep) : Up (d.wrote k) := ⟨U.off, U.inn, by show (if d.cut < 0 then d.cut else d.cut - 101) < 0; rw [if_pos U.cut]; exact U.cut⟩
theorem Up.lock (U : Up d) : Up d.lock := ⟨U.off, U.inn, U.cut⟩
theorem fresh_up (p : ByteArray) : Up (Dv.fresh 0 p) := ⟨rfl, rfl, by show (-1 : Int) < 0; omega⟩
/-- the right PIN -/
theorem fed_right (U : Up d) (p : List UInt8) (hp : d.k.pin = str p) (h1 : 1 ≤ p.length) (h2 : p.length ≤ 8) (ht : ¬ d.k.tries = 0) (hn : d.k.num + 2 < 4294967295) :
    ∃ e, fed d (told 1 p) = (told 0 [], e) ∧ Up e ∧ e.unl = true ∧ e.k = ({ d.k with tries := 5, num := d.k.num + 1 + 1 } : Kep) := by
  have hn0 : ¬ (0 ≤ d.cut ∧ d.cut < 101) := by have := U.cut; omega
  have U1 := U.wrote d.k.less
  have U2 := U1.wrote d.k.less.full
  refine ⟨((d.wrote d.k.less).wrote d.k.less.full).open, ?_, ⟨U2.off, U2.inn, U2.cut⟩, rfl, rfl⟩
  refine fed_on 1 p (by omega) (by omega) (by omega) U.off U.inn ?_ U2.off U2.inn
  unfold Dv.commandC
  rw [if_pos rfl]
  unfold Dv.unlockC
  rw [if_neg (by rw [str_size]; omega), if_neg ht, if_neg (by omega), if_neg hn0, if_neg (by rw [hp]; exact fun x => x rfl), if_neg (by omega), if_neg (by have := U1.cut; omega)]
/-- a key is set -/
theorem fed_set (U : Up d) (hu : d.unl = true) (x : UInt8) (hx : x.toNat < 4) (l : List UInt8) (hl : l.length ≤ 20) (hw : d.k.num < 4294967295) :
    fed d (told 3 (x :: l)) = (told 0 [], d.wrote (d.k.put x.toNat (str l))) := by
  have U1 := U.wrote (d.k.put x.toNat (str l))
  refine fed_on 3 (x :: l) (by omega) (by omega) (by simp; omega) U.off U.inn ?_ U1.off U1.inn
  unfold Dv.commandC
  rw [if_neg (by omega), if_pos (.inl rfl)]
  unfold Dv.slotC
  rw [hd0_cons, rest1_cons, if_pos ⟨rfl, hu, by rw [str_size]; simp; omega, by rw [str_size]; omega, by omega⟩, U.put]
end

/-- what stands in a slot behind a set -/
theorem put_key (k : Kep) (n m : Nat) (b : ByteArray) (hn : n < 4) (hm : m < 4) : (k.put n b).key m = if m = n then b else k.key m := by
  rcases (by omega : n = 0 ∨ n = 1 ∨ n = 2 ∨ n = 3) with rfl | rfl | rfl | rfl <;> rcases (by omega : m = 0 ∨ m = 1 ∨ m = 2 ∨ m = 3) with rfl | rfl | rfl | rfl <;> rfl
theorem kput_pin (k : Kep) (n : Nat) (b : ByteArray) : (k.put n b).pin = k.pin := by
  unfold Kep.put
  repeat' split
  all_goals rfl
theorem kput_tries (k : Kep) (n : Nat) (b : ByteArray) : (k.put n b).tries = k.tries := by
  unfold Kep.put
  repeat' split
  all_goals rfl
theorem next_key (k : Kep) (n : Int) (m : Nat) : (k.next n).key m = k.key m := rfl
/-- an unlocked device whose slots have these keys -/
structure Fine (p : List UInt8) (m : Int) (ss : List ByteArray) (d : Dv) : Prop where
  up : Up d
  unl : d.unl = true
  pin : d.k.pin = str p
  tries : d.k.tries = 5
  num : d.k.num ≤ m
  len : ss.length = 4
  key : ∀ n, n < 4 → d.k.key n = ss.getD n ⟨#[]⟩
theorem Fine.set {p : List UInt8} {m : Int} {ss : List ByteArray} {d : Dv} (F : Fine p m ss d) (x : UInt8) (n : Nat) (hx : x.toNat = n) (hn : n < 4) (l : List UInt8) (hl : l.length ≤ 20) (hm : m < 4294967295) :
    ∃ e, fed d (told 3 (x :: l)) = (told 0 [], e) ∧ Fine p (m + 1) (ss.set n (str l)) e := by
  subst hx
  have hnum := F.num
  refine ⟨_, fed_set F.up F.unl x hn l hl (by omega), F.up.wrote _, F.unl, (kput_pin _ _ _).trans F.pin, (kput_tries _ _ _).trans F.tries, by show d.k.num + 1 ≤ _; omega, by rw [List.length_set]; exact F.len, fun j hj => ?_⟩
  show ((d.k.put x.toNat (str l)).next _).key j = _
  rw [next_key, put_key _ _ _ _ hn hj, List.getD_eq_getElem?_getD, List.getElem?_set, F.len]
  by_cases hji : j = x.toNat
  · rw [if_pos hji, if_pos hji.symm, if_pos hn]; rfl
  · rw [if_neg hji, if_neg (fun e => hji e.symm), F.key j hj, List.getD_eq_getElem?_getD]

/-- a device, locked or not, whose slots have these keys -/
structure Kept5 (p : List UInt8) (m : Int) (ss : List ByteArray) (d : Dv) : Prop where
  up : Up d
  pin : d.k.pin = str p
  tries : d.k.tries = 5
  num : d.k.num ≤ m
  len : ss.length = 4
  key : ∀ n, n < 4 → d.k.key n = ss.getD n ⟨#[]⟩
theorem Kept5.right {p : List UInt8} {m : Int} {ss : List ByteArray} {d : Dv} (F : Kept5 p m ss d) (h1 : 1 ≤ p.length) (h2 : p.length ≤ 8) (hm : m + 2 < 4294967295) :
    ∃ e, fed d (told 1 p) = (told 0 [], e) ∧ Fine p (m + 2) ss e := by
  have hn := F.num
  obtain ⟨e, he, U, hu, hk⟩ := fed_right F.up p F.pin h1 h2 (by rw [F.tries]; omega) (by omega)
  exact ⟨e, he, U, hu, by rw [hk]; exact F.pin, by rw [hk], by rw [hk]; show d.k.num + 1 + 1 ≤ _; omega, F.len, fun n hn => by rw [hk]; exact F.key n hn⟩
end Go.Proofs.YtaokemapkgggoaaDoor

namespace Go.Proofs.YtaokemapkgggoaaDoor
open Go.RowKit

theorem fapp_list (x : ByteArray) (l : List UInt8) : (x ++ str l).data.toList = x.data.toList ++ l := by rw [ByteArray.data_append, Array.toList_append, str_list]
theorem fapp_size (x : ByteArray) (l : List UInt8) : (x ++ str l).size = (x.data.toList ++ l).length := by
  rw [ByteArray.size_append, str_size, List.length_append, Array.length_toList]
  rfl
/-- bytes in two pieces are answered as all at once -/
theorem fed_append (d : Dv) (a b : List UInt8) : fed d (a ++ b) = ((fed d a).1 ++ (fed (fed d a).2 b).1, (fed (fed d a).2 b).2) := by
  unfold fed
  simp only [fapp_list, fapp_size]
  rw [← List.append_assoc]
  exact feedC_append _ d (d.inn.data.toList ++ a) b (Nat.lt_succ_self _) _ _ (Nat.lt_succ_self _) (Nat.lt_succ_self _)
theorem fed_then {d e f : Dv} {a b r s : List UInt8} (h1 : fed d a = (r, e)) (h2 : fed e b = (s, f)) : fed d (a ++ b) = (r ++ s, f) := by
  rw [fed_append, h1]
  dsimp only
  rw [h2]
end Go.Proofs.YtaokemapkgggoaaDoor

namespace Go.Proofs.YtaokemapkgggoaaDoor
open Go.RowKit

/-- two devices of the program's, made behind w -/
structure PairAt (w wr : World) (x : Nat) (d : Dv) (y : Nat) (e : Dv) : Prop where
  one : KdAt w wr x d
  two : KdAt w wr y e
  ne : ¬ x = y
section
variable {w wr wr' : World} {x y : Nat} {d d' e e' : Dv}
theorem PairAt.next (H : PairAt w wr x d y e) (hb : Below wr.heap.size wr wr') : PairAt w wr' x d y e := ⟨H.one.next hb, H.two.next hb, H.ne⟩
theorem PairAt.fed1 (H : PairAt w wr x d y e) (K : KdAt w wr' x d') (hg : wr.grownBy wr' (some x)) : PairAt w wr' x d' y e := ⟨K, H.two.other hg H.one.low (fun h => H.ne h.symm), H.ne⟩
theorem PairAt.fed2 (H : PairAt w wr x d y e) (K : KdAt w wr' y e') (hg : wr.grownBy wr' (some y)) : PairAt w wr' x d y e' := ⟨H.one.other hg H.two.low H.ne, K, H.ne⟩
end

theorem str_take (l : List UInt8) (k : Nat) : (str l).extract 0 k = str (l.take k) := by
  apply ByteArray.ext
  apply Array.toList_inj.1
  rw [ByteArray.data_extract, Array.toList_extract, List.extract_eq_take_drop, str_list, str_list]
  simp
end Go.Proofs.YtaokemapkgggoaaDoor

namespace Go.Proofs.YtaokemapkgggoaaDoor
open Go.RowKit

/-- a frame, of a payload whose bytes are known -/
theorem frame_is (st : Int) (p : ByteArray) (l : List UInt8) (hp : p.data.toList = l) (W : World) (h0 : 0 ≤ st) (h1 : st < 256) (hl : l.length < 1000) (x : ByteArray) (hx : x = str (told st l)) :
    Calls Tryd.prog 16 #[.int .i64 st, .string p] W fun r w' => r = .returned (.string x) ∧ Below W.heap.size W w' := by
  have := keep_frame st p W h0 h1 (by have : p.size = p.data.toList.length := (by rw [Array.length_toList]; rfl); rw [this, hp]; omega)
  rw [hp] at this
  rw [hx]
  exact this
theorem one_str (n : Nat) (b : ByteArray) (l : List UInt8) (hb : b = str l) : (strOfNums [(n : Int)] ++ b).data.toList = UInt8.ofNat n :: l := by
  rw [hb, strOfNums_str, str_append, str_list]
  rfl

end Go.Proofs.YtaokemapkgggoaaDoor

namespace Go.Proofs.YtaokemapkgggoaaDoor
open Go.RowKit

theorem wp_normalK {P : Program} {c : Code} {Q : Exit → Act → World → Prop} {a : Act} {w : World} (h : c.wp P (fun e a' w' => e = .normal ∧ Q .normal a' w') a w) : c.wp P Q a w :=
  wp_mono h fun e a' w' k => by
    obtain ⟨rfl, k⟩ := k
    exact k
/-- a region that draws its order, from a world that is a letter -/
theorem wp_region_letter {P : Program} {ops : Array Oper} {Q : Exit → Act → World → Prop} {S : World → Prop} {id : Nat} {a : Act} {w : World} (hm : P.follows .mixedOrders = true) (hS : S w.drew)
    (h : ∀ w0, S w0 → wpAnyH P .any ops Q S ops.size (Array.replicate ops.size false) a w0) : (Code.region id ops true).wp P Q a w :=
  wp_region_held hm (h _ hS)
theorem row_built (w : World) (n : Int) : Row (w.alloc (.cells #[.int .u8 n] 5)) w.heap.size (u8s [n]) 5 := Row.made w (u8s [n]) 5
theorem below_built (w : World) (o : Obj) : Below w.heap.size w (w.alloc o) := (Below.refl _ _).alloc (Nat.le_refl _) _
end Go.Proofs.YtaokemapkgggoaaDoor
