import Derived.Test.YtaokemapkgggoaaDoorKb32
import Derived.Test.YtaokemapkgggoaaDoorKb26
namespace Go.Proofs.YtaokemapkgggoaaDoor
open Go.RowKit

/-- a device with power that will not go, and that waits for nothing -/
structure Up (d : Dv) : Prop where
  off : d.off = false
  inn : d.inn = ⟨#[]⟩
  cut : d.cut < 0
section
variable {d : Dv}
theorem Up.put (U : Up d) (k : Kep) : d.put k = d.wrote k := by
  unfold Dv.put
  exact if_neg (by have := U.cut; omega)
theorem Up.wrote (U : Up d) (k : Kep) : Up (d.wrote k) := ⟨U.off, U.inn, by show (if d.cut < 0 then d.cut else d.cut - 101) < 0; rw [if_pos U.cut]; exact U.cut⟩
theorem fresh_up (p : ByteArray) : Up (Dv.fresh 0 p) := ⟨rfl, rfl, by show (-1 : Int) < 0; omega⟩
/-- the right PIN -/
theorem fed_right (U : Up d) (p : List UInt8) (hp : d.k.pin = str p) (h1 : 1 ≤ p.length) (h2 : p.length ≤ 8) (ht : ¬ d.k.tries = 0) (hn : d.k.num + 2 < 4294967295) :
    ∃ e, fed d (told 1 p) = (told 0 [], e) ∧ Up e ∧ e.unl = true ∧ e.k = ({ d.k with tries := 5, num := d.k.num + 1 + 1 } : Kep) := by
  have hn0 : ¬ (0 ≤ d.cut ∧ d.cut < 101) := by have := U.cut; omega
  have U1 := U.wrote d.k.less
  have U2 := U1.wrote d.k.less.full
  refine ⟨((d.wrote d.k.less).wrote d.k.less.full).open, ?_, ⟨U2.off, U2.inn, U2.cut⟩, rfl, rfl⟩
  refine fed_on 1 p (by omega) (by omega) (by omega) U.off U.inn ?_ U2.off U2.inn
  unfold Dv.commandC
  rw [if_pos rfl]
  unfold Dv.unlockC
  rw [if_neg (by rw [str_size]; omega), if_neg ht, if_neg (by omega), if_neg hn0, if_neg (by rw [hp]; exact fun x => x rfl), if_neg (by omega), if_neg (by have := U1.cut; omega)]
end

/-- an unlocked device whose slots have these keys -/
structure Fine (p : List UInt8) (m : Int) (ss : List ByteArray) (d : Dv) : Prop where
  up : Up d
  unl : d.unl = true
  pin : d.k.pin = str p
  tries : d.k.tries = 5
  num : d.k.num ≤ m
  len : ss.length = 4
  key : ∀ n, n < 4 → d.k.key n = ss.getD n ⟨#[]⟩
theorem fine_fresh (p : List UInt8) (h1 : 1 ≤ p.length) (h2 : p.length ≤ 8) : ∃ e, fed (Dv.fresh 0 (str p)) (told 1 p) = (told 0 [], e) ∧ Fine p 3 [⟨#[]⟩, ⟨#[]⟩, ⟨#[]⟩, ⟨#[]⟩] e := by
  obtain ⟨e, he, U, hu, hk⟩ := fed_right (fresh_up (str p)) p rfl h1 h2 (by show ¬ (5 : Int) = 0; omega) (by show (1 : Int) + 2 < _; omega)
  refine ⟨e, he, U, hu, by rw [hk]; rfl, by rw [hk], by rw [hk]; exact Int.le_refl _, rfl, fun n hn => ?_⟩
  rw [hk]
  rcases (by omega : n = 0 ∨ n = 1 ∨ n = 2 ∨ n = 3) with rfl | rfl | rfl | rfl <;> rfl
/-- a device, locked or not, whose slots have these keys -/
structure Kept5 (p : List UInt8) (m : Int) (ss : List ByteArray) (d : Dv) : Prop where
  up : Up d
  pin : d.k.pin = str p
  tries : d.k.tries = 5
  num : d.k.num ≤ m
  len : ss.length = 4
  key : ∀ n, n < 4 → d.k.key n = ss.getD n ⟨#[]⟩
theorem Kept5.right {p : List UInt8} {m : Int} {ss : List ByteArray} {d : Dv} (F : Kept5 p m ss d) (h1 : 1 ≤ p.length) (h2 : p.length ≤ 8) (hm : m + 2 < 4294967295) :
    ∃ e, fed d (told 1 p) = (told 0 [], e) ∧ Fine p (m + 2) ss e := by
  have hn := F.num
  obtain ⟨e, he, U, hu, hk⟩ := fed_right F.up p F.pin h1 h2 (by rw [F.tries]; omega) (by omega)
  exact ⟨e, he, U, hu, by rw [hk]; exact F.pin, by rw [hk], by rw [hk]; show d.k.num + 1 + 1 ≤ _; omega, F.len, fun n hn => by rw [hk]; exact F.key n hn⟩
end Go.Proofs.YtaokemapkgggoaaDoor

namespace Go.Proofs.YtaokemapkgggoaaDoor
open Go.RowKit

theorem feedC_len : ∀ (n : Nat) (d : Dv) (l : List UInt8), (feedC n d l).1.length ≤ 36 * n
  | 0, d, l => by simp [feedC]
  | n + 1, d, l => by
    rw [feedC]
    split
    · simp
    split
    · simp
    split
    · have := feedC_len n (d.withIn ((skip l).drop 1)) ((skip l).drop 1)
      simp only [List.length_append, told_len, List.length_nil]
      omega
    · have hl := (Dv.commandC_len (d.withIn ((skip l).drop (fLen (skip l) + 4))) ((bytesI (skip l)).getD 2 0) (str (((skip l).drop 3).take (fLen (skip l))))).1
      generalize (d.withIn ((skip l).drop (fLen (skip l) + 4))).commandC ((bytesI (skip l)).getD 2 0) (str (((skip l).drop 3).take (fLen (skip l)))) = c at hl
      have := feedC_len n c.1 ((skip l).drop (fLen (skip l) + 4))
      dsimp only
      rw [List.length_append]
      split
      · simp only [List.length_nil]
        omega
      · rw [told_len]
        omega
theorem fapp_list (x : ByteArray) (l : List UInt8) : (x ++ str l).data.toList = x.data.toList ++ l := by rw [ByteArray.data_append, Array.toList_append, str_list]
theorem fapp_size (x : ByteArray) (l : List UInt8) : (x ++ str l).size = (x.data.toList ++ l).length := by
  rw [ByteArray.size_append, str_size, List.length_append, Array.length_toList]
  rfl
/-- bytes in two pieces are answered as all at once -/
theorem fed_append (d : Dv) (a b : List UInt8) : fed d (a ++ b) = ((fed d a).1 ++ (fed (fed d a).2 b).1, (fed (fed d a).2 b).2) := by
  unfold fed
  simp only [fapp_list, fapp_size]
  rw [← List.append_assoc]
  exact feedC_append _ d (d.inn.data.toList ++ a) b (Nat.lt_succ_self _) _ _ (Nat.lt_succ_self _) (Nat.lt_succ_self _)
theorem fed_len (d : Dv) (l : List UInt8) : (fed d l).1.length ≤ 36 * (d.inn.size + l.length + 1) := by
  have := feedC_len ((d.inn ++ str l).size + 1) d (d.inn ++ str l).data.toList
  rw [ByteArray.size_append, str_size] at this
  unfold fed
  rw [ByteArray.size_append, str_size]
  exact this
end Go.Proofs.YtaokemapkgggoaaDoor

namespace Go.Proofs.YtaokemapkgggoaaDoor
open Go.RowKit

/-- two devices of the program's, made behind w -/
structure PairAt (w wr : World) (x : Nat) (d : Dv) (y : Nat) (e : Dv) : Prop where
  one : KdAt w wr x d
  two : KdAt w wr y e
  ne : ¬ x = y
section
variable {w wr wr' : World} {x y : Nat} {d d' e e' : Dv}
theorem PairAt.next (H : PairAt w wr x d y e) (hb : Below wr.heap.size wr wr') : PairAt w wr' x d y e := ⟨H.one.next hb, H.two.next hb, H.ne⟩
theorem PairAt.fed1 (H : PairAt w wr x d y e) (K : KdAt w wr' x d') (hg : wr.grownBy wr' (some x)) : PairAt w wr' x d' y e := ⟨K, H.two.other hg H.one.low (fun h => H.ne h.symm), H.ne⟩
theorem PairAt.fed2 (H : PairAt w wr x d y e) (K : KdAt w wr' y e') (hg : wr.grownBy wr' (some y)) : PairAt w wr' x d y e' := ⟨H.one.other hg H.two.low H.ne, K, H.ne⟩
end

set_option maxRecDepth 100000 in
theorem keep_pickB (c : Int) (n : Nat) (w : World) (hc0 : -9223372036854775808 ≤ c) (hc1 : c ≤ 9223372036854775807) (hn : 0 < n) (hn1 : n ≤ 100000000) :
    Calls Tryd.prog 20 #[.int .i64 c, .int .i64 n] w fun r w' => r = .returned (.int .i64 (pickN c n)) ∧ w' = w := by
  have hn' : ¬ (n : Int) = 0 := by omega
  by_cases h : c < 0
  · have e : -(c + 1).tmod n = (pickN c n : Int) := by
      unfold pickN
      rw [if_pos h, ← Int.neg_tmod, Int.tmod_eq_emod_of_nonneg (by omega)]
      have := Int.emod_nonneg (-(c + 1)) hn'
      omega
    have E : Hid (-(c + 1).tmod n = (pickN c n : Int)) := e
    clear e
    go_enter Tryd.func20, Tryd.ntmps20
    go_wp2
    go_ret
    refine ⟨?_, rfl⟩
    rw [E.out]
    rfl
  · have e : c % n = (pickN c n : Int) := by
      unfold pickN
      rw [if_neg h]
      have := Int.emod_nonneg c hn'
      omega
    have E : Hid (c % n = (pickN c n : Int)) := e
    clear e
    go_enter Tryd.func20, Tryd.ntmps20
    go_wp2
    go_ret
    refine ⟨?_, rfl⟩
    rw [E.out]
    rfl
theorem pick_next (z : Int) (cb : ByteArray) (W : World) (h0 : -9223372036854775808 ≤ z) (h1 : z ≤ 9223372036854775807) (hz : cb.size < 2000000) (k : Nat) (hk : k = pickN z (cb.size + 1)) :
    Calls Tryd.prog 20 #[.int .i64 z, .int .i64 ((cb.size : Int) + 1)] W fun r w' => r = .returned (.int .i64 k) ∧ w' = W := by
  have := keep_pickB z (cb.size + 1) W h0 h1 (by omega) (by omega)
  rw [show ((cb.size + 1 : Nat) : Int) = (cb.size : Int) + 1 by omega, ← hk] at this
  exact this
theorem str_take (l : List UInt8) (k : Nat) : (str l).extract 0 k = str (l.take k) := by
  apply ByteArray.ext
  apply Array.toList_inj.1
  rw [ByteArray.data_extract, Array.toList_extract, List.extract_eq_take_drop, str_list, str_list]
  simp
theorem str_drop (l : List UInt8) (k : Nat) : (str l).extract k (str l).size = str (l.drop k) := by
  apply ByteArray.ext
  apply Array.toList_inj.1
  rw [ByteArray.data_extract, Array.toList_extract, List.extract_eq_take_drop, str_list, str_list, str_size]
  exact List.take_of_length_le (by rw [List.length_drop]; exact Nat.le_refl _)
/-- a device is told some bytes -/
theorem keep_tell {w0 : World} (G : Glob w0) (l : List UInt8) (s r : ByteArray) (d e : Dv) (g : Nat) (hs : s = str l) (hr : r = str (fed d l).1) (he : e = (fed d l).2) (hl : l.length < 1900000) (W : World) (K : KdAt w0 W g d) :
    Calls Tryd.prog 19 #[.pointer (some ⟨g, 0, none⟩), .string s] W fun r' w' => r' = .returned (.string r) ∧ KdAt w0 w' g e ∧ W.grownBy w' (some g) := by
  rw [hs, hr, he]
  exact keep_Feed G K l hl
end Go.Proofs.YtaokemapkgggoaaDoor

namespace Go.Proofs.YtaokemapkgggoaaDoor
open Go.RowKit

/-- a frame, of a payload whose bytes are known -/
theorem frame_is (st : Int) (p : ByteArray) (l : List UInt8) (hp : p.data.toList = l) (W : World) (h0 : 0 ≤ st) (h1 : st < 256) (hl : l.length < 1000) (x : ByteArray) (hx : x = str (told st l)) :
    Calls Tryd.prog 16 #[.int .i64 st, .string p] W fun r w' => r = .returned (.string x) ∧ Below W.heap.size W w' := by
  have := keep_frame st p W h0 h1 (by have : p.size = p.data.toList.length := (by rw [Array.length_toList]; rfl); rw [this, hp]; omega)
  rw [hp] at this
  rw [hx]
  exact this
end Go.Proofs.YtaokemapkgggoaaDoor

namespace Go.Proofs.YtaokemapkgggoaaDoor
open Go.RowKit

theorem wp_normalK {P : Program} {c : Code} {Q : Exit → Act → World → Prop} {a : Act} {w : World} (h : c.wp P (fun e a' w' => e = .normal ∧ Q .normal a' w') a w) : c.wp P Q a w :=
  wp_mono h fun e a' w' k => by
    obtain ⟨rfl, k⟩ := k
    exact k
/-- a region that draws its order, from a world that is a letter -/
theorem wp_region_letter {P : Program} {ops : Array Oper} {Q : Exit → Act → World → Prop} {S : World → Prop} {id : Nat} {a : Act} {w : World} (hm : P.follows .mixedOrders = true) (hS : S w.drew)
    (h : ∀ w0, S w0 → wpAnyH P .any ops Q S ops.size (Array.replicate ops.size false) a w0) : (Code.region id ops true).wp P Q a w :=
  wp_region_held hm (h _ hS)
theorem row_built (w : World) (n : Int) : Row (w.alloc (.cells #[.int .u8 n] 5)) w.heap.size (u8s [n]) 5 := Row.made w (u8s [n]) 5
theorem below_built (w : World) (o : Obj) : Below w.heap.size w (w.alloc o) := (Below.refl _ _).alloc (Nat.le_refl _) _
end Go.Proofs.YtaokemapkgggoaaDoor
