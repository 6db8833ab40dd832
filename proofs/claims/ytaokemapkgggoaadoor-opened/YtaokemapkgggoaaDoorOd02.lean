import Derived.Test.YtaokemapkgggoaaDoorOd01
import Derived.Test.YtaokemapkgggoaaDoorKb32
import Derived.Test.YtaokemapkgggoaaDoorKb26
namespace Go.Proofs.YtaokemapkgggoaaDoor
open Go.RowKit

theorem halves {a b : ByteArray} (ha : a.size = 100) (hb : b.size = 100) : (a ++ b).size = 200 ∧ (a ++ b).extract 0 100 = a ∧ (a ++ b).extract 100 200 = b := by
  have la : a.data.toList.length = 100 := by rw [Array.length_toList]; exact ha
  have lb : b.data.toList.length = 100 := by rw [Array.length_toList]; exact hb
  refine ⟨by rw [ByteArray.size_append]; omega, ?_, ?_⟩
  · apply ByteArray.ext
    apply Array.toList_inj.1
    rw [ByteArray.data_extract, Array.toList_extract, List.extract_eq_take_drop, ByteArray.data_append, Array.toList_append, List.drop_zero]
    exact List.take_left' la
  · apply ByteArray.ext
    apply Array.toList_inj.1
    rw [ByteArray.data_extract, Array.toList_extract, List.extract_eq_take_drop, ByteArray.data_append, Array.toList_append, List.drop_left' la]
    exact List.take_of_length_le (by omega)
theorem open_first {h0 h1 : ByteArray} {k : Kep} (r0 : readOk (Bs h0)) (k0 : readK (Bs h0) = k) (r1 : ¬ readOk (Bs h1) ∨ ¬ k.num < (readK (Bs h1)).num) : (Dv.of 0 h0 h1).bootC = ({ (Dv.of 0 h0 h1).base with off := false, k := k, wh := 0 }, 0) := by
  unfold Dv.bootC
  rw [if_neg (fun e => e.1 r0), if_neg]
  · show (({ (Dv.of 0 h0 h1).base with off := false, k := readK (Bs h0), wh := 0 } : Dv), (0 : Int)) = _
    rw [k0]
  · rintro (e | e)
    · exact e r0
    · rcases r1 with h | h
      · exact h e.1
      · exact h (by rw [← k0]; exact e.2)
theorem open_second {h0 h1 : ByteArray} {k : Kep} (r1 : readOk (Bs h1)) (k1 : readK (Bs h1) = k) (r0 : ¬ readOk (Bs h0) ∨ (readK (Bs h0)).num < k.num) : (Dv.of 0 h0 h1).bootC = ({ (Dv.of 0 h0 h1).base with off := false, k := k, wh := 1 }, 0) := by
  unfold Dv.bootC
  rw [if_neg (fun e => e.2 r1), if_pos]
  · show (({ (Dv.of 0 h0 h1).base with off := false, k := readK (Bs h1), wh := 1 } : Dv), (0 : Int)) = _
    rw [k1]
  · rcases r0 with h | h
    · exact .inl h
    · exact .inr ⟨r1, by show (readK (Bs h0)).num < (readK (Bs h1)).num; rw [k1]; exact h⟩
theorem open_any {h0 h1 : ByteArray} (h : readOk (Bs h0) ∨ readOk (Bs h1)) : ∃ E, (Dv.of 0 h0 h1).bootC = (E, 0) := by
  unfold Dv.bootC
  rw [if_neg (fun e => by rcases h with h | h; exact e.1 h; exact e.2 h)]
  split
  · exact ⟨_, rfl⟩
  · exact ⟨_, rfl⟩
/-- what is opened out of a device's own flash keeps what it kept -/
theorem open_stands {d : Dv} (h : d.stands) : ∃ E, (Dv.of 0 d.h0 d.h1).bootC = (E, 0) ∧ E.k = d.k ∧ Up E ∧ E.unl = false := by
  obtain ⟨hw, hr, hs, ho⟩ := h
  rcases hw with hw | hw
  · rw [if_pos hw] at hr hs
    rw [if_pos hw, if_pos hw] at ho
    exact ⟨_, open_first hr hs ho, rfl, ⟨rfl, rfl, by show (-1 : Int) < 0; omega⟩, rfl⟩
  · rw [if_neg (by omega)] at hr hs
    rw [if_neg (by omega), if_neg (by omega)] at ho
    exact ⟨_, open_second hr hs ho, rfl, ⟨rfl, rfl, by show (-1 : Int) < 0; omega⟩, rfl⟩
/-- what is told of a right image by its ends -/
theorem read_ends {l : List UInt8} (hl : l.length = 100) (h : readOk l) : l[0]? = some 167 ∧ l[99]? = some (b8 (1 + sumB ((l.drop 1).take 98))) := by
  have e := h.2.2
  unfold Kep.img closed at e
  obtain ⟨t, ht⟩ : ∃ t, t = (readK l).body := ⟨_, rfl⟩
  rw [← ht] at e
  have hlen : t.length = 98 := by
    have := congrArg List.length e
    simp only [List.length_cons, List.length_append, List.length_nil] at this
    omega
  rw [← e]
  refine ⟨rfl, ?_⟩
  rw [List.drop_succ_cons, List.drop_zero, List.take_left' hlen, List.getElem?_cons_succ, List.getElem?_append_right (by omega), hlen]
  rfl
theorem sumB_set (t : List UInt8) (i : Nat) (x y : UInt8) (h : t[i]? = some y) : sumB (t.set i x) = sumB t - y.toNat + x.toNat := by
  induction t generalizing i with
  | nil => simp at h
  | cons a t ih =>
    cases i with
    | zero =>
      simp only [List.getElem?_cons_zero, Option.some.injEq] at h
      subst h
      simp only [List.set_cons_zero, sumB]
      omega
    | succ i =>
      simp only [List.getElem?_cons_succ] at h
      simp only [List.set_cons_succ, sumB, ih i h]
      omega
/-- one byte turned makes a right image wrong -/
theorem turned_wrong {l : List UInt8} (hl : l.length = 100) (h : readOk l) (k : Nat) (hk : k < 100) (x y : UInt8) (hy : l[k]? = some y) (hxy : ¬ x = y) : ¬ readOk (l.set k x) := by
  intro h'
  obtain ⟨a0, a1⟩ := read_ends hl h
  obtain ⟨b0, b1⟩ := read_ends (by rw [List.length_set]; exact hl) h'
  rcases (by omega : k = 0 ∨ k = 99 ∨ (1 ≤ k ∧ k ≤ 98)) with rfl | rfl | ⟨h1, h2⟩
  · rw [List.getElem?_set_self (by omega)] at b0
    rw [hy] at a0
    exact hxy (Option.some.inj (b0.trans a0.symm))
  · have e : ((l.set 99 x).drop 1).take 98 = (l.drop 1).take 98 := by
      rw [List.drop_set, if_neg (by omega), List.take_set, List.set_eq_of_length_le]
      rw [List.length_take]
      omega
    rw [List.getElem?_set_self (by omega), e] at b1
    rw [hy] at a1
    exact hxy (Option.some.inj (b1.trans a1.symm))
  · have e : ((l.set k x).drop 1).take 98 = ((l.drop 1).take 98).set (k - 1) x := by
      rw [List.drop_set, if_neg (by omega), List.take_set]
    have hy2 : ((l.drop 1).take 98)[k - 1]? = some y := by
      rw [List.getElem?_take, if_pos (by omega), List.getElem?_drop, show 1 + (k - 1) = k by omega]
      exact hy
    rw [List.getElem?_set_ne (by omega), e, sumB_set _ _ x y hy2, a1] at b1
    have h3 := congrArg (fun z : UInt8 => (z.toNat : Int)) (Option.some.inj b1)
    simp only [b8_toNat] at h3
    apply hxy
    apply UInt8.toNat_inj.1
    have hx := x.toNat_lt
    have hy' := y.toNat_lt
    omega
theorem set_parts (l : List UInt8) (k : Nat) (x : UInt8) (hk : k < l.length) : l.take k ++ [x] ++ l.drop (k + 1) = l.set k x := by
  rw [List.set_eq_take_append_cons_drop, if_pos hk, List.append_assoc]
  rfl
/-- bits, from the greatest slot down -/
def bitsHi : List ByteArray → Int
  | [] => 0
  | s :: r => (if s.size = 0 then 0 else 1) + 2 * bitsHi r
theorem bitsHi_all (num tries : Int) (p s0 s1 s2 s3 : ByteArray) : bitsHi [s0, s1, s2, s3] = Kep.bits ⟨num, tries, p, s0, s1, s2, s3⟩ 4 := by
  have e : Kep.bits ⟨num, tries, p, s0, s1, s2, s3⟩ 4 = 0 + (if s0.size = 0 then 0 else 1) + (if s1.size = 0 then 0 else 2) + (if s2.size = 0 then 0 else 4) + (if s3.size = 0 then 0 else 8) := rfl
  rw [e]
  simp only [bitsHi]
  repeat' split
  all_goals rfl
theorem bits_keys (k l : Kep) (h0 : k.k0 = l.k0) (h1 : k.k1 = l.k1) (h2 : k.k2 = l.k2) (h3 : k.k3 = l.k3) : k.bits 4 = l.bits 4 := by
  have e : ∀ n, k.key n = l.key n := fun n => by unfold Kep.key; rw [h0, h1, h2, h3]
  simp only [Kep.bits, e]
/-- Open, of two halves -/
theorem keep_Open (w0 W : World) (f h0 h1 : ByteArray) (hf : f = h0 ++ h1) (s0 : h0.size = 100) (s1 : h1.size = 100) (E : Dv) (HE : (Dv.of 0 h0 h1).bootC = (E, 0)) (hb : Below w0.heap.size w0 W) :
    Calls Tryd.prog 28 #[.string f] W fun r w' => ∃ g, r = .returned (.tuple #[.pointer (some ⟨g, 0, none⟩), .int .i64 0]) ∧ W.heap.size ≤ g ∧ KdAt w0 w' g E ∧ Below W.heap.size W w' := by
  obtain ⟨x1, x2, x3⟩ := halves s0 s1
  rw [← hf] at x1 x2 x3
  obtain ⟨o1, o2, -, -, -, -, -, o8, -⟩ := open_dev (E := (E, 0)) s0 s1 HE.symm rfl
  refine (prog_Open 0 f W x1 (E, 0) (by rw [x2, x3]; exact HE.symm)).mono ?_
  rintro r w' ⟨h | h, hb'⟩
  · obtain ⟨_, g, hg, hr, hd⟩ := h
    exact ⟨g, hr, hg, ⟨hd, o1, o2, by rw [o8]; show (0 : Nat) < 52; omega, Nat.le_trans hb.size hg, hb.trans (hb'.mono hb.size)⟩, hb'⟩
  · exact absurd rfl h.1
end Go.Proofs.YtaokemapkgggoaaDoor

namespace Go.Proofs.YtaokemapkgggoaaDoor
open Go.RowKit

/-- texts as cells -/
def strs (ss : List ByteArray) : List Value := ss.map Value.string
theorem strs_set (ss : List ByteArray) (n : Nat) (b : ByteArray) : (strs ss).set n (.string b) = strs (ss.set n b) := by simp [strs, List.map_set]
theorem strs_get (ss : List ByteArray) (n : Nat) (h : n < ss.length) : (strs ss)[n]? = some (.string (ss.getD n ⟨#[]⟩)) := by
  simp [strs, List.getD_eq_getElem?_getD, h]
theorem arr4s : ArrT Tryd.prog 45 4 (.string ⟨#[]⟩) := ⟨⟨9, by kernel_rfl⟩, by kernel_rfl⟩

/-- fine's own memory: what it answers with, and what its slots have -/
structure HasAt (w wr : World) (g : Nat) (d : Dv) (ss : List ByteArray) : Prop where
  kd : KdAt w wr g d
  out : Row wr w.heap.size (zrow 4 (.string ⟨#[]⟩)) 45
  has : Row wr (w.heap.size + 1) (strs ss) 45
  low : w.heap.size + 2 ≤ g
section
variable {w wr wr' : World} {g : Nat} {d e : Dv} {ss : List ByteArray}
theorem HasAt.next (H : HasAt w wr g d ss) (hb : Below wr.heap.size wr wr') : HasAt w wr' g d ss := ⟨H.kd.next hb, H.out.below hb H.out.lt, H.has.below hb H.has.lt, H.low⟩
theorem HasAt.feed (H : HasAt w wr g d ss) (K : KdAt w wr' g e) (hg : wr.grownBy wr' (some g)) : HasAt w wr' g e ss := ⟨K, H.out.grown hg (by have := H.low; omega), H.has.grown hg (by have := H.low; omega), H.low⟩
theorem HasAt.set (H : HasAt w wr g d ss) (n : Nat) (b : ByteArray) : HasAt w (wr.setCell ⟨w.heap.size + 1, n, none⟩ (.string b)) g d (ss.set n b) := by
  have hg : wr.grownBy (wr.setCell ⟨w.heap.size + 1, n, none⟩ (.string b)) (some (w.heap.size + 1)) := grown_set (World.grownBy.refl _ _) n _
  exact ⟨H.kd.other hg (by omega) (by have := H.low; omega), H.out.grown hg (by omega), by rw [← strs_set]; exact H.has.setCell n _, H.low⟩
theorem HasAt.cell (H : HasAt w wr g d ss) (n : Nat) (hn : n < ss.length) : wr.cell? ⟨w.heap.size + 1, n, none⟩ = some (.string (ss.getD n ⟨#[]⟩)) := by rw [H.has.cell, strs_get _ _ hn]
end

end Go.Proofs.YtaokemapkgggoaaDoor

namespace Go.Proofs.YtaokemapkgggoaaDoor
open Go.RowKit

/-- a device, and a table of four texts beside it -/
structure HoldAt (w wr : World) (g : Nat) (d : Dv) (hb : Nat) (ss : List ByteArray) : Prop where
  kd : KdAt w wr g d
  has : Row wr hb (strs ss) 45
  low : w.heap.size ≤ hb
  ne : ¬ hb = g
section
variable {w wr wr' : World} {g hb : Nat} {d e : Dv} {ss : List ByteArray}
theorem HoldAt.next (H : HoldAt w wr g d hb ss) (hx : Below wr.heap.size wr wr') : HoldAt w wr' g d hb ss := ⟨H.kd.next hx, H.has.below hx H.has.lt, H.low, H.ne⟩
theorem HoldAt.feed (H : HoldAt w wr g d hb ss) (K : KdAt w wr' g e) (hg : wr.grownBy wr' (some g)) : HoldAt w wr' g e hb ss := ⟨K, H.has.grown hg H.ne, H.low, H.ne⟩
theorem HoldAt.cell (H : HoldAt w wr g d hb ss) (n : Nat) (hn : n < ss.length) : wr.cell? ⟨hb, n, none⟩ = some (.string (ss.getD n ⟨#[]⟩)) := by rw [H.has.cell, strs_get _ _ hn]
theorem HoldAt.made (K : KdAt w wr g d) (h : Row wr' wr.heap.size (strs ss) 45) (hx : Below wr.heap.size wr wr') : HoldAt w wr' g d wr.heap.size ss := ⟨K.next hx, h, K.base.size, by have := K.pd.lt; omega⟩
end
theorem empty_ba {k : ByteArray} (h : k.size = 0) : k = ⟨#[]⟩ := ByteArray.ext (Array.eq_empty_of_size_eq_zero h)
end Go.Proofs.YtaokemapkgggoaaDoor

namespace Go.Proofs.YtaokemapkgggoaaDoor
open Go.RowKit

end Go.Proofs.YtaokemapkgggoaaDoor

namespace Go.Proofs.YtaokemapkgggoaaDoor
open Go.RowKit

/-- two devices of the program's, made behind w -/
structure PairAt (w wr : World) (x : Nat) (d : Dv) (y : Nat) (e : Dv) : Prop where
  one : KdAt w wr x d
  two : KdAt w wr y e
  ne : ¬ x = y
section
variable {w wr wr' : World} {x y : Nat} {d d' e e' : Dv}
theorem PairAt.next (H : PairAt w wr x d y e) (hb : Below wr.heap.size wr wr') : PairAt w wr' x d y e := ⟨H.one.next hb, H.two.next hb, H.ne⟩
end

set_option maxRecDepth 100000 in
theorem keep_pickB (c : Int) (n : Nat) (w : World) (hc0 : -9223372036854775808 ≤ c) (hc1 : c ≤ 9223372036854775807) (hn : 0 < n) (hn1 : n ≤ 100000000) :
    Calls Tryd.prog 20 #[.int .i64 c, .int .i64 n] w fun r w' => r = .returned (.int .i64 (pickN c n)) ∧ w' = w := by
  have hn' : ¬ (n : Int) = 0 := by omega
  by_cases h : c < 0
  · have e : -(c + 1).tmod n = (pickN c n : Int) := by
      unfold pickN
      rw [if_pos h, ← Int.neg_tmod, Int.tmod_eq_emod_of_nonneg (by omega)]
      have := Int.emod_nonneg (-(c + 1)) hn'
      omega
    have E : Hid (-(c + 1).tmod n = (pickN c n : Int)) := e
    clear e
    go_enter Tryd.func20, Tryd.ntmps20
    go_wp2
    go_ret
    refine ⟨?_, rfl⟩
    rw [E.out]
    rfl
  · have e : c % n = (pickN c n : Int) := by
      unfold pickN
      rw [if_neg h]
      have := Int.emod_nonneg c hn'
      omega
    have E : Hid (c % n = (pickN c n : Int)) := e
    clear e
    go_enter Tryd.func20, Tryd.ntmps20
    go_wp2
    go_ret
    refine ⟨?_, rfl⟩
    rw [E.out]
    rfl
theorem str_take (l : List UInt8) (k : Nat) : (str l).extract 0 k = str (l.take k) := by
  apply ByteArray.ext
  apply Array.toList_inj.1
  rw [ByteArray.data_extract, Array.toList_extract, List.extract_eq_take_drop, str_list, str_list]
  simp
theorem str_drop (l : List UInt8) (k : Nat) : (str l).extract k (str l).size = str (l.drop k) := by
  apply ByteArray.ext
  apply Array.toList_inj.1
  rw [ByteArray.data_extract, Array.toList_extract, List.extract_eq_take_drop, str_list, str_list, str_size]
  exact List.take_of_length_le (by rw [List.length_drop]; exact Nat.le_refl _)
end Go.Proofs.YtaokemapkgggoaaDoor

namespace Go.Proofs.YtaokemapkgggoaaDoor
open Go.RowKit

/-- a table of four texts -/
structure TabAt (w wr : World) (b : Nat) (ss : List ByteArray) : Prop where
  row : Row wr b (strs ss) 45
  base : Below w.heap.size w wr
  low : w.heap.size ≤ b
section
variable {w wr wr' : World} {b : Nat} {ss : List ByteArray}
theorem TabAt.next (H : TabAt w wr b ss) (hb : Below wr.heap.size wr wr') : TabAt w wr' b ss := ⟨H.row.below hb H.row.lt, H.base.trans (hb.mono H.base.size), H.low⟩
theorem TabAt.set (H : TabAt w wr b ss) (n : Nat) (s : ByteArray) : TabAt w (wr.setCell ⟨b, n, none⟩ (.string s)) b (ss.set n s) := ⟨by rw [← strs_set]; exact H.row.setCell n _, H.base.setCell H.low _, H.low⟩
theorem TabAt.cell (H : TabAt w wr b ss) (n : Nat) (hn : n < ss.length) : wr.cell? ⟨b, n, none⟩ = some (.string (ss.getD n ⟨#[]⟩)) := by rw [H.row.cell, strs_get _ _ hn]
end
theorem yields_loadK {P : Program} {ops : Array Oper} {S : World → Prop} {op : Oper} {a : Act} (hgd : op.guard = none) (ty : TypeId) (x : Operand) (ho : op.op = .load ty x)
    (b o : Nat) (hx : a.eval x = .pointer (some ⟨b, o, none⟩)) (cs : List Value) (d : TypeDesc) (hS : ∀ w, S w → w.rangeAt b o cs)
    (hu : P.underlying ty = some d) (hd : d.isRow = true) (hi : (P.info? ty).map (·.size) = some cs.length) : YieldsIf P ops S op (.agg cs.toArray) a :=
  yieldsIf_load_mid (by simp [Region.wanted, hgd]) ty x ho b o hx cs d hS hu hd hi
theorem bitsHi_bd (l : List ByteArray) : 0 ≤ bitsHi l ∧ bitsHi l < 2 ^ l.length := by
  induction l with
  | nil => simp [bitsHi]
  | cons s r ih =>
    simp only [bitsHi, List.length_cons, Int.pow_succ]
    generalize (2 : Int) ^ r.length = q at *
    split <;> omega
theorem under4s : Tryd.prog.underlying 45 = some (.array 4 9) := by kernel_rfl
theorem four_of (ss : List ByteArray) (h : ss.length = 4) : ∃ s0 s1 s2 s3, ss = [s0, s1, s2, s3] := by
  match ss, h with
  | [a, b, c, d], _ => exact ⟨a, b, c, d, rfl⟩
theorem mem_set4 {ss : List ByteArray} {n : Nat} {b : ByteArray} (h : ∀ s ∈ ss, s.size ≤ 20) (hb : b.size ≤ 20) : ∀ s ∈ ss.set n b, s.size ≤ 20 := by
  intro s hs
  rcases List.mem_or_eq_of_mem_set hs with h1 | rfl
  · exact h s h1
  · exact hb
/-- two images of the statement's own making -/
theorem img_size {k : Kep} (h : k.good) : (str k.img).size = 100 := by rw [str_size, Kep.img_length h]
theorem img_ok {k : Kep} (h : k.good) (hn : 1 ≤ k.num) (hp : 1 ≤ k.pin.size) : readOk (Bs (str k.img)) ∧ readK (Bs (str k.img)) = k := by
  have e : Bs (str k.img) = k.img := str_list _
  rw [e]
  exact ⟨readOk_img h hn hp, read_img h⟩
theorem xr_ne (y b : Int) (hy : 0 ≤ y ∧ y < 256) (hb : 1 ≤ b ∧ b < 256) : 0 ≤ xr y b ∧ xr y b < 256 ∧ ¬ xr y b = y := by
  unfold xr
  have h := @Nat.xor_lt_two_pow y.toNat b.toNat 8 (by omega) (by omega)
  refine ⟨by omega, by omega, fun e => ?_⟩
  have e2 : y.toNat ^^^ b.toNat = y.toNat := by omega
  have e3 : b.toNat = 0 := by
    have h3 := congrArg (fun z => y.toNat ^^^ z) e2
    simpa [← Nat.xor_assoc] using h3
  omega

end Go.Proofs.YtaokemapkgggoaaDoor
