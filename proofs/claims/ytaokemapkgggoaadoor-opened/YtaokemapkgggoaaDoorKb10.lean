import Derived.Test.YtaokemapkgggoaaDoorKb09
import Derived.Deep.RegionHeld3
import Derived.Laws.Cover3
import Derived.Deep.RegionWith
namespace Go.Proofs.YtaokemapkgggoaaDoor
open Go.RowKit

theorem wpList_boxM {P : Program} {ops : Array Oper} {rest : List Oper} {o : Oper} {a : Act} {w : World} {Q : Exit → Act → World → Prop} (hgd : o.guard = none) (ty : TypeId) (x : Operand) (ho : o.op = .box ty x) (cs : List Value) (hx : a.eval x = .agg cs.toArray)
    (h : ∀ w', Row w' w.heap.size cs ty → Below w.heap.size w w' → wpList P ops Q rest (a.put o.dst (.pointer (some ⟨w.heap.size, 0, none⟩))) w') : wpList P ops Q (o :: rest) a w :=
  wpList_boxR hgd ty x ho cs hx (h _ (Row.made _ _ _) ((Below.refl _ _).alloc (Nat.le_refl _) _))

/-- a step's cells: kind, device, number, two texts, and what no sum looks at -/
def opCells (kd wn n : Int) (s t : ByteArray) (rest : List Value) : List Value := .int .i64 kd :: .int .i64 wn :: .int .i64 n :: .string s :: .string t :: rest

end Go.Proofs.YtaokemapkgggoaaDoor

namespace Go.Proofs.YtaokemapkgggoaaDoor
open Go.RowKit

def strLen : Value → Nat
  | .string s => s.size
  | _ => 0
theorem strLen_string (s : ByteArray) : strLen (.string s) = s.size := rfl
theorem str_zero : (⟨#[0]⟩ : ByteArray) = str [0] := rfl
theorem str_push0 (l : List UInt8) : str l ++ ⟨#[0]⟩ = str (l ++ [0]) := str_append l [0]

/-- a text of bytes that were just laid side by side -/
theorem conv1 (W : World) (a : Int) (g : Nat) (hg : g = W.heap.size) : (convert 28 9 (.slice (some ⟨g, 0, none⟩) 1 1)).run Tryd.prog (W.alloc (.cells #[.int .u8 a] 5)) = .ok (.string (strOfNums [a])) (W.alloc (.cells #[.int .u8 a] 5)) := by
  subst hg
  exact run_convR _ W.heap.size [a] 1 1 rfl (Row.made W (u8s [a]) 5).range
theorem conv1d (W : World) (a : Int) (g : Nat) (hg : g = W.heap.size) : (convert 28 9 (.slice (some ⟨g, 0, none⟩) 1 1)).run Tryd.prog (W.alloc (.cells #[.int .u8 a] 5)).drew = .ok (.string (strOfNums [a])) (W.alloc (.cells #[.int .u8 a] 5)).drew := by
  subst hg
  exact run_convR _ W.heap.size [a] 1 1 rfl (Row.made W (u8s [a]) 5).range
theorem conv2 (W : World) (a b : Int) (g : Nat) (hg : g = W.heap.size) : (convert 28 9 (.slice (some ⟨g, 0, none⟩) 2 2)).run Tryd.prog (W.alloc (.cells #[.int .u8 a, .int .u8 b] 5)) = .ok (.string (strOfNums [a, b])) (W.alloc (.cells #[.int .u8 a, .int .u8 b] 5)) := by
  subst hg
  exact run_convR _ W.heap.size [a, b] 2 2 rfl (Row.made W (u8s [a, b]) 5).range
theorem conv2d (W : World) (a b : Int) (g : Nat) (hg : g = W.heap.size) : (convert 28 9 (.slice (some ⟨g, 0, none⟩) 2 2)).run Tryd.prog (W.alloc (.cells #[.int .u8 a, .int .u8 b] 5)).drew = .ok (.string (strOfNums [a, b])) (W.alloc (.cells #[.int .u8 a, .int .u8 b] 5)).drew := by
  subst hg
  exact run_convR _ W.heap.size [a, b] 2 2 rfl (Row.made W (u8s [a, b]) 5).range
theorem conv3 (W : World) (a b c : Int) (g : Nat) (hg : g = W.heap.size) : (convert 28 9 (.slice (some ⟨g, 0, none⟩) 3 3)).run Tryd.prog (W.alloc (.cells #[.int .u8 a, .int .u8 b, .int .u8 c] 5)) = .ok (.string (strOfNums [a, b, c])) (W.alloc (.cells #[.int .u8 a, .int .u8 b, .int .u8 c] 5)) := by
  subst hg
  exact run_convR _ W.heap.size [a, b, c] 3 3 rfl (Row.made W (u8s [a, b, c]) 5).range
theorem conv3d (W : World) (a b c : Int) (g : Nat) (hg : g = W.heap.size) : (convert 28 9 (.slice (some ⟨g, 0, none⟩) 3 3)).run Tryd.prog (W.alloc (.cells #[.int .u8 a, .int .u8 b, .int .u8 c] 5)).drew = .ok (.string (strOfNums [a, b, c])) (W.alloc (.cells #[.int .u8 a, .int .u8 b, .int .u8 c] 5)).drew := by
  subst hg
  exact run_convR _ W.heap.size [a, b, c] 3 3 rfl (Row.made W (u8s [a, b, c]) 5).range
theorem conv6 (W : World) (a b c d e f : Int) (g : Nat) (hg : g = W.heap.size) : (convert 28 9 (.slice (some ⟨g, 0, none⟩) 6 6)).run Tryd.prog (W.alloc (.cells #[.int .u8 a, .int .u8 b, .int .u8 c, .int .u8 d, .int .u8 e, .int .u8 f] 5)) = .ok (.string (strOfNums [a, b, c, d, e, f])) (W.alloc (.cells #[.int .u8 a, .int .u8 b, .int .u8 c, .int .u8 d, .int .u8 e, .int .u8 f] 5)) := by
  subst hg
  exact run_convR _ W.heap.size [a, b, c, d, e, f] 6 6 rfl (Row.made W (u8s [a, b, c, d, e, f]) 5).range
theorem conv6d (W : World) (a b c d e f : Int) (g : Nat) (hg : g = W.heap.size) : (convert 28 9 (.slice (some ⟨g, 0, none⟩) 6 6)).run Tryd.prog (W.alloc (.cells #[.int .u8 a, .int .u8 b, .int .u8 c, .int .u8 d, .int .u8 e, .int .u8 f] 5)).drew = .ok (.string (strOfNums [a, b, c, d, e, f])) (W.alloc (.cells #[.int .u8 a, .int .u8 b, .int .u8 c, .int .u8 d, .int .u8 e, .int .u8 f] 5)).drew := by
  subst hg
  exact run_convR _ W.heap.size [a, b, c, d, e, f] 6 6 rfl (Row.made W (u8s [a, b, c, d, e, f]) 5).range

theorem tdiv_bd (n c : Int) (hc : 1 ≤ c) (h0 : -9223372036854775808 ≤ n) (h1 : n ≤ 9223372036854775807) : IntKind.i64.wrap (n.tdiv c) = n.tdiv c := by
  rcases Int.le_total 0 n with h | h
  · rw [Int.tdiv_eq_ediv_of_nonneg h]
    have a := Int.ediv_nonneg h (show 0 ≤ c by omega)
    have b := Int.ediv_le_self c h
    exact wrap_id _ (by omega) (by omega)
  · obtain ⟨m, rfl⟩ : ∃ m, n = -m := ⟨-n, by omega⟩
    have hm : 0 ≤ m := by omega
    rw [Int.neg_tdiv, Int.tdiv_eq_ediv_of_nonneg hm]
    have a := Int.ediv_nonneg hm (show 0 ≤ c by omega)
    have b := Int.ediv_le_self c hm
    exact wrap_id _ (by omega) (by omega)
theorem size6 (a b c d e f : Int) : (strOfNums [a, b, c, d, e, f]).size = 6 := by rw [strOfNums_size]; rfl
theorem size1 (a : Int) : (strOfNums [a]).size = 1 := by rw [strOfNums_size]; rfl

theorem no_panic {c : List PanicEntry} {A : Prop} (h : Exit.panic c = .normal) : A := by cases h
theorem wp_val {P : Program} {o : Oper} {a : Act} {w w' : World} {v : Value} {K : Act → World → Prop} {Q : Exit → Act → World → Prop} (hrun : (execOp a.eval o).run P w = .ok (.value v) w') (h : K (a.put o.dst v) w') : o.wp P a w K Q := by
  unfold Oper.wp
  rw [hrun]
  exact h
theorem Below.heap_cell_alloc {W : World} {g i : Nat} (hg : g < W.heap.size) (o : Obj) : (W.alloc o).drew.cell? ⟨g, i, none⟩ = W.cell? ⟨g, i, none⟩ :=
  ((Below.refl W.heap.size W).alloc (Nat.le_refl _) o).cell (p := ⟨g, i, none⟩) hg

theorem u8_wrap (x : Int) : IntKind.u8.wrap x = x % 256 := by simp [IntKind.wrap, IntKind.bits, IntKind.signed]

/-- an image's cells -/
def Kep.cells (k : Kep) : List Value := [.int .i64 k.num, .int .i64 k.tries, .string k.pin, .string k.k0, .string k.k1, .string k.k2, .string k.k3]
/-- of texts that are not too long -/
structure Kep.fair (k : Kep) : Prop where
  n0 : -9223372036854775808 ≤ k.num
  n1 : k.num ≤ 9223372036854775807
  t0 : -9223372036854775808 ≤ k.tries
  t1 : k.tries ≤ 9223372036854775807
  pin : k.pin.size < 10000000
  k0 : k.k0.size < 10000000
  k1 : k.k1.size < 10000000
  k2 : k.k2.size < 10000000
  k3 : k.k3.size < 10000000
structure KepAt (w : World) (g o : Nat) (k : Kep) : Prop where
  num : w.cell? ⟨g, o, none⟩ = some (.int .i64 k.num)
  tries : w.cell? ⟨g, o + 1, none⟩ = some (.int .i64 k.tries)
  pin : w.cell? ⟨g, o + 2, none⟩ = some (.string k.pin)
  k0 : w.cell? ⟨g, o + 3, none⟩ = some (.string k.k0)
  k1 : w.cell? ⟨g, o + 4, none⟩ = some (.string k.k1)
  k2 : w.cell? ⟨g, o + 5, none⟩ = some (.string k.k2)
  k3 : w.cell? ⟨g, o + 6, none⟩ = some (.string k.k3)
theorem KepAt.below {w w' : World} {g o B : Nat} {k : Kep} (h : KepAt w g o k) (hb : Below B w w') (hg : g < B) : KepAt w' g o k :=
  ⟨(hb.cell (by exact hg)).trans h.num, (hb.cell (by exact hg)).trans h.tries, (hb.cell (by exact hg)).trans h.pin, (hb.cell (by exact hg)).trans h.k0, (hb.cell (by exact hg)).trans h.k1, (hb.cell (by exact hg)).trans h.k2, (hb.cell (by exact hg)).trans h.k3⟩

theorem img_sz {c p i : Nat} (h : c ≤ 10000100 + 10000100 * i) (hp : p ≤ 10000020) : c + 1 + p ≤ 10000100 + 10000100 * (i + 1) := by omega
theorem img_end (b : ByteArray) (x : Int) : (⟨#[167]⟩ : ByteArray) ++ b ++ strOfNums [x] = str (167 :: (b.data.toList ++ [UInt8.ofNat x.toNat])) := by
  apply ByteArray.ext
  rw [ByteArray.data_append, ByteArray.data_append]
  apply Array.ext'
  simp [str, strOfNums]
theorem b8_add (x : Int) : UInt8.ofNat (x % 256).toNat = b8 x := rfl

/-- the first i of some keys, as an image has them -/
def keysTo (ks : List (List UInt8)) (i : Nat) : List UInt8 := (ks.take i).flatMap keyPart

end Go.Proofs.YtaokemapkgggoaaDoor

namespace Go.Proofs.YtaokemapkgggoaaDoor
open Go.RowKit

theorem alloc_size (W : World) (o : Obj) : (W.alloc o).heap.size = W.heap.size + 1 := Array.size_push ..

/-- which of n things the number c speaks of -/
def pickN (c : Int) (n : Nat) : Nat := ((if c < 0 then -(c + 1) else c) % n).toNat
theorem pickN_lt (c : Int) {n : Nat} (hn : 0 < n) : pickN c n < n := by
  unfold pickN
  generalize (if c < 0 then -(c + 1) else c) = z
  have := Int.emod_lt_of_pos z (show (0 : Int) < n by omega)
  have := Int.emod_nonneg z (show (n : Int) ≠ 0 by omega)
  omega

end Go.Proofs.YtaokemapkgggoaaDoor

namespace Go.Proofs.YtaokemapkgggoaaDoor
open Go.RowKit

/-- a byte of a list, as a number -/
def bAt (l : List UInt8) (i : Nat) : Int := (bytesI l).getD i 0
theorem bAt_B (l : List UInt8) (i : Nat) : 0 ≤ bAt l i ∧ bAt l i < 256 := getD_isB (bytesI_B l) i
theorem bcells_get (l : List UInt8) (i : Nat) (h : i < l.length) : (bcells l)[i]? = some (.int .u8 (bAt l i)) := by
  rw [bcells_eq, u8s_get _ _ (by simpa [bytesI] using h)]; rfl
theorem bcells_length (l : List UInt8) : (bcells l).length = l.length := by simp [bcells]
theorem range_byte {w : World} {g o : Nat} {l : List UInt8} (h : w.rangeAt g o (bcells l)) (i : Nat) (hi : i < l.length) : w.cell? ⟨g, o + i, none⟩ = some (.int .u8 (bAt l i)) := h i _ (bcells_get l i hi)
theorem range_sub {w : World} {g o : Nat} {l : List UInt8} (h : w.rangeAt g o (bcells l)) (a n : Nat) : w.rangeAt g (o + a) (bcells ((l.drop a).take n)) := by
  intro j v hv
  have hj : j < ((l.drop a).take n).length := by
    have := (List.getElem?_eq_some_iff.1 hv).1
    rwa [bcells_length] at this
  rw [Nat.add_assoc]
  refine h (a + j) v ?_
  rw [← hv]
  simp only [bcells, List.getElem?_map, List.getElem?_take, List.getElem?_drop]
  rw [List.length_take, List.length_drop] at hj
  rw [if_pos (by omega)]

set_option maxRecDepth 100000 in
set_option maxHeartbeats 400000 in
theorem prog_checkB (w : World) (g o n c : Nat) (l : List UInt8) (hR : w.rangeAt g o (bcells l)) (hl : l.length = n) (hn : n ≤ 100000) :
    Calls Tryd.prog 66 #[.slice (some ⟨g, o, none⟩) n c] w fun r w' => r = .returned (.int .u8 ((1 + sumB l) % 256)) ∧ w' = w := by
  have HL : Hid (l.length = n) := hl
  clear hl
  go_enter Tryd.func66, Tryd.ntmps66
  go_wp2
  go_loopw [3, 7] (fun sv c wr => ∃ i : Nat, i ≤ n ∧ c = .int .i64 i ∧ sv = .int .u8 ((1 + sumB (l.take i)) % 256) ∧ wr = w) (fun _ c _ => n - (intOf c).toNat)
  case atStart => exact ⟨0, by omega, rfl, by simp [sumB], rfl⟩
  case round =>
    obtain ⟨i, hi, rfl, rfl, rfl⟩ := hrel
    by_cases hlt : i < n
    · have hc := range_byte hR i (by rw [HL.out]; exact hlt)
      have HS : Hid (sumB (l.take (i + 1)) = sumB (l.take i) + bAt l i) := sumB_take_succ l i (by rw [HL.out]; exact hlt)
      obtain ⟨hb0, hb1⟩ := bAt_B l i
      generalize bAt l i = x at *
      generalize sumB (l.take i) = sm at *
      have hlt' : (i : Int) < n := by omega
      go_wp2
      refine ⟨⟨i + 1, by omega, by go_num, ?_, trivial⟩, by simp [intOf]; omega⟩
      rw [HS.out]
      congr 1
      omega
    · have e : l.take i = l := List.take_of_length_le (by rw [HL.out]; omega)
      rw [e]
      have hlt' : ¬ (i : Int) < n := by omega
      go_wp2
      go_ret
      exact ⟨rfl, rfl⟩

set_option maxRecDepth 100000 in
set_option maxHeartbeats 400000 in
theorem prog_checkS (w : World) (s : ByteArray) (hn : s.size ≤ 100000000) :
    Calls Tryd.prog 64 #[.string s] w fun r w' => r = .returned (.int .u8 ((1 + sumB s.data.toList) % 256)) ∧ w' = w := by
  have HL : Hid (s.data.toList.length = s.size) := by show _ = _; rw [Array.length_toList]; rfl
  go_enter Tryd.func64, Tryd.ntmps64
  go_wp2
  go_loopw [3, 7] (fun sv c wr => ∃ i : Nat, i ≤ s.size ∧ c = .int .i64 i ∧ sv = .int .u8 ((1 + sumB (s.data.toList.take i)) % 256) ∧ wr = w) (fun _ c _ => s.size - (intOf c).toNat)
  case atStart => exact ⟨0, by omega, rfl, by simp [sumB], rfl⟩
  case round =>
    obtain ⟨i, hi, rfl, rfl, rfl⟩ := hrel
    by_cases hlt : i < s.size
    · have hc := byte_at hlt
      have HS : Hid (sumB (s.data.toList.take (i + 1)) = sumB (s.data.toList.take i) + bAt s.data.toList i) := sumB_take_succ s.data.toList i (by rw [HL.out]; exact hlt)
      obtain ⟨hb0, hb1⟩ := bAt_B s.data.toList i
      change _ = bAt s.data.toList i at hc
      generalize bAt s.data.toList i = x at *
      generalize sumB (s.data.toList.take i) = sm at *
      have hlt' : (i : Int) < s.size := by omega
      go_wp2
      refine ⟨⟨i + 1, by omega, by go_num, ?_, trivial⟩, by simp [intOf]; omega⟩
      rw [HS.out]
      congr 1
      omega
    · have e : s.data.toList.take i = s.data.toList := List.take_of_length_le (by rw [HL.out]; omega)
      rw [e]
      have hlt' : ¬ (i : Int) < s.size := by omega
      go_wp2
      go_ret
      exact ⟨rfl, rfl⟩

/-- an image in memory: 100 bytes from place o on -/
structure ImgAt (w : World) (g o : Nat) (l : List UInt8) : Prop where
  len : l.length = 100
  at_ : w.rangeAt g o (bcells l)
theorem ImgAt.b {w : World} {g o : Nat} {l : List UInt8} (h : ImgAt w g o l) (i : Nat) (hi : i < 100) : w.cell? ⟨g, o + i, none⟩ = some (.int .u8 (bAt l i)) := range_byte h.at_ i (by rw [h.len]; exact hi)
def numOf (l : List UInt8) : Int := word4 (bAt l 1) (bAt l 2) (bAt l 3) (bAt l 4)
theorem numOf_w (l : List UInt8) : isW (numOf l) := word4_w (bAt_B l 1) (bAt_B l 2) (bAt_B l 3) (bAt_B l 4)

set_option maxRecDepth 100000 in
set_option maxHeartbeats 400000 in
theorem prog_number (w : World) (g o : Nat) (l : List UInt8) (h : ImgAt w g o l) :
    Calls Tryd.prog 58 #[.pointer (some ⟨g, o, none⟩)] w fun r w' => r = .returned (.int .u32 (numOf l)) ∧ ∃ n, w' = w.drewN n := by
  have c1 := h.b 1 (by omega)
  have c2 := h.b 2 (by omega)
  have c3 := h.b 3 (by omega)
  have c4 := h.b 4 (by omega)
  have p1 := bAt_B l 1
  have p2 := bAt_B l 2
  have p3 := bAt_B l 3
  have p4 := bAt_B l 4
  have HN : Hid (numOf l = word4 (bAt l 1) (bAt l 2) (bAt l 3) (bAt l 4)) := rfl
  clear h
  generalize bAt l 1 = x1 at *
  generalize bAt l 2 = x2 at *
  generalize bAt l 3 = x3 at *
  generalize bAt l 4 = x4 at *
  generalize numOf l = nn at *
  go_enter Tryd.func58, Tryd.ntmps58
  go_wp2
  go_quiet ((go_at_call 49; exact Calls.quiet_of_same (prog_word _ _ _ _ _ p1 p2 p3 p4)))
  go_wp2
  go_ret
  exact ⟨ret_int HN.out.symm, _, rfl⟩

theorem under_img : Tryd.prog.underlying 75 = some (.array 100 5) := by kernel_rfl
theorem under_pin : Tryd.prog.underlying 87 = some (.array 9 5) := by kernel_rfl
theorem under_flash : Tryd.prog.underlying 77 = some (.array 2 75) := by kernel_rfl

/-- the check of an image -/
def chkOf (l : List UInt8) : Int := (1 + sumB ((l.drop 1).take 98)) % 256

set_option maxRecDepth 100000 in
set_option maxHeartbeats 400000 in
theorem prog_check (w : World) (g o : Nat) (l : List UInt8) (h : ImgAt w g o l) :
    Calls Tryd.prog 71 #[.pointer (some ⟨g, o, none⟩)] w fun r w' => r = .returned (.int .u8 (chkOf l)) ∧ w' = w := by
  have hsl := fun wx => run_sliceArr2 (P := Tryd.prog) wx 75 5 100 under_img size_byte g o 1 99 (by omega) (by omega) (by omega) 1 99 rfl rfl
  have hr := range_sub h.at_ 1 98
  have hlen : Hid (((l.drop 1).take 98).length = 98) := by show _ = _; rw [List.length_take, List.length_drop, h.len]; rfl
  clear h
  go_enter Tryd.func71, Tryd.ntmps71
  go_wp2_with (go_at_call 66; refine (prog_checkB w g (o + 1) 98 99 _ hr hlen.out (by omega)).mono ?_; rintro _ w9 ⟨rfl, e9⟩; rw [e9]; clear e9 w9; rw [show (1 + sumB ((l.drop 1).take 98)) % 256 = chkOf l from rfl])
  go_ret
  exact ⟨rfl, rfl⟩

set_option maxRecDepth 100000 in
set_option maxHeartbeats 400000 in
theorem prog_worn (w : World) (g o : Nat) (l : List UInt8) (h : ImgAt w g o l) :
    Calls Tryd.prog 86 #[.pointer (some ⟨g, o, none⟩)] w fun r w' => r = .returned (.bool (decide (numOf l = 4294967295))) ∧ ∃ n, w' = w.drewN n := by
  go_enter Tryd.func86, Tryd.ntmps86
  go_wp2_with (go_at_call 58; refine (prog_number w g o l h).mono ?_; rintro _ w9 ⟨rfl, n9, e9⟩; rw [e9]; clear e9 w9)
  go_ret
  exact ⟨rfl, _, rfl⟩

set_option maxRecDepth 100000 in
set_option maxHeartbeats 400000 in
theorem prog_pin (w : World) (g o : Nat) :
    Calls Tryd.prog 59 #[.pointer (some ⟨g, o, none⟩)] w fun r w' => r = .returned (.pointer (some ⟨g, o + 6, none⟩)) ∧ w' = w := by
  have hsl := fun wx => run_sliceArr2 (P := Tryd.prog) wx 75 5 100 under_img size_byte g o 6 15 (by omega) (by omega) (by omega) 6 15 rfl rfl
  have har := fun wx => run_arrayAt (P := Tryd.prog) (w := wx) 87 5 9 (some ⟨g, o + 6, none⟩) 9 94 under_pin (Nat.le_refl _)
  go_enter Tryd.func59, Tryd.ntmps59
  go_wp2
  go_ret
  exact ⟨rfl, rfl⟩

set_option maxRecDepth 100000 in
set_option maxHeartbeats 400000 in
theorem prog_key (w : World) (g o i : Nat) (hi : i < 4) :
    Calls Tryd.prog 77 #[.pointer (some ⟨g, o, none⟩), .int .i64 i] w fun r w' => r = .returned (.pointer (some ⟨g, o + (15 + 21 * i), none⟩)) ∧ w' = w := by
  have hsl := fun wx => run_sliceArr2 (P := Tryd.prog) wx 75 5 100 under_img size_byte g o (15 + 21 * i) (15 + 21 * i + 21) (by omega) (by omega) (by omega) (15 + (i : Int) * 21) (15 + (i : Int) * 21 + 21) (by omega) (by omega)
  rw [show 15 + 21 * i + 21 - (15 + 21 * i) = 21 by omega] at hsl
  have har := fun wx => run_arrayAt (P := Tryd.prog) (w := wx) 63 5 21 (some ⟨g, o + (15 + 21 * i), none⟩) 21 (100 - (15 + 21 * i)) under21b (Nat.le_refl _)
  have w1 : IntKind.i64.wrap ((i : Int) * 21) = (i : Int) * 21 := wrap_id _ (by omega) (by omega)
  have w2 : IntKind.i64.wrap (15 + (i : Int) * 21) = 15 + (i : Int) * 21 := wrap_id _ (by omega) (by omega)
  have w3 : IntKind.i64.wrap (15 + (i : Int) * 21 + 21) = 15 + (i : Int) * 21 + 21 := wrap_id _ (by omega) (by omega)
  go_enter Tryd.func77, Tryd.ntmps77
  go_wp2
  go_ret
  exact ⟨rfl, rfl⟩
end Go.Proofs.YtaokemapkgggoaaDoor

namespace Go.Proofs.YtaokemapkgggoaaDoor
open Go.RowKit

theorem told_str (b : ByteArray) (x y z : Int) : (⟨#[165]⟩ : ByteArray) ++ strOfNums [x, y] ++ b ++ strOfNums [z] = str ([165, UInt8.ofNat x.toNat, UInt8.ofNat y.toNat] ++ b.data.toList ++ [UInt8.ofNat z.toNat]) := by
  apply ByteArray.ext
  rw [ByteArray.data_append, ByteArray.data_append, ByteArray.data_append]
  apply Array.ext'
  simp [str, strOfNums]
theorem size2 (a b : Int) : (strOfNums [a, b]).size = 2 := by rw [strOfNums_size]; rfl

/-- the document's device in memory -/
structure Dv where
  sm : Nat
  h0 : ByteArray
  h1 : ByteArray
  k : Kep
  wh : Int
  unl : Bool
  off : Bool
  cut : Int
  inn : ByteArray
def Dv.cells (d : Dv) : List Value := [.pointer (some ⟨d.sm, 0, none⟩), .string d.h0, .string d.h1, .int .i64 d.k.num, .int .i64 d.k.tries, .string d.k.pin, .string d.k.k0, .string d.k.k1, .string d.k.k2, .string d.k.k3, .int .i64 d.wh, .bool d.unl, .bool d.off, .int .i64 d.cut, .string d.inn]
end Go.Proofs.YtaokemapkgggoaaDoor

namespace Go.Proofs.YtaokemapkgggoaaDoor
open Go.RowKit

def Kep.next (k : Kep) (n : Int) : Kep := { k with num := n }
/-- the device behind a write that was not cut off -/
def Dv.wrote (d : Dv) (k : Kep) : Dv :=
  { d with h0 := if d.wh = 0 then d.h0 else str (k.next (d.k.num + 1)).img, h1 := if d.wh = 0 then str (k.next (d.k.num + 1)).img else d.h1, k := k.next (d.k.num + 1), wh := 1 - d.wh, cut := if d.cut < 0 then d.cut else d.cut - 101 }

def isStruct : Option TypeDesc → Bool
  | some (.struct _) => true
  | _ => false
theorem struct_is {u : Option TypeDesc} (h : isStruct u = true) : ∃ fs, u = some (.struct fs) := by
  unfold isStruct at h
  split at h
  · exact ⟨_, rfl⟩
  · cases h
theorem Row.setCells {g : Nat} {t : TypeId} : ∀ (vs : List Value) (o : Nat) {w : World} {cs : List Value}, Row w g cs t → o + vs.length ≤ cs.length → Row (w.setCells g o vs) g (splice cs o vs) t
  | [], o, w, cs, h, _ => by simpa [World.setCells, splice] using h
  | v :: r, o, w, cs, h, hl => by
    have hl' : o + (r.length + 1) ≤ cs.length := hl
    have := Row.setCells r (o + 1) (h.setCell o v) (by rw [List.length_set]; omega)
    rw [World.setCells]
    have e : splice (cs.set o v) (o + 1) r = splice cs o (v :: r) := by
      unfold splice
      rw [List.take_succ_eq_append_getElem (by rw [List.length_set]; omega), List.getElem_set_self, List.take_set_of_le (Nat.le_refl _), List.append_assoc, List.singleton_append]
      congr 2
      rw [List.length_cons, show o + 1 + r.length = o + (r.length + 1) by omega, List.drop_set_of_lt (by omega)]
      rfl
    rwa [e] at this
theorem grown_setCells {w : World} {g : Nat} : ∀ (vs : List Value) (o : Nat) {W : World}, w.grownBy W (some g) → w.grownBy (W.setCells g o vs) (some g)
  | [], _, _, h => h
  | v :: r, o, W, h => by rw [World.setCells]; exact grown_setCells r (o + 1) (h.trans (Lib.grownBy_setCell W g o v))
theorem grown_set {w W : World} {g : Nat} (h : w.grownBy W (some g)) (o : Nat) (v : Value) : w.grownBy (W.setCell ⟨g, o, none⟩ v) (some g) := h.trans (Lib.grownBy_setCell W g o v)
theorem grown_of_below {w W : World} (r : Option Nat) (hb : Below w.heap.size w W) : w.grownBy W r := ⟨hb.os, hb.tape, hb.output, hb.size, fun k hk _ => hb.block k hk⟩
theorem grown_below {w W W' : World} {r : Option Nat} (h : w.grownBy W r) (hb : Below W.heap.size W W') : w.grownBy W' r := h.trans (grown_of_below r hb)
theorem row7 {w : World} {g : Nat} {t : TypeId} {a b c d e f i : Value} (h : Row w g [a, b, c, d, e, f, i] t) :
    w.cell? ⟨g, 0, none⟩ = some a ∧ w.cell? ⟨g, 1, none⟩ = some b ∧ w.cell? ⟨g, 2, none⟩ = some c ∧ w.cell? ⟨g, 3, none⟩ = some d ∧ w.cell? ⟨g, 4, none⟩ = some e ∧ w.cell? ⟨g, 5, none⟩ = some f ∧ w.cell? ⟨g, 6, none⟩ = some i :=
  ⟨h.cell.trans rfl, h.cell.trans rfl, h.cell.trans rfl, h.cell.trans rfl, h.cell.trans rfl, h.cell.trans rfl, h.cell.trans rfl⟩
theorem Row.thereFrom {w : World} {g : Nat} {cs : List Value} {t : TypeId} (h : Row w g cs t) (o n : Nat) (hn : o + n ≤ cs.length) : w.there g o n := fun j hj =>
  ⟨by rw [h.cell, List.getElem?_eq_getElem (by omega)]; rfl, h.frozen _⟩
/-- a cell of a block that is newer than w -/
theorem grown_new {w W : World} {r : Option Nat} (h : w.grownBy W r) (b o : Nat) (v : Value) (hb : w.heap.size ≤ b) : w.grownBy (W.setCell ⟨b, o, none⟩ v) r :=
  h.andThen (Lib.grownBy_setCell W b o v) (fun j hj => .inl (by cases hj; exact hb))

end Go.Proofs.YtaokemapkgggoaaDoor

namespace Go.Proofs.YtaokemapkgggoaaDoor
open Go.RowKit

theorem grown_setRow {w W : World} {g : Nat} (h : w.grownBy W (some g)) (cs : Array Value) : w.grownBy (W.setRow g cs) (some g) :=
  h.trans ⟨rfl, rfl, rfl, by simp [World.setRow], fun k _ hk => Go.setRow_other W g k cs (fun e => hk (by rw [e]))⟩
theorem grown_drew' {w W : World} {r : Option Nat} (h : w.grownBy W r) : w.grownBy W.drew r := ⟨h.os, h.tape, h.output, h.size, h.block⟩
theorem ImgAt.of_row {w : World} {g : Nat} {l : List UInt8} {t : TypeId} (h : Row w g (bcells l) t) (hl : l.length = 100) : ImgAt w g 0 l := ⟨hl, h.range⟩
theorem splice_u8 (l : List UInt8) (o : Nat) (m : List UInt8) : splice (bcells l) o (bcells m) = bcells (l.take o ++ m ++ l.drop (o + m.length)) := by
  unfold splice
  rw [bcells_length]
  simp [bcells, List.map_take, List.map_drop]
def withNum (l : List UInt8) (x : Int) : List UInt8 := l.take 1 ++ toBytes (four x) ++ l.drop 5
theorem withNum_length (l : List UInt8) (x : Int) (h : l.length = 100) : (withNum l x).length = 100 := by simp [withNum, toBytes_length, four]; omega
/-- the image with the next number, and its check -/
def turned (l : List UInt8) : List UInt8 := (withNum l ((numOf l + 1) % 4294967296)).set 99 (b8 (chkOf (withNum l ((numOf l + 1) % 4294967296))))
theorem turned_length (l : List UInt8) (h : l.length = 100) : (turned l).length = 100 := by rw [turned, List.length_set, withNum_length l _ h]
theorem chkOf_B (l : List UInt8) : 0 ≤ chkOf l ∧ chkOf l < 256 := by unfold chkOf; omega
theorem bcells_set (l : List UInt8) (i : Nat) (x : Int) (h0 : 0 ≤ x) (h1 : x < 256) : (bcells l).set i (.int .u8 x) = bcells (l.set i (b8 x)) := by
  have e : ((b8 x).toNat : Int) = x := by rw [b8_toNat]; omega
  simp only [bcells, List.map_set, e]
theorem four_cells (x : Int) (h : isW x) : u8s (four x) = bcells (toBytes (four x)) := by
  rw [bcells_eq, bytesI_toBytes (four_B h)]

set_option maxRecDepth 100000 in
set_option maxHeartbeats 1000000 in
theorem prog_turnNumber (w : World) (g : Nat) (l : List UInt8) (hR : Row w g (bcells l) 75) (hl : l.length = 100) :
    Calls Tryd.prog 60 #[.pointer (some ⟨g, 0, none⟩)] w fun r w' => r = .returned (.tuple #[]) ∧ Row w' g (bcells (turned l)) 75 ∧ w.grownBy w' (some g) := by
  have HL : Hid (l.length = 100) := hl
  clear hl
  have I0 : Hid (ImgAt w g 0 l) := ImgAt.of_row hR HL.out
  obtain ⟨nx, HNX⟩ : ∃ nx, Hid (nx = (numOf l + 1) % 4294967296) := ⟨_, rfl⟩
  have hnx : isW nx := by rw [HNX.out]; unfold isW; omega
  have hnw := numOf_w l
  obtain ⟨hnw0, hnw1⟩ := hnw
  obtain ⟨fx, HFX⟩ : ∃ fx, Hid (fx = u8s (four nx)) := ⟨_, rfl⟩
  have HFL : Hid (fx.length = 4) := by show _ = _; rw [HFX.out]; rfl
  have HFO : ∀ v ∈ fx, v.oneCell' = true := by rw [HFX.out]; exact u8s_one _
  obtain ⟨m, HM⟩ : ∃ m, Hid (m = withNum l nx) := ⟨_, rfl⟩
  have hml : Hid (m.length = 100) := by show _ = _; rw [HM.out]; exact withNum_length l nx HL.out
  have HSP : Hid (splice (bcells l) 1 fx = bcells m) := by
    show _ = _
    rw [HFX.out, four_cells nx hnx, splice_u8, HM.out]
    rfl
  have hsl := fun wx => run_sliceArr2 (P := Tryd.prog) wx 75 5 100 under_img size_byte g 0 1 5 (by omega) (by omega) (by omega) 1 5 rfl rfl
  obtain ⟨nn, HNN⟩ : ∃ nn, Hid (nn = numOf l) := ⟨_, rfl⟩
  rw [← HNN.out] at hnw0 hnw1
  have hgl : g < w.heap.size := hR.lt
  go_enter Tryd.func60, Tryd.ntmps60
  go_wp2_with (first | (go_at_call 58; refine (prog_number w g 0 l I0.out).mono ?_; rintro _ w0 ⟨rfl, n0, e0⟩; rw [← HNN.out]; have hR0 : Row w0 g (bcells l) 75 := (by rw [e0]; exact hR); have hg0 : w.grownBy w0 (some g) := (by rw [e0]; exact grown_of_below _ (below_drewN (Below.refl _ _) _)); clear e0) | (go_at_call 63; rw [show (nn + 1) % 4294967296 = nx by rw [HNN.out, HNX.out]]; refine (prog_fourBytes nx _ hnx).mono ?_; rintro _ w1 ⟨rfl, hb1⟩; rw [← HFX.out]; have hR1 : Row w1 g (bcells l) 75 := hR0.below hb1 hR0.lt; have hg1 : w.grownBy w1 (some g) := grown_below hg0 hb1; clear hb1 hg0 hR0) | (refine wpList_allocR rfl 118 rfl 4 (.int .u8 0) arr4b ?_; go_simp) | (refine wpList_storeMA rfl 118 _ _ rfl _ rfl rfl fx rfl 118 _ 4 (.int .u8 0) arr4b HFL.out (zrow_length _ _) HFO ?_; intro w3 hr5 hb3; have hR3 : Row w3 g (bcells l) 75 := hR1.below hb3 hR1.lt; have hg3 : w.grownBy w3 (some g) := grown_below hg1 hb3; have hne3 : ¬ g = w1.heap.size := (by have := hR1.lt; omega); clear hR1 hg1 hb3; go_simp))
  have hcp : (Builtin.copy_ #[28, 28] 3 #[.slice (some ⟨g, 1, none⟩) 4 99, .slice (some ⟨w1.heap.size, 0, none⟩) 4 4]).run Tryd.prog w3.drew = .ok (.int .i64 4) (w3.drew.setRow g (bcells m).toArray) := by
    have hr := run_copy_row (P := Tryd.prog) w3.drew 28 28 3 5 g 1 4 99 ⟨w1.heap.size, 0, none⟩ 4 4 (bcells l).toArray 75 fx under_bytes size_byte hR3 (by rw [HFL.out]; rfl) (row_src (show Row w3.drew _ _ _ from hr5)) (by rw [HFL.out, List.size_toArray, bcells_length, HL.out]; omega) HFO
    rw [HFL.out, List.toList_toArray] at hr
    have e := HSP.out
    unfold splice at e
    rw [HFL.out] at e
    rw [← e, hr]
    simp [goInt]
  have hR4 : Row (w3.drew.setRow g (bcells m).toArray) g (bcells m) 75 := Row.setRow hR3.drew _
  have hg4 : w.grownBy (w3.drew.setRow g (bcells m).toArray) (some g) := grown_setRow (grown_drew' hg3) _
  clear hr5 hR3 hg3 HSP
  go_region
  clear hcp
  generalize w3.drew.setRow g (bcells m).toArray = w4 at *
  have I4 : Hid (ImgAt w4.drew g 0 m) := ImgAt.of_row hR4.drew hml.out
  have c99 := I4.out.b 99 (by omega)
  rw [Nat.zero_add] at c99
  have f99 := hR4.frozen 99
  obtain ⟨cb0, cb1⟩ := chkOf_B m
  have HT : Hid ((bcells m).set 99 (.int .u8 (chkOf m)) = bcells (turned l)) := by
    show _ = _
    rw [bcells_set m 99 _ cb0 cb1, turned, ← HNX.out, ← HM.out]
  go_wp2
  go_region_with (first | (go_at_call 71; refine (prog_check _ g 0 m I4.out).mono ?_; rintro _ w9 ⟨rfl, e9⟩; rw [e9]; clear e9 w9))
  go_wp2
  go_end0
  have hfin := (hR4.drew).setCell 99 (.int .u8 (chkOf m))
  rw [HT.out] at hfin
  exact ⟨rfl, hfin, grown_set (grown_drew' hg4) 99 _⟩
end Go.Proofs.YtaokemapkgggoaaDoor
