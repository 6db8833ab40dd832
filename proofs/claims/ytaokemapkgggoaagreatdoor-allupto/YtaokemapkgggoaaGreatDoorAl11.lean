import Derived.Test.YtaokemapkgggoaaGreatDoorAl09
import Derived.Test.YtaokemapkgggoaaGreatDoorAl10
namespace Go.Proofs.YtaokemapkgggoaaGreatDoor
open Go.RowKit

def strLen : Value → Nat
  | .string s => s.size
  | _ => 0
theorem strLen_string (s : ByteArray) : strLen (.string s) = s.size := rfl
theorem str_push0 (l : List UInt8) : str l ++ ⟨#[0]⟩ = str (l ++ [0]) := str_append l [0]

set_option maxRecDepth 100000 in
set_option maxHeartbeats 400000 in
theorem ref_filled (s : ByteArray) (n : Nat) (w : World) (hn : n ≤ 1000) (hs : s.size < 100000000) :
    Calls Tryz.prog 52 #[.string s, .int .i64 n] w fun r w' => r = .returned (.string (str (padTo n s.data.toList))) ∧ w' = w := by
  have hz : Hid (s.size = s.data.toList.length) := by show _ = _; rw [Array.length_toList]; rfl
  go_enter Tryz.func52, Tryz.ntmps52
  go_wp2
  go_loopw [0] (fun c wr => ∃ (j : Nat) (cur : ByteArray), c = .string cur ∧ cur = str (s.data.toList ++ List.replicate j 0) ∧ (j = 0 ∨ s.size + j ≤ n) ∧ wr = w) (fun c _ => n - strLen c)
  case atStart => exact ⟨0, s, rfl, by simp [list_str], .inl rfl, rfl⟩
  case round =>
    obtain ⟨j, cur, rfl, hc, hj, rfl⟩ := hrel
    have hcs : cur.size = s.size + j := by rw [hc, str_size, List.length_append, List.length_replicate, hz.out]
    have HC : Hid (cur = str (s.data.toList ++ List.replicate j 0)) := hc
    clear hc
    by_cases hlt : cur.size < n
    · have hlt' : (cur.size : Int) < n := by omega
      have hb : cur.size < 100000000 := by omega
      go_wp2
      refine ⟨⟨j + 1, _, rfl, ?_, .inr (by omega), trivial⟩, ?_⟩
      · rw [HC.out, str_push0, List.append_assoc, ← List.replicate_succ']
      · rw [strLen_string, strLen_string, ByteArray.size_append]
        have e1 : (⟨#[0]⟩ : ByteArray).size = 1 := rfl
        omega
    · have hlt' : ¬ (cur.size : Int) < n := by omega
      go_wp2
      go_ret
      refine ⟨?_, rfl⟩
      have e : j = n - s.data.toList.length := by have := hz.out; omega
      rw [HC.out, e]; rfl

/-- a text of bytes that were just laid side by side -/
theorem conv1 (W : World) (a : Int) (g : Nat) (hg : g = W.heap.size) : (convert 49 9 (.slice (some ⟨g, 0, none⟩) 1 1)).run Tryz.prog (W.alloc (.cells #[.int .u8 a] 5)) = .ok (.string (strOfNums [a])) (W.alloc (.cells #[.int .u8 a] 5)) := by
  subst hg
  exact run_convR _ W.heap.size [a] 1 1 rfl (Row.made W (u8s [a]) 5).range
theorem conv1d (W : World) (a : Int) (g : Nat) (hg : g = W.heap.size) : (convert 49 9 (.slice (some ⟨g, 0, none⟩) 1 1)).run Tryz.prog (W.alloc (.cells #[.int .u8 a] 5)).drew = .ok (.string (strOfNums [a])) (W.alloc (.cells #[.int .u8 a] 5)).drew := by
  subst hg
  exact run_convR _ W.heap.size [a] 1 1 rfl (Row.made W (u8s [a]) 5).range
theorem conv2 (W : World) (a b : Int) (g : Nat) (hg : g = W.heap.size) : (convert 49 9 (.slice (some ⟨g, 0, none⟩) 2 2)).run Tryz.prog (W.alloc (.cells #[.int .u8 a, .int .u8 b] 5)) = .ok (.string (strOfNums [a, b])) (W.alloc (.cells #[.int .u8 a, .int .u8 b] 5)) := by
  subst hg
  exact run_convR _ W.heap.size [a, b] 2 2 rfl (Row.made W (u8s [a, b]) 5).range
theorem conv3d (W : World) (a b c : Int) (g : Nat) (hg : g = W.heap.size) : (convert 49 9 (.slice (some ⟨g, 0, none⟩) 3 3)).run Tryz.prog (W.alloc (.cells #[.int .u8 a, .int .u8 b, .int .u8 c] 5)).drew = .ok (.string (strOfNums [a, b, c])) (W.alloc (.cells #[.int .u8 a, .int .u8 b, .int .u8 c] 5)).drew := by
  subst hg
  exact run_convR _ W.heap.size [a, b, c] 3 3 rfl (Row.made W (u8s [a, b, c]) 5).range
theorem conv6d (W : World) (a b c d e f : Int) (g : Nat) (hg : g = W.heap.size) : (convert 49 9 (.slice (some ⟨g, 0, none⟩) 6 6)).run Tryz.prog (W.alloc (.cells #[.int .u8 a, .int .u8 b, .int .u8 c, .int .u8 d, .int .u8 e, .int .u8 f] 5)).drew = .ok (.string (strOfNums [a, b, c, d, e, f])) (W.alloc (.cells #[.int .u8 a, .int .u8 b, .int .u8 c, .int .u8 d, .int .u8 e, .int .u8 f] 5)).drew := by
  subst hg
  exact run_convR _ W.heap.size [a, b, c, d, e, f] 6 6 rfl (Row.made W (u8s [a, b, c, d, e, f]) 5).range

theorem tdiv_bd (n c : Int) (hc : 1 ≤ c) (h0 : -9223372036854775808 ≤ n) (h1 : n ≤ 9223372036854775807) : IntKind.i64.wrap (n.tdiv c) = n.tdiv c := by
  rcases Int.le_total 0 n with h | h
  · rw [Int.tdiv_eq_ediv_of_nonneg h]
    have a := Int.ediv_nonneg h (show 0 ≤ c by omega)
    have b := Int.ediv_le_self c h
    exact wrap_id _ (by omega) (by omega)
  · obtain ⟨m, rfl⟩ : ∃ m, n = -m := ⟨-n, by omega⟩
    have hm : 0 ≤ m := by omega
    rw [Int.neg_tdiv, Int.tdiv_eq_ediv_of_nonneg hm]
    have a := Int.ediv_nonneg hm (show 0 ≤ c by omega)
    have b := Int.ediv_le_self c hm
    exact wrap_id _ (by omega) (by omega)
theorem size6 (a b c d e f : Int) : (strOfNums [a, b, c, d, e, f]).size = 6 := by rw [strOfNums_size]; rfl
theorem size1 (a : Int) : (strOfNums [a]).size = 1 := by rw [strOfNums_size]; rfl

theorem no_panic {c : List PanicEntry} {A : Prop} (h : Exit.panic c = .normal) : A := by cases h
theorem wp_val {P : Program} {o : Oper} {a : Act} {w w' : World} {v : Value} {K : Act → World → Prop} {Q : Exit → Act → World → Prop} (hrun : (execOp a.eval o).run P w = .ok (.value v) w') (h : K (a.put o.dst v) w') : o.wp P a w K Q := by
  unfold Oper.wp
  rw [hrun]
  exact h
theorem Below.heap_cell_alloc {W : World} {g i : Nat} (hg : g < W.heap.size) (o : Obj) : (W.alloc o).drew.cell? ⟨g, i, none⟩ = W.cell? ⟨g, i, none⟩ :=
  ((Below.refl W.heap.size W).alloc (Nat.le_refl _) o).cell (p := ⟨g, i, none⟩) hg

theorem u8_wrap (x : Int) : IntKind.u8.wrap x = x % 256 := by simp [IntKind.wrap, IntKind.bits, IntKind.signed]

/-- an image's cells -/
def Kep.cells (k : Kep) : List Value := [.int .i64 k.num, .int .i64 k.tries, .string k.pin, .string k.k0, .string k.k1, .string k.k2, .string k.k3]
/-- of texts that are not too long -/
structure Kep.fair (k : Kep) : Prop where
  n0 : -9223372036854775808 ≤ k.num
  n1 : k.num ≤ 9223372036854775807
  t0 : -9223372036854775808 ≤ k.tries
  t1 : k.tries ≤ 9223372036854775807
  pin : k.pin.size < 10000000
  k0 : k.k0.size < 10000000
  k1 : k.k1.size < 10000000
  k2 : k.k2.size < 10000000
  k3 : k.k3.size < 10000000
structure KepAt (w : World) (g o : Nat) (k : Kep) : Prop where
  num : w.cell? ⟨g, o, none⟩ = some (.int .i64 k.num)
  tries : w.cell? ⟨g, o + 1, none⟩ = some (.int .i64 k.tries)
  pin : w.cell? ⟨g, o + 2, none⟩ = some (.string k.pin)
  k0 : w.cell? ⟨g, o + 3, none⟩ = some (.string k.k0)
  k1 : w.cell? ⟨g, o + 4, none⟩ = some (.string k.k1)
  k2 : w.cell? ⟨g, o + 5, none⟩ = some (.string k.k2)
  k3 : w.cell? ⟨g, o + 6, none⟩ = some (.string k.k3)
theorem KepAt.below {w w' : World} {g o B : Nat} {k : Kep} (h : KepAt w g o k) (hb : Below B w w') (hg : g < B) : KepAt w' g o k :=
  ⟨(hb.cell (by exact hg)).trans h.num, (hb.cell (by exact hg)).trans h.tries, (hb.cell (by exact hg)).trans h.pin, (hb.cell (by exact hg)).trans h.k0, (hb.cell (by exact hg)).trans h.k1, (hb.cell (by exact hg)).trans h.k2, (hb.cell (by exact hg)).trans h.k3⟩

theorem img_sz {c p i : Nat} (h : c ≤ 10000100 + 10000100 * i) (hp : p ≤ 10000020) : c + 1 + p ≤ 10000100 + 10000100 * (i + 1) := by omega
theorem img_end (b : ByteArray) (x : Int) : (⟨#[167]⟩ : ByteArray) ++ b ++ strOfNums [x] = str (167 :: (b.data.toList ++ [UInt8.ofNat x.toNat])) := by
  apply ByteArray.ext
  rw [ByteArray.data_append, ByteArray.data_append]
  apply Array.ext'
  simp [str, strOfNums]
/-- the first i of some keys, as an image has them -/
def keysTo (ks : List (List UInt8)) (i : Nat) : List UInt8 := (ks.take i).flatMap keyPart

set_option linter.unusedSimpArgs false in
set_option maxRecDepth 100000 in
set_option maxHeartbeats 2000000 in
theorem ref_Image (k : Kep) (w : World) (hk : k.fair) :
    Calls Tryz.prog 24 #[.agg k.cells.toArray] w fun r w' => r = .returned (.string (str k.img)) ∧ Below w.heap.size w w' := by
  obtain ⟨num, tries, pin, k0, k1, k2, k3⟩ := k
  obtain ⟨n0, n1, t0, t1, hp, h0, h1, h2, h3⟩ := hk
  simp only at n0 n1 t0 t1 hp h0 h1 h2 h3
  simp only [Kep.cells]
  obtain ⟨p8, HP8⟩ : ∃ p8, Hid (p8 = str (padTo 8 pin.data.toList)) := ⟨_, rfl⟩
  have hp8 : p8.size < 10000008 := by
    have hz : pin.size = pin.data.toList.length := by rw [Array.length_toList]; rfl
    rw [HP8.out, str_size, padTo, List.length_append, List.length_replicate]; omega
  go_enter Tryz.func24, Tryz.ntmps24
  go_wp2_with (first | (refine wpList_boxM rfl 34 _ rfl [.int .i64 num, .int .i64 tries, .string pin, .string k0, .string k1, .string k2, .string k3] rfl ?_; intro w1 hr1 hb1; go_simp))
  have c0 := hr1.cell (i := 0)
  have c1 := hr1.cell (i := 1)
  have c2 := hr1.cell (i := 2)
  simp only [List.getElem?_cons_zero, List.getElem?_cons_succ] at c0 c1 c2
  have hz6 := size6
  have hw8 : ∀ x : Int, IntKind.u8.wrap x = x % 256 := u8_wrap
  have hp8' : 6 + p8.size ≤ 9223372036854775807 := by omega
  have hcv := fun W a b c d e f => conv6d W a b c d e f W.heap.size rfl
  have q1 : IntKind.i64.wrap (num.tdiv 16777216) = num.tdiv 16777216 := tdiv_bd num 16777216 (by omega) n0 n1
  have q2 : IntKind.i64.wrap (num.tdiv 65536) = num.tdiv 65536 := tdiv_bd num 65536 (by omega) n0 n1
  have q3 : IntKind.i64.wrap (num.tdiv 256) = num.tdiv 256 := tdiv_bd num 256 (by omega) n0 n1
  have hS0 : w1.drew.cell? ⟨w.heap.size, 0, none⟩ = some (.int .i64 num) ∧ w1.drew.cell? ⟨w.heap.size, 1, none⟩ = some (.int .i64 tries) ∧ w1.drew.cell? ⟨w.heap.size, 2, none⟩ = some (.string pin) := ⟨c0, c1, c2⟩
  have hS1 : (fun w' => w'.cell? ⟨w.heap.size, 0, none⟩ = some (.int .i64 num) ∧ w'.cell? ⟨w.heap.size, 1, none⟩ = some (.int .i64 tries) ∧ w'.cell? ⟨w.heap.size, 2, none⟩ = some (.string pin)) ((w1.alloc (.cells #[.int .u8 (num.tdiv 16777216 % 256), .int .u8 ((num.tdiv 65536).tmod 256 % 256), .int .u8 ((num.tdiv 256).tmod 256 % 256), .int .u8 (num.tmod 256 % 256), .int .u8 (tries % 256), .int .u8 ((pin.size : Int) % 256)] 5)).drew) :=
    ⟨(Below.heap_cell_alloc hr1.lt _).trans c0, (Below.heap_cell_alloc hr1.lt _).trans c1, (Below.heap_cell_alloc hr1.lt _).trans c2⟩
  refine Code.wp_mono (Q := fun e_ a_ w_ => e_ = .normal ∧ a_ = Act.mk (List.toArray ((.agg [.int .i64 num, .int .i64 tries, .string pin, .string k0, .string k1, .string k2, .string k3].toArray) :: (.pointer (some ⟨w.heap.size, 0, none⟩)) :: (.string ⟨#[]⟩) :: (.string (strOfNums [num.tdiv 16777216 % 256, (num.tdiv 65536).tmod 256 % 256, (num.tdiv 256).tmod 256 % 256, num.tmod 256 % 256, tries % 256, (pin.size : Int) % 256] ++ p8)) :: undef :: undef :: undef :: (Value.pointer (some { block := w.heap.size, off := 0 })) :: (Value.int IntKind.i64 num) :: (Value.int IntKind.i64 (num.tdiv 16777216)) :: (Value.int IntKind.u8 (num.tdiv 16777216 % 256)) :: (Value.pointer (some { block := w.heap.size, off := 0 })) :: (Value.int IntKind.i64 num) :: (Value.int IntKind.i64 (num.tdiv 65536)) :: (Value.int IntKind.i64 ((num.tdiv 65536).tmod 256)) :: (Value.int IntKind.u8 ((num.tdiv 65536).tmod 256 % 256)) :: (Value.pointer (some { block := w.heap.size, off := 0 })) :: (Value.int IntKind.i64 num) :: (Value.int IntKind.i64 (num.tdiv 256)) :: (Value.int IntKind.i64 ((num.tdiv 256).tmod 256)) :: (Value.int IntKind.u8 ((num.tdiv 256).tmod 256 % 256)) :: (Value.pointer (some { block := w.heap.size, off := 0 })) :: (Value.int IntKind.i64 num) :: (Value.int IntKind.i64 (num.tmod 256)) :: (Value.int IntKind.u8 (num.tmod 256 % 256)) :: (Value.pointer (some { block := w.heap.size, off := 1 })) :: (Value.int IntKind.i64 tries) :: (Value.int IntKind.u8 (tries % 256)) :: (Value.pointer (some { block := w.heap.size, off := 2 })) :: (Value.string pin) :: (Value.int IntKind.i64 ↑pin.size) :: (Value.int IntKind.u8 (↑pin.size % 256)) :: (.slice (some ⟨w1.heap.size, 0, none⟩) 6 6) :: (.string (strOfNums [num.tdiv 16777216 % 256, (num.tdiv 65536).tmod 256 % 256, (num.tdiv 256).tmod 256 % 256, num.tmod 256 % 256, tries % 256, (pin.size : Int) % 256])) :: (Value.pointer (some { block := w.heap.size, off := 2 })) :: (Value.string pin) :: (.string p8) :: (.string (strOfNums [num.tdiv 16777216 % 256, (num.tdiv 65536).tmod 256 % 256, (num.tdiv 256).tmod 256 % 256, num.tmod 256 % 256, tries % 256, (pin.size : Int) % 256] ++ p8)) :: undef :: undef :: undef :: undef :: undef :: undef :: undef :: undef :: undef :: undef :: undef :: undef :: undef :: undef :: undef :: undef :: undef :: undef :: undef :: undef :: undef :: undef :: undef :: undef :: undef :: undef :: undef :: undef :: undef :: undef :: undef :: undef :: undef :: undef :: undef :: undef :: undef :: undef :: undef :: undef :: [])) [] ∧ w_ = (w1.alloc (.cells #[.int .u8 (num.tdiv 16777216 % 256), .int .u8 ((num.tdiv 65536).tmod 256 % 256), .int .u8 ((num.tdiv 256).tmod 256 % 256), .int .u8 (num.tmod 256 % 256), .int .u8 (tries % 256), .int .u8 ((pin.size : Int) % 256)] 5)).drew) ?_ ?_
  case refine_2 =>
    refine wp_region_held (S := fun w' => w'.cell? ⟨w.heap.size, 0, none⟩ = some (.int .i64 num) ∧ w'.cell? ⟨w.heap.size, 1, none⟩ = some (.int .i64 tries) ∧ w'.cell? ⟨w.heap.size, 2, none⟩ = some (.string pin)) (by kernel_rfl) ?_
    refine wpAnyH_take (i := 0) (v := Value.pointer (some { block := w.heap.size, off := 0 })) rfl (by kernel_rfl) (by kernel_rfl) (by kernel_rfl) (fun _ _ _ h => no_panic h.1) (yields_of rfl (fun w' hw' => by go_split_ands; go_simp)) hS0 ?_
    refine wpAnyH_take (i := 1) (v := Value.int IntKind.i64 num) rfl (by kernel_rfl) (by kernel_rfl) (by kernel_rfl) (fun _ _ _ h => no_panic h.1) (yields_of rfl (fun w' hw' => by go_split_ands; go_simp)) hS0 ?_
    refine wpAnyH_take (i := 2) (v := Value.int IntKind.i64 (num.tdiv 16777216)) rfl (by kernel_rfl) (by kernel_rfl) (by kernel_rfl) (fun _ _ _ h => no_panic h.1) (yields_of rfl (fun w' hw' => by go_split_ands; go_simp)) hS0 ?_
    refine wpAnyH_take (i := 3) (v := Value.int IntKind.u8 (num.tdiv 16777216 % 256)) rfl (by kernel_rfl) (by kernel_rfl) (by kernel_rfl) (fun _ _ _ h => no_panic h.1) (yields_of rfl (fun w' hw' => by go_split_ands; go_simp)) hS0 ?_
    refine wpAnyH_take (i := 4) (v := Value.pointer (some { block := w.heap.size, off := 0 })) rfl (by kernel_rfl) (by kernel_rfl) (by kernel_rfl) (fun _ _ _ h => no_panic h.1) (yields_of rfl (fun w' hw' => by go_split_ands; go_simp)) hS0 ?_
    refine wpAnyH_take (i := 5) (v := Value.int IntKind.i64 num) rfl (by kernel_rfl) (by kernel_rfl) (by kernel_rfl) (fun _ _ _ h => no_panic h.1) (yields_of rfl (fun w' hw' => by go_split_ands; go_simp)) hS0 ?_
    refine wpAnyH_take (i := 6) (v := Value.int IntKind.i64 (num.tdiv 65536)) rfl (by kernel_rfl) (by kernel_rfl) (by kernel_rfl) (fun _ _ _ h => no_panic h.1) (yields_of rfl (fun w' hw' => by go_split_ands; go_simp)) hS0 ?_
    refine wpAnyH_take (i := 7) (v := Value.int IntKind.i64 ((num.tdiv 65536).tmod 256)) rfl (by kernel_rfl) (by kernel_rfl) (by kernel_rfl) (fun _ _ _ h => no_panic h.1) (yields_of rfl (fun w' hw' => by go_split_ands; go_simp)) hS0 ?_
    refine wpAnyH_take (i := 8) (v := Value.int IntKind.u8 ((num.tdiv 65536).tmod 256 % 256)) rfl (by kernel_rfl) (by kernel_rfl) (by kernel_rfl) (fun _ _ _ h => no_panic h.1) (yields_of rfl (fun w' hw' => by go_split_ands; go_simp)) hS0 ?_
    refine wpAnyH_take (i := 9) (v := Value.pointer (some { block := w.heap.size, off := 0 })) rfl (by kernel_rfl) (by kernel_rfl) (by kernel_rfl) (fun _ _ _ h => no_panic h.1) (yields_of rfl (fun w' hw' => by go_split_ands; go_simp)) hS0 ?_
    refine wpAnyH_take (i := 10) (v := Value.int IntKind.i64 num) rfl (by kernel_rfl) (by kernel_rfl) (by kernel_rfl) (fun _ _ _ h => no_panic h.1) (yields_of rfl (fun w' hw' => by go_split_ands; go_simp)) hS0 ?_
    refine wpAnyH_take (i := 11) (v := Value.int IntKind.i64 (num.tdiv 256)) rfl (by kernel_rfl) (by kernel_rfl) (by kernel_rfl) (fun _ _ _ h => no_panic h.1) (yields_of rfl (fun w' hw' => by go_split_ands; go_simp)) hS0 ?_
    refine wpAnyH_take (i := 12) (v := Value.int IntKind.i64 ((num.tdiv 256).tmod 256)) rfl (by kernel_rfl) (by kernel_rfl) (by kernel_rfl) (fun _ _ _ h => no_panic h.1) (yields_of rfl (fun w' hw' => by go_split_ands; go_simp)) hS0 ?_
    refine wpAnyH_take (i := 13) (v := Value.int IntKind.u8 ((num.tdiv 256).tmod 256 % 256)) rfl (by kernel_rfl) (by kernel_rfl) (by kernel_rfl) (fun _ _ _ h => no_panic h.1) (yields_of rfl (fun w' hw' => by go_split_ands; go_simp)) hS0 ?_
    refine wpAnyH_take (i := 14) (v := Value.pointer (some { block := w.heap.size, off := 0 })) rfl (by kernel_rfl) (by kernel_rfl) (by kernel_rfl) (fun _ _ _ h => no_panic h.1) (yields_of rfl (fun w' hw' => by go_split_ands; go_simp)) hS0 ?_
    refine wpAnyH_take (i := 15) (v := Value.int IntKind.i64 num) rfl (by kernel_rfl) (by kernel_rfl) (by kernel_rfl) (fun _ _ _ h => no_panic h.1) (yields_of rfl (fun w' hw' => by go_split_ands; go_simp)) hS0 ?_
    refine wpAnyH_take (i := 16) (v := Value.int IntKind.i64 (num.tmod 256)) rfl (by kernel_rfl) (by kernel_rfl) (by kernel_rfl) (fun _ _ _ h => no_panic h.1) (yields_of rfl (fun w' hw' => by go_split_ands; go_simp)) hS0 ?_
    refine wpAnyH_take (i := 17) (v := Value.int IntKind.u8 (num.tmod 256 % 256)) rfl (by kernel_rfl) (by kernel_rfl) (by kernel_rfl) (fun _ _ _ h => no_panic h.1) (yields_of rfl (fun w' hw' => by go_split_ands; go_simp)) hS0 ?_
    refine wpAnyH_take (i := 18) (v := Value.pointer (some { block := w.heap.size, off := 1 })) rfl (by kernel_rfl) (by kernel_rfl) (by kernel_rfl) (fun _ _ _ h => no_panic h.1) (yields_of rfl (fun w' hw' => by go_split_ands; go_simp)) hS0 ?_
    refine wpAnyH_take (i := 19) (v := Value.int IntKind.i64 tries) rfl (by kernel_rfl) (by kernel_rfl) (by kernel_rfl) (fun _ _ _ h => no_panic h.1) (yields_of rfl (fun w' hw' => by go_split_ands; go_simp)) hS0 ?_
    refine wpAnyH_take (i := 20) (v := Value.int IntKind.u8 (tries % 256)) rfl (by kernel_rfl) (by kernel_rfl) (by kernel_rfl) (fun _ _ _ h => no_panic h.1) (yields_of rfl (fun w' hw' => by go_split_ands; go_simp)) hS0 ?_
    refine wpAnyH_take (i := 21) (v := Value.pointer (some { block := w.heap.size, off := 2 })) rfl (by kernel_rfl) (by kernel_rfl) (by kernel_rfl) (fun _ _ _ h => no_panic h.1) (yields_of rfl (fun w' hw' => by go_split_ands; go_simp)) hS0 ?_
    refine wpAnyH_take (i := 22) (v := Value.string pin) rfl (by kernel_rfl) (by kernel_rfl) (by kernel_rfl) (fun _ _ _ h => no_panic h.1) (yields_of rfl (fun w' hw' => by go_split_ands; go_simp)) hS0 ?_
    refine wpAnyH_take (i := 23) (v := Value.int IntKind.i64 ↑pin.size) rfl (by kernel_rfl) (by kernel_rfl) (by kernel_rfl) (fun _ _ _ h => no_panic h.1) (yields_of rfl (fun w' hw' => by go_split_ands; go_simp)) hS0 ?_
    refine wpAnyH_take (i := 24) (v := Value.int IntKind.u8 (↑pin.size % 256)) rfl (by kernel_rfl) (by kernel_rfl) (by kernel_rfl) (fun _ _ _ h => no_panic h.1) (yields_of rfl (fun w' hw' => by go_split_ands; go_simp)) hS0 ?_
    refine wpAnyH_take (i := 27) (v := Value.pointer (some { block := w.heap.size, off := 2 })) rfl (by kernel_rfl) (by kernel_rfl) (by kernel_rfl) (fun _ _ _ h => no_panic h.1) (yields_of rfl (fun w' hw' => by go_split_ands; go_simp)) hS0 ?_
    refine wpAnyH_take (i := 28) (v := Value.string pin) rfl (by kernel_rfl) (by kernel_rfl) (by kernel_rfl) (fun _ _ _ h => no_panic h.1) (yields_of rfl (fun w' hw' => by go_split_ands; go_simp)) hS0 ?_
    simp only [Act.put, List.setIfInBounds_toArray, List.set_cons_succ, List.set_cons_zero]
    refine wpAnyH_ready (rs := [25, 29]) (by kernel_rfl) (by simp) (AllReadyH.cons (i := 25) rfl (fun K hK => ?_) (AllReadyH.cons (i := 29) rfl (fun K hK => ?_) AllReadyH.nil))
    · refine step_of rfl (wp_val (v := .slice (some ⟨w1.heap.size, 0, none⟩) 6 6) (w' := (w1.alloc (.cells #[.int .u8 (num.tdiv 16777216 % 256), .int .u8 ((num.tdiv 65536).tmod 256 % 256), .int .u8 ((num.tdiv 256).tmod 256 % 256), .int .u8 (num.tmod 256 % 256), .int .u8 (tries % 256), .int .u8 ((pin.size : Int) % 256)] 5)).drew) (by go_simp) (hK.out _ _ hS1 (fun _ => ?_)))
      simp only [List.getElem_toArray, List.getElem_cons_succ, List.getElem_cons_zero, Act.put, List.setIfInBounds_toArray, List.set_cons_succ, List.set_cons_zero]
      refine wpAnyH_ready (rs := [26, 29]) (by kernel_rfl) (by simp) (AllReadyH.cons (i := 26) rfl (fun K hK => ?_) (AllReadyH.cons (i := 29) rfl (fun K hK => ?_) AllReadyH.nil))
      · refine step_of rfl (wp_val (v := .string (strOfNums [num.tdiv 16777216 % 256, (num.tdiv 65536).tmod 256 % 256, (num.tdiv 256).tmod 256 % 256, num.tmod 256 % 256, tries % 256, (pin.size : Int) % 256])) (w' := (w1.alloc (.cells #[.int .u8 (num.tdiv 16777216 % 256), .int .u8 ((num.tdiv 65536).tmod 256 % 256), .int .u8 ((num.tdiv 256).tmod 256 % 256), .int .u8 (num.tmod 256 % 256), .int .u8 (tries % 256), .int .u8 ((pin.size : Int) % 256)] 5)).drew) (by go_simp) (hK.out _ _ hS1 (fun _ => ?_)))
        simp only [List.getElem_toArray, List.getElem_cons_succ, List.getElem_cons_zero, Act.put, List.setIfInBounds_toArray, List.set_cons_succ, List.set_cons_zero]
        refine wpAnyH_ready (rs := [29]) (by kernel_rfl) (by simp) (AllReadyH.cons (i := 29) rfl (fun K hK => ?_) AllReadyH.nil)
        refine step_of rfl ?_
        simp only [List.getElem_toArray, List.getElem_cons_succ, List.getElem_cons_zero, Act.put, List.setIfInBounds_toArray, List.set_cons_succ, List.set_cons_zero]
        refine wp_callC 52 #[.string pin, .int .i64 8] (by go_simp) ?_
        refine (ref_filled pin 8 _ (by omega) (by omega)).mono ?_
        rintro _ _ ⟨rfl, rfl⟩
        rw [← HP8.out]
        refine ⟨_, rfl, hK.out _ _ hS1 (fun _ => ?_)⟩
        simp only [List.getElem_toArray, List.getElem_cons_succ, List.getElem_cons_zero, Act.put, List.setIfInBounds_toArray, List.set_cons_succ, List.set_cons_zero]
        refine wpAnyH_ready (rs := [30]) (by kernel_rfl) (by simp) (AllReadyH.cons (i := 30) rfl (fun K hK => ?_) AllReadyH.nil)
        refine step_of rfl (wp_val (v := .string (strOfNums [num.tdiv 16777216 % 256, (num.tdiv 65536).tmod 256 % 256, (num.tdiv 256).tmod 256 % 256, num.tmod 256 % 256, tries % 256, (pin.size : Int) % 256] ++ p8)) (w' := (w1.alloc (.cells #[.int .u8 (num.tdiv 16777216 % 256), .int .u8 ((num.tdiv 65536).tmod 256 % 256), .int .u8 ((num.tdiv 256).tmod 256 % 256), .int .u8 (num.tmod 256 % 256), .int .u8 (tries % 256), .int .u8 ((pin.size : Int) % 256)] 5)).drew) (by go_simp) (hK.out _ _ hS1 (fun _ => ?_)))
        simp only [List.getElem_toArray, List.getElem_cons_succ, List.getElem_cons_zero, Act.put, List.setIfInBounds_toArray, List.set_cons_succ, List.set_cons_zero]
        refine wpAnyH_ready (rs := [31]) (by kernel_rfl) (by simp) (AllReadyH.cons (i := 31) rfl (fun K hK => ?_) AllReadyH.nil)
        refine step_of rfl (wp_val (v := .string (strOfNums [num.tdiv 16777216 % 256, (num.tdiv 65536).tmod 256 % 256, (num.tdiv 256).tmod 256 % 256, num.tmod 256 % 256, tries % 256, (pin.size : Int) % 256] ++ p8)) (w' := (w1.alloc (.cells #[.int .u8 (num.tdiv 16777216 % 256), .int .u8 ((num.tdiv 65536).tmod 256 % 256), .int .u8 ((num.tdiv 256).tmod 256 % 256), .int .u8 (num.tmod 256 % 256), .int .u8 (tries % 256), .int .u8 ((pin.size : Int) % 256)] 5)).drew) (by go_simp) (hK.out _ _ hS1 (fun _ => ?_)))
        simp only [List.getElem_toArray, List.getElem_cons_succ, List.getElem_cons_zero, Act.put, List.setIfInBounds_toArray, List.set_cons_succ, List.set_cons_zero]
        exact wpAnyH_done (by kernel_rfl) ⟨rfl, rfl, rfl⟩ _
      · refine step_of rfl ?_
        simp only [List.getElem_toArray, List.getElem_cons_succ, List.getElem_cons_zero, Act.put, List.setIfInBounds_toArray, List.set_cons_succ, List.set_cons_zero]
        refine wp_callC 52 #[.string pin, .int .i64 8] (by go_simp) ?_
        refine (ref_filled pin 8 _ (by omega) (by omega)).mono ?_
        rintro _ _ ⟨rfl, rfl⟩
        rw [← HP8.out]
        refine ⟨_, rfl, hK.out _ _ hS1 (fun _ => ?_)⟩
        simp only [List.getElem_toArray, List.getElem_cons_succ, List.getElem_cons_zero, Act.put, List.setIfInBounds_toArray, List.set_cons_succ, List.set_cons_zero]
        refine wpAnyH_ready (rs := [26]) (by kernel_rfl) (by simp) (AllReadyH.cons (i := 26) rfl (fun K hK => ?_) AllReadyH.nil)
        refine step_of rfl (wp_val (v := .string (strOfNums [num.tdiv 16777216 % 256, (num.tdiv 65536).tmod 256 % 256, (num.tdiv 256).tmod 256 % 256, num.tmod 256 % 256, tries % 256, (pin.size : Int) % 256])) (w' := (w1.alloc (.cells #[.int .u8 (num.tdiv 16777216 % 256), .int .u8 ((num.tdiv 65536).tmod 256 % 256), .int .u8 ((num.tdiv 256).tmod 256 % 256), .int .u8 (num.tmod 256 % 256), .int .u8 (tries % 256), .int .u8 ((pin.size : Int) % 256)] 5)).drew) (by go_simp) (hK.out _ _ hS1 (fun _ => ?_)))
        simp only [List.getElem_toArray, List.getElem_cons_succ, List.getElem_cons_zero, Act.put, List.setIfInBounds_toArray, List.set_cons_succ, List.set_cons_zero]
        refine wpAnyH_ready (rs := [30]) (by kernel_rfl) (by simp) (AllReadyH.cons (i := 30) rfl (fun K hK => ?_) AllReadyH.nil)
        refine step_of rfl (wp_val (v := .string (strOfNums [num.tdiv 16777216 % 256, (num.tdiv 65536).tmod 256 % 256, (num.tdiv 256).tmod 256 % 256, num.tmod 256 % 256, tries % 256, (pin.size : Int) % 256] ++ p8)) (w' := (w1.alloc (.cells #[.int .u8 (num.tdiv 16777216 % 256), .int .u8 ((num.tdiv 65536).tmod 256 % 256), .int .u8 ((num.tdiv 256).tmod 256 % 256), .int .u8 (num.tmod 256 % 256), .int .u8 (tries % 256), .int .u8 ((pin.size : Int) % 256)] 5)).drew) (by go_simp) (hK.out _ _ hS1 (fun _ => ?_)))
        simp only [List.getElem_toArray, List.getElem_cons_succ, List.getElem_cons_zero, Act.put, List.setIfInBounds_toArray, List.set_cons_succ, List.set_cons_zero]
        refine wpAnyH_ready (rs := [31]) (by kernel_rfl) (by simp) (AllReadyH.cons (i := 31) rfl (fun K hK => ?_) AllReadyH.nil)
        refine step_of rfl (wp_val (v := .string (strOfNums [num.tdiv 16777216 % 256, (num.tdiv 65536).tmod 256 % 256, (num.tdiv 256).tmod 256 % 256, num.tmod 256 % 256, tries % 256, (pin.size : Int) % 256] ++ p8)) (w' := (w1.alloc (.cells #[.int .u8 (num.tdiv 16777216 % 256), .int .u8 ((num.tdiv 65536).tmod 256 % 256), .int .u8 ((num.tdiv 256).tmod 256 % 256), .int .u8 (num.tmod 256 % 256), .int .u8 (tries % 256), .int .u8 ((pin.size : Int) % 256)] 5)).drew) (by go_simp) (hK.out _ _ hS1 (fun _ => ?_)))
        simp only [List.getElem_toArray, List.getElem_cons_succ, List.getElem_cons_zero, Act.put, List.setIfInBounds_toArray, List.set_cons_succ, List.set_cons_zero]
        exact wpAnyH_done (by kernel_rfl) ⟨rfl, rfl, rfl⟩ _
    · refine step_of rfl ?_
      simp only [List.getElem_toArray, List.getElem_cons_succ, List.getElem_cons_zero, Act.put, List.setIfInBounds_toArray, List.set_cons_succ, List.set_cons_zero]
      refine wp_callC 52 #[.string pin, .int .i64 8] (by go_simp) ?_
      refine (ref_filled pin 8 _ (by omega) (by omega)).mono ?_
      rintro _ _ ⟨rfl, rfl⟩
      rw [← HP8.out]
      refine ⟨_, rfl, hK.out _ _ hS0 (fun _ => ?_)⟩
      simp only [List.getElem_toArray, List.getElem_cons_succ, List.getElem_cons_zero, Act.put, List.setIfInBounds_toArray, List.set_cons_succ, List.set_cons_zero]
      refine wpAnyH_ready (rs := [25]) (by kernel_rfl) (by simp) (AllReadyH.cons (i := 25) rfl (fun K hK => ?_) AllReadyH.nil)
      refine step_of rfl (wp_val (v := .slice (some ⟨w1.heap.size, 0, none⟩) 6 6) (w' := (w1.alloc (.cells #[.int .u8 (num.tdiv 16777216 % 256), .int .u8 ((num.tdiv 65536).tmod 256 % 256), .int .u8 ((num.tdiv 256).tmod 256 % 256), .int .u8 (num.tmod 256 % 256), .int .u8 (tries % 256), .int .u8 ((pin.size : Int) % 256)] 5)).drew) (by go_simp) (hK.out _ _ hS1 (fun _ => ?_)))
      simp only [List.getElem_toArray, List.getElem_cons_succ, List.getElem_cons_zero, Act.put, List.setIfInBounds_toArray, List.set_cons_succ, List.set_cons_zero]
      refine wpAnyH_ready (rs := [26]) (by kernel_rfl) (by simp) (AllReadyH.cons (i := 26) rfl (fun K hK => ?_) AllReadyH.nil)
      refine step_of rfl (wp_val (v := .string (strOfNums [num.tdiv 16777216 % 256, (num.tdiv 65536).tmod 256 % 256, (num.tdiv 256).tmod 256 % 256, num.tmod 256 % 256, tries % 256, (pin.size : Int) % 256])) (w' := (w1.alloc (.cells #[.int .u8 (num.tdiv 16777216 % 256), .int .u8 ((num.tdiv 65536).tmod 256 % 256), .int .u8 ((num.tdiv 256).tmod 256 % 256), .int .u8 (num.tmod 256 % 256), .int .u8 (tries % 256), .int .u8 ((pin.size : Int) % 256)] 5)).drew) (by go_simp) (hK.out _ _ hS1 (fun _ => ?_)))
      simp only [List.getElem_toArray, List.getElem_cons_succ, List.getElem_cons_zero, Act.put, List.setIfInBounds_toArray, List.set_cons_succ, List.set_cons_zero]
      refine wpAnyH_ready (rs := [30]) (by kernel_rfl) (by simp) (AllReadyH.cons (i := 30) rfl (fun K hK => ?_) AllReadyH.nil)
      refine step_of rfl (wp_val (v := .string (strOfNums [num.tdiv 16777216 % 256, (num.tdiv 65536).tmod 256 % 256, (num.tdiv 256).tmod 256 % 256, num.tmod 256 % 256, tries % 256, (pin.size : Int) % 256] ++ p8)) (w' := (w1.alloc (.cells #[.int .u8 (num.tdiv 16777216 % 256), .int .u8 ((num.tdiv 65536).tmod 256 % 256), .int .u8 ((num.tdiv 256).tmod 256 % 256), .int .u8 (num.tmod 256 % 256), .int .u8 (tries % 256), .int .u8 ((pin.size : Int) % 256)] 5)).drew) (by go_simp) (hK.out _ _ hS1 (fun _ => ?_)))
      simp only [List.getElem_toArray, List.getElem_cons_succ, List.getElem_cons_zero, Act.put, List.setIfInBounds_toArray, List.set_cons_succ, List.set_cons_zero]
      refine wpAnyH_ready (rs := [31]) (by kernel_rfl) (by simp) (AllReadyH.cons (i := 31) rfl (fun K hK => ?_) AllReadyH.nil)
      refine step_of rfl (wp_val (v := .string (strOfNums [num.tdiv 16777216 % 256, (num.tdiv 65536).tmod 256 % 256, (num.tdiv 256).tmod 256 % 256, num.tmod 256 % 256, tries % 256, (pin.size : Int) % 256] ++ p8)) (w' := (w1.alloc (.cells #[.int .u8 (num.tdiv 16777216 % 256), .int .u8 ((num.tdiv 65536).tmod 256 % 256), .int .u8 ((num.tdiv 256).tmod 256 % 256), .int .u8 (num.tmod 256 % 256), .int .u8 (tries % 256), .int .u8 ((pin.size : Int) % 256)] 5)).drew) (by go_simp) (hK.out _ _ hS1 (fun _ => ?_)))
      simp only [List.getElem_toArray, List.getElem_cons_succ, List.getElem_cons_zero, Act.put, List.setIfInBounds_toArray, List.set_cons_succ, List.set_cons_zero]
      exact wpAnyH_done (by kernel_rfl) ⟨rfl, rfl, rfl⟩ _
  rintro _ _ _ ⟨rfl, rfl, rfl⟩
  have hW : Below w.heap.size w (w1.alloc (.cells #[.int .u8 (num.tdiv 16777216 % 256), .int .u8 ((num.tdiv 65536).tmod 256 % 256), .int .u8 ((num.tdiv 256).tmod 256 % 256), .int .u8 (num.tmod 256 % 256), .int .u8 (tries % 256), .int .u8 ((pin.size : Int) % 256)] 5)).drew := (hb1.alloc (Nat.le_of_lt hr1.lt) _).drew
  have hRow : Row (w1.alloc (.cells #[.int .u8 (num.tdiv 16777216 % 256), .int .u8 ((num.tdiv 65536).tmod 256 % 256), .int .u8 ((num.tdiv 256).tmod 256 % 256), .int .u8 (num.tmod 256 % 256), .int .u8 (tries % 256), .int .u8 ((pin.size : Int) % 256)] 5)).drew w.heap.size [.int .i64 num, .int .i64 tries, .string pin, .string k0, .string k1, .string k2, .string k3] 34 := (hr1.alloc _).drew
  obtain ⟨hd, HHD⟩ : ∃ hd, Hid (hd = strOfNums [num.tdiv 16777216 % 256, (num.tdiv 65536).tmod 256 % 256, (num.tdiv 256).tmod 256 % 256, num.tmod 256 % 256, tries % 256, (pin.size : Int) % 256] ++ p8) := ⟨_, rfl⟩
  have hhd : Hid (hd.data.toList = (⟨num, tries, pin, k0, k1, k2, k3⟩ : Kep).head) := by
    show _ = _
    rw [HHD.out, HP8.out, ByteArray.data_append, Array.toList_append, str_list, toBytes_str]
    simp only [toBytes, List.map_cons, List.map_nil, Kep.head]
    rfl
  rw [← HHD.out]
  clear HHD HP8 hcv q1 q2 q3 hz6 hS0 hS1 hp8 hp8' c0 c1 c2 hb1
  generalize (w1.alloc (.cells #[.int .u8 (num.tdiv 16777216 % 256), .int .u8 ((num.tdiv 65536).tmod 256 % 256), .int .u8 ((num.tdiv 256).tmod 256 % 256), .int .u8 (num.tmod 256 % 256), .int .u8 (tries % 256), .int .u8 ((pin.size : Int) % 256)] 5)).drew = w2 at *
  go_wp2
  go_loopw [3, 4] (fun tv c wr => ∃ (i : Nat) (cur : ByteArray), i ≤ 4 ∧ c = .int .i64 i ∧ tv = .string cur ∧ cur.data.toList = hd.data.toList ++ keysTo [k0.data.toList, k1.data.toList, k2.data.toList, k3.data.toList] i ∧ cur.size ≤ 10000100 + 10000100 * i ∧ Row wr w.heap.size [.int .i64 num, .int .i64 tries, .string pin, .string k0, .string k1, .string k2, .string k3] 34 ∧ Below w.heap.size w wr) (fun _ c _ => 4 - (intOf c).toNat)
  case atStart =>
    refine ⟨0, hd, by omega, rfl, rfl, by simp [keysTo], ?_, hRow, hW⟩
    rw [show hd.size = hd.data.toList.length by rw [Array.length_toList]; rfl, hhd.out]
    simp only [Kep.head, List.length_append, padTo, List.length_replicate, List.length_cons, List.length_nil]
    have hz : pin.size = pin.data.toList.length := by rw [Array.length_toList]; rfl
    omega
  case round =>
    obtain ⟨i, cur, hi, rfl, rfl, hcur, hcs, hR, hB⟩ := hrel
    by_cases hlt : i < 4
    · obtain ⟨ki, hki, hkis⟩ : ∃ ki : ByteArray, ([k0, k1, k2, k3] : List ByteArray)[i]? = some ki ∧ ki.size < 10000000 := by
        rcases (by omega : i = 0 ∨ i = 1 ∨ i = 2 ∨ i = 3) with rfl | rfl | rfl | rfl
        · exact ⟨k0, rfl, h0⟩
        · exact ⟨k1, rfl, h1⟩
        · exact ⟨k2, rfl, h2⟩
        · exact ⟨k3, rfl, h3⟩
      have hc : wr.cell? ⟨w.heap.size, 3 + i, none⟩ = some (.string ki) := by
        rw [hR.cell]
        rcases (by omega : i = 0 ∨ i = 1 ∨ i = 2 ∨ i = 3) with rfl | rfl | rfl | rfl <;> simpa using hki
      have HKI : Hid (keysTo [k0.data.toList, k1.data.toList, k2.data.toList, k3.data.toList] (i + 1) = keysTo [k0.data.toList, k1.data.toList, k2.data.toList, k3.data.toList] i ++ keyPart ki.data.toList) := by
        show _ = _
        rcases (by omega : i = 0 ∨ i = 1 ∨ i = 2 ∨ i = 3) with rfl | rfl | rfl | rfl <;> (simp at hki; subst hki; simp [keysTo])
      have HCU : Hid _ := hcur
      clear hcur hki
      have hlt' : (i : Int) < 4 := by omega
      go_wp2
      obtain ⟨p20, HP20⟩ : ∃ p20, Hid (p20 = str (padTo 20 ki.data.toList)) := ⟨_, rfl⟩
      have hkz : Hid (ki.size = ki.data.toList.length) := by show _ = _; rw [Array.length_toList]; rfl
      have hp20 : p20.size ≤ 10000020 := by
        have hz := hkz.out
        rw [HP20.out, str_size, padTo, List.length_append, List.length_replicate]; omega
      have hz1 := size1
      have hcv := fun W a => conv1d W a W.heap.size rfl
      have i0 : (0 : Int) ≤ i := by omega
      have hs1 : cur.size + 1 ≤ 9223372036854775807 := by omega
      have hs2 : cur.size + 1 + p20.size ≤ 9223372036854775807 := by omega
      have hS0 : (fun w' => w'.cell? ⟨w.heap.size, 3 + i, none⟩ = some (.string ki)) wr.drew := hc
      have hS1 : (fun w' => w'.cell? ⟨w.heap.size, 3 + i, none⟩ = some (.string ki)) ((wr.alloc (.cells #[.int .u8 ((ki.size : Int) % 256)] 5)).drew) := (Below.heap_cell_alloc hR.lt _).trans hc
      refine Code.wp_mono (Q := fun e_ a_ w_ => e_ = .normal ∧ a_ = Act.mk (List.toArray ((Value.agg #[Value.int IntKind.i64 num, Value.int IntKind.i64 tries, Value.string pin, Value.string k0, Value.string k1, Value.string k2, Value.string k3]) :: (Value.pointer (some { block := w.heap.size, off := 0 })) :: (Value.string { data := #[] }) :: (.string (cur ++ strOfNums [(ki.size : Int) % 256] ++ p20)) :: (Value.int IntKind.i64 ↑i) :: undef :: undef :: (Value.pointer (some { block := w.heap.size, off := 0 })) :: (Value.int IntKind.i64 num) :: (Value.int IntKind.i64 (num.tdiv 16777216)) :: (Value.int IntKind.u8 (num.tdiv 16777216 % 256)) :: (Value.pointer (some { block := w.heap.size, off := 0 })) :: (Value.int IntKind.i64 num) :: (Value.int IntKind.i64 (num.tdiv 65536)) :: (Value.int IntKind.i64 ((num.tdiv 65536).tmod 256)) :: (Value.int IntKind.u8 ((num.tdiv 65536).tmod 256 % 256)) :: (Value.pointer (some { block := w.heap.size, off := 0 })) :: (Value.int IntKind.i64 num) :: (Value.int IntKind.i64 (num.tdiv 256)) :: (Value.int IntKind.i64 ((num.tdiv 256).tmod 256)) :: (Value.int IntKind.u8 ((num.tdiv 256).tmod 256 % 256)) :: (Value.pointer (some { block := w.heap.size, off := 0 })) :: (Value.int IntKind.i64 num) :: (Value.int IntKind.i64 (num.tmod 256)) :: (Value.int IntKind.u8 (num.tmod 256 % 256)) :: (Value.pointer (some { block := w.heap.size, off := 1 })) :: (Value.int IntKind.i64 tries) :: (Value.int IntKind.u8 (tries % 256)) :: (Value.pointer (some { block := w.heap.size, off := 2 })) :: (Value.string pin) :: (Value.int IntKind.i64 ↑pin.size) :: (Value.int IntKind.u8 (↑pin.size % 256)) :: (Value.slice (some { block := w1.heap.size, off := 0 }) 6 6) :: (Value.string (strOfNums [num.tdiv 16777216 % 256, (num.tdiv 65536).tmod 256 % 256, (num.tdiv 256).tmod 256 % 256, num.tmod 256 % 256, tries % 256, ↑pin.size % 256])) :: (Value.pointer (some { block := w.heap.size, off := 2 })) :: (Value.string pin) :: (Value.string p8) :: (Value.string hd) :: (Value.int IntKind.i64 ↑i) :: (Value.bool true) :: u40 :: u41 :: (.string cur) :: (.int .i64 (i : Int)) :: (.pointer (some ⟨w.heap.size, 3, none⟩)) :: (.pointer (some ⟨w.heap.size, 3 + i, none⟩)) :: (.string ki) :: (.int .i64 (ki.size : Int)) :: (.int .u8 ((ki.size : Int) % 256)) :: (.slice (some ⟨wr.heap.size, 0, none⟩) 1 1) :: (.string (strOfNums [(ki.size : Int) % 256])) :: (.string (cur ++ strOfNums [(ki.size : Int) % 256])) :: (.int .i64 (i : Int)) :: (.pointer (some ⟨w.heap.size, 3, none⟩)) :: (.pointer (some ⟨w.heap.size, 3 + i, none⟩)) :: (.string ki) :: (.string p20) :: (.string (cur ++ strOfNums [(ki.size : Int) % 256] ++ p20)) :: undef :: undef :: undef :: undef :: undef :: undef :: undef :: undef :: undef :: undef :: undef :: undef :: undef :: undef :: undef :: undef :: undef :: undef :: undef :: undef :: [])) [] ∧ w_ = (wr.alloc (.cells #[.int .u8 ((ki.size : Int) % 256)] 5)).drew) ?_ ?_
      case refine_2 =>
        refine wp_region_held (S := fun w' => w'.cell? ⟨w.heap.size, 3 + i, none⟩ = some (.string ki)) (by kernel_rfl) ?_
        refine wpAnyH_take (i := 0) (v := .string cur) rfl (by kernel_rfl) (by kernel_rfl) (by kernel_rfl) (fun _ _ _ h => no_panic h.1) (yields_of rfl (fun w' hw' => by go_split_ands; go_simp)) hS0 ?_
        refine wpAnyH_take (i := 1) (v := .int .i64 (i : Int)) rfl (by kernel_rfl) (by kernel_rfl) (by kernel_rfl) (fun _ _ _ h => no_panic h.1) (yields_of rfl (fun w' hw' => by go_split_ands; go_simp)) hS0 ?_
        refine wpAnyH_take (i := 2) (v := .pointer (some ⟨w.heap.size, 3, none⟩)) rfl (by kernel_rfl) (by kernel_rfl) (by kernel_rfl) (fun _ _ _ h => no_panic h.1) (yields_of rfl (fun w' hw' => by go_split_ands; go_simp)) hS0 ?_
        refine wpAnyH_take (i := 3) (v := .pointer (some ⟨w.heap.size, 3 + i, none⟩)) rfl (by kernel_rfl) (by kernel_rfl) (by kernel_rfl) (fun _ _ _ h => no_panic h.1) (yields_of rfl (fun w' hw' => by go_split_ands; go_simp)) hS0 ?_
        refine wpAnyH_take (i := 4) (v := .string ki) rfl (by kernel_rfl) (by kernel_rfl) (by kernel_rfl) (fun _ _ _ h => no_panic h.1) (yields_of rfl (fun w' hw' => by go_split_ands; go_simp)) hS0 ?_
        refine wpAnyH_take (i := 5) (v := .int .i64 (ki.size : Int)) rfl (by kernel_rfl) (by kernel_rfl) (by kernel_rfl) (fun _ _ _ h => no_panic h.1) (yields_of rfl (fun w' hw' => by go_split_ands; go_simp)) hS0 ?_
        refine wpAnyH_take (i := 6) (v := .int .u8 ((ki.size : Int) % 256)) rfl (by kernel_rfl) (by kernel_rfl) (by kernel_rfl) (fun _ _ _ h => no_panic h.1) (yields_of rfl (fun w' hw' => by go_split_ands; go_simp)) hS0 ?_
        refine wpAnyH_take (i := 10) (v := .int .i64 (i : Int)) rfl (by kernel_rfl) (by kernel_rfl) (by kernel_rfl) (fun _ _ _ h => no_panic h.1) (yields_of rfl (fun w' hw' => by go_split_ands; go_simp)) hS0 ?_
        refine wpAnyH_take (i := 11) (v := .pointer (some ⟨w.heap.size, 3, none⟩)) rfl (by kernel_rfl) (by kernel_rfl) (by kernel_rfl) (fun _ _ _ h => no_panic h.1) (yields_of rfl (fun w' hw' => by go_split_ands; go_simp)) hS0 ?_
        refine wpAnyH_take (i := 12) (v := .pointer (some ⟨w.heap.size, 3 + i, none⟩)) rfl (by kernel_rfl) (by kernel_rfl) (by kernel_rfl) (fun _ _ _ h => no_panic h.1) (yields_of rfl (fun w' hw' => by go_split_ands; go_simp)) hS0 ?_
        refine wpAnyH_take (i := 13) (v := .string ki) rfl (by kernel_rfl) (by kernel_rfl) (by kernel_rfl) (fun _ _ _ h => no_panic h.1) (yields_of rfl (fun w' hw' => by go_split_ands; go_simp)) hS0 ?_
        simp only [Act.put, List.setIfInBounds_toArray, List.set_cons_succ, List.set_cons_zero]
        refine wpAnyH_ready (rs := [7, 14]) (by kernel_rfl) (by simp) (AllReadyH.cons (i := 7) rfl (fun K hK => ?_) (AllReadyH.cons (i := 14) rfl (fun K hK => ?_) AllReadyH.nil))
        · refine step_of rfl (wp_val (v := .slice (some ⟨wr.heap.size, 0, none⟩) 1 1) (w' := (wr.alloc (.cells #[.int .u8 ((ki.size : Int) % 256)] 5)).drew) (by go_simp) (hK.out _ _ hS1 (fun _ => ?_)))
          simp only [List.getElem_toArray, List.getElem_cons_succ, List.getElem_cons_zero, Act.put, List.setIfInBounds_toArray, List.set_cons_succ, List.set_cons_zero]
          refine wpAnyH_ready (rs := [8, 14]) (by kernel_rfl) (by simp) (AllReadyH.cons (i := 8) rfl (fun K hK => ?_) (AllReadyH.cons (i := 14) rfl (fun K hK => ?_) AllReadyH.nil))
          · refine step_of rfl (wp_val (v := .string (strOfNums [(ki.size : Int) % 256])) (w' := (wr.alloc (.cells #[.int .u8 ((ki.size : Int) % 256)] 5)).drew) (by go_simp) (hK.out _ _ hS1 (fun _ => ?_)))
            simp only [List.getElem_toArray, List.getElem_cons_succ, List.getElem_cons_zero, Act.put, List.setIfInBounds_toArray, List.set_cons_succ, List.set_cons_zero]
            refine wpAnyH_ready (rs := [9, 14]) (by kernel_rfl) (by simp) (AllReadyH.cons (i := 9) rfl (fun K hK => ?_) (AllReadyH.cons (i := 14) rfl (fun K hK => ?_) AllReadyH.nil))
            · refine step_of rfl (wp_val (v := .string (cur ++ strOfNums [(ki.size : Int) % 256])) (w' := (wr.alloc (.cells #[.int .u8 ((ki.size : Int) % 256)] 5)).drew) (by go_simp) (hK.out _ _ hS1 (fun _ => ?_)))
              simp only [List.getElem_toArray, List.getElem_cons_succ, List.getElem_cons_zero, Act.put, List.setIfInBounds_toArray, List.set_cons_succ, List.set_cons_zero]
              refine wpAnyH_ready (rs := [14]) (by kernel_rfl) (by simp) (AllReadyH.cons (i := 14) rfl (fun K hK => ?_) AllReadyH.nil)
              refine step_of rfl ?_
              simp only [List.getElem_toArray, List.getElem_cons_succ, List.getElem_cons_zero, Act.put, List.setIfInBounds_toArray, List.set_cons_succ, List.set_cons_zero]
              refine wp_callC 52 #[.string ki, .int .i64 20] (by go_simp) ?_
              refine (ref_filled ki 20 _ (by omega) (by omega)).mono ?_
              rintro _ _ ⟨rfl, rfl⟩
              rw [← HP20.out]
              refine ⟨_, rfl, hK.out _ _ hS1 (fun _ => ?_)⟩
              simp only [List.getElem_toArray, List.getElem_cons_succ, List.getElem_cons_zero, Act.put, List.setIfInBounds_toArray, List.set_cons_succ, List.set_cons_zero]
              refine wpAnyH_ready (rs := [15]) (by kernel_rfl) (by simp) (AllReadyH.cons (i := 15) rfl (fun K hK => ?_) AllReadyH.nil)
              refine step_of rfl (wp_val (v := .string (cur ++ strOfNums [(ki.size : Int) % 256] ++ p20)) (w' := (wr.alloc (.cells #[.int .u8 ((ki.size : Int) % 256)] 5)).drew) (by go_simp) (hK.out _ _ hS1 (fun _ => ?_)))
              simp only [List.getElem_toArray, List.getElem_cons_succ, List.getElem_cons_zero, Act.put, List.setIfInBounds_toArray, List.set_cons_succ, List.set_cons_zero]
              refine wpAnyH_ready (rs := [16]) (by kernel_rfl) (by simp) (AllReadyH.cons (i := 16) rfl (fun K hK => ?_) AllReadyH.nil)
              refine step_of rfl (wp_val (v := .string (cur ++ strOfNums [(ki.size : Int) % 256] ++ p20)) (w' := (wr.alloc (.cells #[.int .u8 ((ki.size : Int) % 256)] 5)).drew) (by go_simp) (hK.out _ _ hS1 (fun _ => ?_)))
              simp only [List.getElem_toArray, List.getElem_cons_succ, List.getElem_cons_zero, Act.put, List.setIfInBounds_toArray, List.set_cons_succ, List.set_cons_zero]
              exact wpAnyH_done (by kernel_rfl) ⟨rfl, rfl, rfl⟩ _
            · refine step_of rfl ?_
              simp only [List.getElem_toArray, List.getElem_cons_succ, List.getElem_cons_zero, Act.put, List.setIfInBounds_toArray, List.set_cons_succ, List.set_cons_zero]
              refine wp_callC 52 #[.string ki, .int .i64 20] (by go_simp) ?_
              refine (ref_filled ki 20 _ (by omega) (by omega)).mono ?_
              rintro _ _ ⟨rfl, rfl⟩
              rw [← HP20.out]
              refine ⟨_, rfl, hK.out _ _ hS1 (fun _ => ?_)⟩
              simp only [List.getElem_toArray, List.getElem_cons_succ, List.getElem_cons_zero, Act.put, List.setIfInBounds_toArray, List.set_cons_succ, List.set_cons_zero]
              refine wpAnyH_ready (rs := [9]) (by kernel_rfl) (by simp) (AllReadyH.cons (i := 9) rfl (fun K hK => ?_) AllReadyH.nil)
              refine step_of rfl (wp_val (v := .string (cur ++ strOfNums [(ki.size : Int) % 256])) (w' := (wr.alloc (.cells #[.int .u8 ((ki.size : Int) % 256)] 5)).drew) (by go_simp) (hK.out _ _ hS1 (fun _ => ?_)))
              simp only [List.getElem_toArray, List.getElem_cons_succ, List.getElem_cons_zero, Act.put, List.setIfInBounds_toArray, List.set_cons_succ, List.set_cons_zero]
              refine wpAnyH_ready (rs := [15]) (by kernel_rfl) (by simp) (AllReadyH.cons (i := 15) rfl (fun K hK => ?_) AllReadyH.nil)
              refine step_of rfl (wp_val (v := .string (cur ++ strOfNums [(ki.size : Int) % 256] ++ p20)) (w' := (wr.alloc (.cells #[.int .u8 ((ki.size : Int) % 256)] 5)).drew) (by go_simp) (hK.out _ _ hS1 (fun _ => ?_)))
              simp only [List.getElem_toArray, List.getElem_cons_succ, List.getElem_cons_zero, Act.put, List.setIfInBounds_toArray, List.set_cons_succ, List.set_cons_zero]
              refine wpAnyH_ready (rs := [16]) (by kernel_rfl) (by simp) (AllReadyH.cons (i := 16) rfl (fun K hK => ?_) AllReadyH.nil)
              refine step_of rfl (wp_val (v := .string (cur ++ strOfNums [(ki.size : Int) % 256] ++ p20)) (w' := (wr.alloc (.cells #[.int .u8 ((ki.size : Int) % 256)] 5)).drew) (by go_simp) (hK.out _ _ hS1 (fun _ => ?_)))
              simp only [List.getElem_toArray, List.getElem_cons_succ, List.getElem_cons_zero, Act.put, List.setIfInBounds_toArray, List.set_cons_succ, List.set_cons_zero]
              exact wpAnyH_done (by kernel_rfl) ⟨rfl, rfl, rfl⟩ _
          · refine step_of rfl ?_
            simp only [List.getElem_toArray, List.getElem_cons_succ, List.getElem_cons_zero, Act.put, List.setIfInBounds_toArray, List.set_cons_succ, List.set_cons_zero]
            refine wp_callC 52 #[.string ki, .int .i64 20] (by go_simp) ?_
            refine (ref_filled ki 20 _ (by omega) (by omega)).mono ?_
            rintro _ _ ⟨rfl, rfl⟩
            rw [← HP20.out]
            refine ⟨_, rfl, hK.out _ _ hS1 (fun _ => ?_)⟩
            simp only [List.getElem_toArray, List.getElem_cons_succ, List.getElem_cons_zero, Act.put, List.setIfInBounds_toArray, List.set_cons_succ, List.set_cons_zero]
            refine wpAnyH_ready (rs := [8]) (by kernel_rfl) (by simp) (AllReadyH.cons (i := 8) rfl (fun K hK => ?_) AllReadyH.nil)
            refine step_of rfl (wp_val (v := .string (strOfNums [(ki.size : Int) % 256])) (w' := (wr.alloc (.cells #[.int .u8 ((ki.size : Int) % 256)] 5)).drew) (by go_simp) (hK.out _ _ hS1 (fun _ => ?_)))
            simp only [List.getElem_toArray, List.getElem_cons_succ, List.getElem_cons_zero, Act.put, List.setIfInBounds_toArray, List.set_cons_succ, List.set_cons_zero]
            refine wpAnyH_ready (rs := [9]) (by kernel_rfl) (by simp) (AllReadyH.cons (i := 9) rfl (fun K hK => ?_) AllReadyH.nil)
            refine step_of rfl (wp_val (v := .string (cur ++ strOfNums [(ki.size : Int) % 256])) (w' := (wr.alloc (.cells #[.int .u8 ((ki.size : Int) % 256)] 5)).drew) (by go_simp) (hK.out _ _ hS1 (fun _ => ?_)))
            simp only [List.getElem_toArray, List.getElem_cons_succ, List.getElem_cons_zero, Act.put, List.setIfInBounds_toArray, List.set_cons_succ, List.set_cons_zero]
            refine wpAnyH_ready (rs := [15]) (by kernel_rfl) (by simp) (AllReadyH.cons (i := 15) rfl (fun K hK => ?_) AllReadyH.nil)
            refine step_of rfl (wp_val (v := .string (cur ++ strOfNums [(ki.size : Int) % 256] ++ p20)) (w' := (wr.alloc (.cells #[.int .u8 ((ki.size : Int) % 256)] 5)).drew) (by go_simp) (hK.out _ _ hS1 (fun _ => ?_)))
            simp only [List.getElem_toArray, List.getElem_cons_succ, List.getElem_cons_zero, Act.put, List.setIfInBounds_toArray, List.set_cons_succ, List.set_cons_zero]
            refine wpAnyH_ready (rs := [16]) (by kernel_rfl) (by simp) (AllReadyH.cons (i := 16) rfl (fun K hK => ?_) AllReadyH.nil)
            refine step_of rfl (wp_val (v := .string (cur ++ strOfNums [(ki.size : Int) % 256] ++ p20)) (w' := (wr.alloc (.cells #[.int .u8 ((ki.size : Int) % 256)] 5)).drew) (by go_simp) (hK.out _ _ hS1 (fun _ => ?_)))
            simp only [List.getElem_toArray, List.getElem_cons_succ, List.getElem_cons_zero, Act.put, List.setIfInBounds_toArray, List.set_cons_succ, List.set_cons_zero]
            exact wpAnyH_done (by kernel_rfl) ⟨rfl, rfl, rfl⟩ _
        · refine step_of rfl ?_
          simp only [List.getElem_toArray, List.getElem_cons_succ, List.getElem_cons_zero, Act.put, List.setIfInBounds_toArray, List.set_cons_succ, List.set_cons_zero]
          refine wp_callC 52 #[.string ki, .int .i64 20] (by go_simp) ?_
          refine (ref_filled ki 20 _ (by omega) (by omega)).mono ?_
          rintro _ _ ⟨rfl, rfl⟩
          rw [← HP20.out]
          refine ⟨_, rfl, hK.out _ _ hS0 (fun _ => ?_)⟩
          simp only [List.getElem_toArray, List.getElem_cons_succ, List.getElem_cons_zero, Act.put, List.setIfInBounds_toArray, List.set_cons_succ, List.set_cons_zero]
          refine wpAnyH_ready (rs := [7]) (by kernel_rfl) (by simp) (AllReadyH.cons (i := 7) rfl (fun K hK => ?_) AllReadyH.nil)
          refine step_of rfl (wp_val (v := .slice (some ⟨wr.heap.size, 0, none⟩) 1 1) (w' := (wr.alloc (.cells #[.int .u8 ((ki.size : Int) % 256)] 5)).drew) (by go_simp) (hK.out _ _ hS1 (fun _ => ?_)))
          simp only [List.getElem_toArray, List.getElem_cons_succ, List.getElem_cons_zero, Act.put, List.setIfInBounds_toArray, List.set_cons_succ, List.set_cons_zero]
          refine wpAnyH_ready (rs := [8]) (by kernel_rfl) (by simp) (AllReadyH.cons (i := 8) rfl (fun K hK => ?_) AllReadyH.nil)
          refine step_of rfl (wp_val (v := .string (strOfNums [(ki.size : Int) % 256])) (w' := (wr.alloc (.cells #[.int .u8 ((ki.size : Int) % 256)] 5)).drew) (by go_simp) (hK.out _ _ hS1 (fun _ => ?_)))
          simp only [List.getElem_toArray, List.getElem_cons_succ, List.getElem_cons_zero, Act.put, List.setIfInBounds_toArray, List.set_cons_succ, List.set_cons_zero]
          refine wpAnyH_ready (rs := [9]) (by kernel_rfl) (by simp) (AllReadyH.cons (i := 9) rfl (fun K hK => ?_) AllReadyH.nil)
          refine step_of rfl (wp_val (v := .string (cur ++ strOfNums [(ki.size : Int) % 256])) (w' := (wr.alloc (.cells #[.int .u8 ((ki.size : Int) % 256)] 5)).drew) (by go_simp) (hK.out _ _ hS1 (fun _ => ?_)))
          simp only [List.getElem_toArray, List.getElem_cons_succ, List.getElem_cons_zero, Act.put, List.setIfInBounds_toArray, List.set_cons_succ, List.set_cons_zero]
          refine wpAnyH_ready (rs := [15]) (by kernel_rfl) (by simp) (AllReadyH.cons (i := 15) rfl (fun K hK => ?_) AllReadyH.nil)
          refine step_of rfl (wp_val (v := .string (cur ++ strOfNums [(ki.size : Int) % 256] ++ p20)) (w' := (wr.alloc (.cells #[.int .u8 ((ki.size : Int) % 256)] 5)).drew) (by go_simp) (hK.out _ _ hS1 (fun _ => ?_)))
          simp only [List.getElem_toArray, List.getElem_cons_succ, List.getElem_cons_zero, Act.put, List.setIfInBounds_toArray, List.set_cons_succ, List.set_cons_zero]
          refine wpAnyH_ready (rs := [16]) (by kernel_rfl) (by simp) (AllReadyH.cons (i := 16) rfl (fun K hK => ?_) AllReadyH.nil)
          refine step_of rfl (wp_val (v := .string (cur ++ strOfNums [(ki.size : Int) % 256] ++ p20)) (w' := (wr.alloc (.cells #[.int .u8 ((ki.size : Int) % 256)] 5)).drew) (by go_simp) (hK.out _ _ hS1 (fun _ => ?_)))
          simp only [List.getElem_toArray, List.getElem_cons_succ, List.getElem_cons_zero, Act.put, List.setIfInBounds_toArray, List.set_cons_succ, List.set_cons_zero]
          exact wpAnyH_done (by kernel_rfl) ⟨rfl, rfl, rfl⟩ _
      rintro _ _ _ ⟨rfl, rfl, rfl⟩
      have HE : Hid ((cur ++ strOfNums [(ki.size : Int) % 256] ++ p20).data.toList = hd.data.toList ++ keysTo [k0.data.toList, k1.data.toList, k2.data.toList, k3.data.toList] (i + 1)) := by
        show _ = _
        rw [ByteArray.data_append, Array.toList_append, ByteArray.data_append, Array.toList_append, HCU.out, HKI.out, HP20.out, str_list, toBytes_str, List.append_assoc, List.append_assoc]
        congr 2
      have HZ : Hid ((cur ++ strOfNums [(ki.size : Int) % 256] ++ p20).size ≤ 10000100 + 10000100 * (i + 1)) := by
        show _ ≤ _
        rw [ByteArray.size_append, ByteArray.size_append, size1]; exact img_sz hcs hp20
      generalize cur ++ strOfNums [(ki.size : Int) % 256] ++ p20 = nxt at *
      have hR' : Row (wr.alloc (.cells #[.int .u8 ((ki.size : Int) % 256)] 5)).drew w.heap.size [.int .i64 num, .int .i64 tries, .string pin, .string k0, .string k1, .string k2, .string k3] 34 := (hR.alloc _).drew
      have hB' : Below w.heap.size w (wr.alloc (.cells #[.int .u8 ((ki.size : Int) % 256)] 5)).drew := (hB.alloc hB.size _).drew
      clear hcv hS0 hS1 hc
      generalize (wr.alloc (.cells #[.int .u8 ((ki.size : Int) % 256)] 5)).drew = w5 at *
      go_wp2
      exact ⟨⟨i + 1, nxt, by omega, by go_num, rfl, HE.out, HZ.out, hR', hB'⟩, by simp [intOf]; omega⟩
    · have hi4 : i = 4 := by omega
      have HBD : Hid (cur.data.toList = (⟨num, tries, pin, k0, k1, k2, k3⟩ : Kep).body) := by
        show _ = _
        rw [hcur, hhd.out, hi4]
        simp [Kep.body, keysTo]
      have hcs' : cur.size ≤ 50000500 := by omega
      have hge : ¬ (i : Int) < 4 := by omega
      clear hcur hi4 hcs hR hRow hW hr1 hlt hhd
      have hcl : Hid (cur.size = cur.data.toList.length) := by show _ = _; rw [Array.length_toList]; rfl
      go_wp2
      go_loopw [5, 6] (fun sv c ws => ∃ j : Nat, j ≤ cur.size ∧ c = .int .i64 j ∧ sv = .int .i64 (1 + sumB (cur.data.toList.take j)) ∧ Below w.heap.size w ws) (fun _ c _ => cur.size - (intOf c).toNat)
      case atStart => exact ⟨0, by omega, rfl, by simp [sumB], hB⟩
      case round =>
        clear hB
        obtain ⟨j, hj, rfl, rfl, hB⟩ := hrel
        have hS0 := sumB_nonneg (cur.data.toList.take j)
        have hS1 := sumB_le (cur.data.toList.take j)
        have hlen : (cur.data.toList.take j).length ≤ cur.size := by rw [List.length_take, ← hcl.out]; omega
        by_cases hlt2 : j < cur.size
        · have HS : Hid _ := sumB_take_succ cur.data.toList j (by rw [← hcl.out]; exact hlt2)
          have hb := byte_at hlt2
          have hbd := getD_isB (bytesI_B cur.data.toList) j
          obtain ⟨hb0, hb1'⟩ := hbd
          generalize (bytesI cur.data.toList).getD j 0 = x at *
          generalize sumB (cur.data.toList.take j) = sm at *
          have hj' : (j : Int) < cur.size := by omega
          go_wp2
          refine ⟨⟨j + 1, by omega, by go_num, ?_, hB⟩, by simp [intOf]; omega⟩
          rw [HS.out, Int.add_assoc]
        · have hj' : ¬ (j : Int) < cur.size := by omega
          have e : cur.data.toList.take j = cur.data.toList := List.take_of_length_le (by rw [← hcl.out]; omega)
          rw [e] at hS0 hS1
          rw [e]
          rw [← hcl.out] at hS1
          have HF : Hid (str (⟨num, tries, pin, k0, k1, k2, k3⟩ : Kep).img = ⟨#[167]⟩ ++ cur ++ strOfNums [(1 + sumB cur.data.toList) % 256]) := by
            show _ = _
            rw [img_end, Kep.img, closed, HBD.out]
            rfl
          generalize sumB cur.data.toList = sm at *
          have hm : (1 + sm).tmod 256 = (1 + sm) % 256 := Int.tmod_eq_emod_of_nonneg (by omega)
          have hcv := fun W a => conv1 W a W.heap.size rfl
          have hz1 := size1
          have hA7 : (⟨#[167]⟩ : ByteArray).size = 1 := rfl
          have hs3 : 1 + cur.size + 1 ≤ 9223372036854775807 := by omega
          have m0 : 0 ≤ (1 + sm) % 256 := by omega
          have m1 : (1 + sm) % 256 < 256 := by omega
          go_wp2
          go_ret
          exact ⟨ret_bytes HF.out.symm, hB.alloc hB.size _⟩
end Go.Proofs.YtaokemapkgggoaaGreatDoor
