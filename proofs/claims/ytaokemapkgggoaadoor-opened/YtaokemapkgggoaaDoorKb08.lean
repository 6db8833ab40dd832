import Derived.Test.YtaokemapkgggoaaDoorKb07
import Derived.Test.YtaokemapkgggoaaDoorKb02
import Derived.BigQuiet
/-
  The roots by halving, reckoned by the kernel.
-/
namespace Go.Proofs.YtaokemapkgggoaaDoor
theorem cube48 : rootL 227 true = 430227734 := rootL_eq _ _ _ (by decide +kernel)
theorem cube49 : rootL 229 true = 506948616 := rootL_eq _ _ _ (by decide +kernel)
theorem cube50 : rootL 233 true = 659060556 := rootL_eq _ _ _ (by decide +kernel)
theorem cube51 : rootL 239 true = 883997877 := rootL_eq _ _ _ (by decide +kernel)
theorem cube52 : rootL 241 true = 958139571 := rootL_eq _ _ _ (by decide +kernel)
theorem cube53 : rootL 251 true = 1322822218 := rootL_eq _ _ _ (by decide +kernel)
theorem cube54 : rootL 257 true = 1537002063 := rootL_eq _ _ _ (by decide +kernel)
theorem cube55 : rootL 263 true = 1747873779 := rootL_eq _ _ _ (by decide +kernel)
theorem cube56 : rootL 269 true = 1955562222 := rootL_eq _ _ _ (by decide +kernel)
theorem cube57 : rootL 271 true = 2024104815 := rootL_eq _ _ _ (by decide +kernel)
theorem cube58 : rootL 277 true = 2227730452 := rootL_eq _ _ _ (by decide +kernel)
theorem cube59 : rootL 281 true = 2361852424 := rootL_eq _ _ _ (by decide +kernel)
theorem cube60 : rootL 283 true = 2428436474 := rootL_eq _ _ _ (by decide +kernel)
theorem cube61 : rootL 293 true = 2756734187 := rootL_eq _ _ _ (by decide +kernel)
theorem cube62 : rootL 307 true = 3204031479 := rootL_eq _ _ _ (by decide +kernel)
theorem cube63 : rootL 311 true = 3329325298 := rootL_eq _ _ _ (by decide +kernel)
theorem square6 : rootL 17 false = 528734635 := rootL_eq _ _ _ (by decide +kernel)
theorem square7 : rootL 19 false = 1541459225 := rootL_eq _ _ _ (by decide +kernel)
end Go.Proofs.YtaokemapkgggoaaDoor

namespace Go.Proofs.YtaokemapkgggoaaDoor
open Go.RowKit

theorem K0_roots : (P64.map fun p => rootL p true) = K0 := by
  simp only [P64, List.map_cons, List.map_nil, cube0, cube1, cube2, cube3, cube4, cube5, cube6, cube7, cube8, cube9, cube10, cube11, cube12, cube13, cube14, cube15, cube16, cube17, cube18, cube19, cube20, cube21, cube22, cube23, cube24, cube25, cube26, cube27, cube28, cube29, cube30, cube31, cube32, cube33, cube34, cube35, cube36, cube37, cube38, cube39, cube40, cube41, cube42, cube43, cube44, cube45, cube46, cube47, cube48, cube49, cube50, cube51, cube52, cube53, cube54, cube55, cube56, cube57, cube58, cube59, cube60, cube61, cube62, cube63, K0]
theorem H0_roots : ((P64.take 8).map fun p => rootL p false) = H0 := by
  simp only [P64, List.take_succ_cons, List.take_zero, List.map_cons, List.map_nil, square0, square1, square2, square3, square4, square5, square6, square7, H0]

/-- what sums need lies behind the pointer to block g -/
def Summ (w : World) (g : Nat) : Prop := ∃ gk ck gh ch, w.cell? ⟨g, 0, none⟩ = some (.slice (some ⟨gk, 0, none⟩) 64 ck) ∧ w.cell? ⟨g, 1, none⟩ = some (.slice (some ⟨gh, 0, none⟩) 8 ch) ∧ At w gk K0 ∧ At w gh H0 ∧ gk < w.heap.size ∧ gh < w.heap.size
theorem Summ.lt {w : World} {g : Nat} (h : Summ w g) : g < w.heap.size := by
  obtain ⟨_, _, _, _, h1, _⟩ := h
  exact World.block_lt_of_cell? _ _ h1
theorem Summ.below {B : Nat} {w w' : World} {g : Nat} (h : Summ w g) (hb : Below B w w') (hB : w.heap.size ≤ B) : Summ w' g := by
  have hl := h.lt
  obtain ⟨gk, ck, gh, ch, h1, h2, h3, h4, h5, h6⟩ := h
  exact ⟨gk, ck, gh, ch, (hb.cell (p := ⟨g, 0, none⟩) (by simp; omega)).trans h1, (hb.cell (p := ⟨g, 1, none⟩) (by simp; omega)).trans h2, h3.below hb (by omega), h4.below hb (by omega), Nat.lt_of_lt_of_le h5 hb.size, Nat.lt_of_lt_of_le h6 hb.size⟩

end Go.Proofs.YtaokemapkgggoaaDoor

namespace Go.Proofs.YtaokemapkgggoaaDoor
open Go.RowKit

/-- the last k of six decimal digits, and bytes 0 ahead of them -/
def digTo (x : Int) (k : Nat) : List Int := (List.range 6).map fun j => if 6 ≤ j + k then 48 + x / 10 ^ (5 - j) % 10 else 0
theorem digTo_length (x : Int) (k : Nat) : (digTo x k).length = 6 := by simp [digTo]
theorem digTo_zero (x : Int) : digTo x 0 = List.replicate 6 0 := by simp [digTo, List.range, List.range.loop]
theorem digTo_set (x : Int) (k : Nat) (hk : k < 6) : (digTo x k).set (5 - k) (48 + x / 10 ^ k % 10) = digTo x (k + 1) := by
  apply List.ext_getElem
  · simp [digTo]
  · intro i h1 h2
    have hi : i < 6 := by simpa [digTo] using h2
    simp only [digTo, List.getElem_set, List.getElem_map, List.getElem_range]
    by_cases e : 5 - k = i
    · subst e
      rw [if_pos rfl, if_pos (by omega), show 5 - (5 - k) = k by omega]
    · rw [if_neg e]
      by_cases hj : 6 ≤ i + k
      · rw [if_pos hj, if_pos (by omega)]
      · rw [if_neg hj, if_neg (by omega)]
theorem div_pow10 (x : Int) (k : Nat) : x / 10 ^ k / 10 = x / 10 ^ (k + 1) := by
  rw [Int.ediv_ediv_of_nonneg (Int.pow_nonneg (by omega)), Int.pow_succ]

set_option maxRecDepth 100000 in
set_option maxHeartbeats 1000000 in
theorem prog_six (x : Int) (w : World) (hx : isW x) :
    Calls Tryd.prog 50 #[.int .u32 x] w fun r w' => r = .returned (.string (strOfNums (digTo x 6))) ∧ Below w.heap.size w w' := by
  go_enter Tryd.func50, Tryd.ntmps50
  go_wp2_with (refine wpList_allocR rfl 121 rfl 6 (.int .u8 0) arr6b ?_; go_simp)
  go_loopw [0, 4] (fun y c wr => ∃ k : Nat, k ≤ 6 ∧ c = .int .i64 (5 - (k : Int)) ∧ y = .int .u32 (x / 10 ^ k) ∧ Row wr w.heap.size (u8s (digTo x k)) 121 ∧ Below w.heap.size w wr)
    (fun _ c _ => (intOf c + 1).toNat)
  case atStart =>
    refine ⟨0, by omega, rfl, by simp, ?_, (Below.refl _ _).alloc (Nat.le_refl _) _⟩
    rw [digTo_zero, ← zrow_u8]; exact Row.made _ _ _
  case round =>
    obtain ⟨k, hk, rfl, rfl, hR, hB⟩ := hrel
    by_cases hlt : k < 6
    · have hc : wr.cell? ⟨w.heap.size, 5 - k, none⟩ = some (.int .u8 ((digTo x k).getD (5 - k) 0)) := by
        rw [hR.cell, u8s_get _ _ (by rw [digTo_length]; omega)]
      have hf := hR.frozen (5 - k)
      have HS : Hid _ := digTo_set x k hlt
      have HD : Hid _ := div_pow10 x k
      have hy : 0 ≤ x / 10 ^ k ∧ x / 10 ^ k < 4294967296 := by
        have h1 : (0 : Int) ≤ x / 10 ^ k := Int.ediv_nonneg hx.1 (Int.pow_nonneg (by omega))
        have h2 : x / 10 ^ k ≤ x := Int.ediv_le_self _ hx.1
        exact ⟨h1, by have := hx.2; omega⟩
      obtain ⟨hy0, hy1⟩ := hy
      generalize x / 10 ^ k = y at *
      have i0 : (0 : Int) ≤ 5 - (k : Int) := by omega
      go_wp2
      refine ⟨⟨k + 1, by omega, by go_num, by rw [HD.out], ?_, hB.setCell (Nat.le_refl _) _⟩, by simp [intOf]; omega⟩
      have := hR.setCell (5 - k) (.int .u8 (48 + y % 10))
      rwa [u8s_set, HS.out] at this
    · have hk6 : k = 6 := by omega
      subst hk6
      have hconv := run_convR wr w.heap.size (digTo x 6) 6 6 (digTo_length _ _) hR.range
      go_wp2
      go_ret
      exact ⟨rfl, hB⟩
end Go.Proofs.YtaokemapkgggoaaDoor

namespace Go.Proofs.YtaokemapkgggoaaDoor
open Go.RowKit

section
variable {P : Program} {ops : Array Oper} {o : Oper} {a : Act} {w : World} {K : Act → World → Prop} {Q : Exit → Act → World → Prop} {E : Prop}
theorem step_of (hgd : o.guard = none) (h : o.wp P a w K Q) : if Region.wanted o (yielded ops a.tmps) = true then o.wp P a w K Q else E := by
  have hw : Region.wanted o (yielded ops a.tmps) = true := by simp [Region.wanted, hgd]
  rw [if_pos hw]; exact h
theorem wp_callC (f : FuncId) (args : Array Value) (hrun : (execOp a.eval o).run P w = .ok (.enter f args) w)
    (hc : Calls P f args w fun e w' => ∃ v, e = .returned v ∧ K (a.put o.dst v) w') : o.wp P a w K Q := by
  unfold Oper.wp
  rw [hrun]
  refine hc.mono ?_
  rintro _ w' ⟨v, rfl, hk⟩
  exact hk
theorem yields_of {S : World → Prop} {v : Value} (hgd : o.guard = none) (h : ∀ w', S w' → (execOp a.eval o).run P w' = .ok (.value v) w') : YieldsIf P ops S o v a :=
  .inl ⟨by simp [Region.wanted, hgd], h⟩
end

theorem u8_and127 {x : Int} (h : 0 ≤ x ∧ x < 256) : bits .and .u8 x 127 = x % 128 := by
  rw [u8_and x 127 h.1 h.2 (by omega) (by omega), show (127 : Int).toNat = 127 from rfl, nat_mask7]
  omega

theorem ret_str {a b : List Int} (h : a = b) : Ending.returned (.string (strOfNums a)) = .returned (.string (strOfNums b)) := by rw [h]
theorem word_mod {x : Int} : isW (x % 1000000) := by unfold isW; omega

/-- a code, by a key's bytes and a number's eight bytes -/
def codeSpecL (kb : List Int) (l : List UInt8) : List Int :=
  let sv := sealSpec kb l
  let k := (sv.getD 31 0 % 16).toNat
  digTo (word4 (sv.getD k 0 % 128) (sv.getD (k + 1) 0) (sv.getD (k + 2) 0) (sv.getD (k + 3) 0) % 1000000) 6
def codeSpec (kb : List Int) (n : Int) : List Int := codeSpecL kb (toBytes (eightTo n 8))

set_option maxRecDepth 100000 in
set_option maxHeartbeats 2000000 in
theorem prog_codeBy (kf : List Int) (s : ByteArray) (w : World) (hG : Glob w) (hl : kf.length = 21) (hk : ∀ x ∈ kf, isB x) (hs : s.size < 900000) :
    Calls Tryd.prog 36 #[.agg (u8s kf).toArray, .string s] w fun r w' => r = .returned (.string (strOfNums (codeSpecL kf.tail s.data.toList))) ∧ Below w.heap.size w w' := by
  have HL' : Hid (kf.length = 21) := hl
  clear hl
  obtain ⟨ov, HO⟩ : ∃ ov, Hid (ov = sealSpec kf.tail s.data.toList) := ⟨_, rfl⟩
  have hol : Hid ((u8s ov).length = 32) := by show _ = _; rw [u8s_length, HO.out]; exact sumSpec_length _ (blockOn_w8 W8_H0) _ _
  have hoB : ∀ x ∈ ov, isB x := by rw [HO.out]; exact sumSpec_B _ (blockOn_w8 W8_H0) _ _
  have hx31 := getD_isB hoB 31
  obtain ⟨m, hm⟩ : ∃ m : Nat, ov.getD 31 0 % 16 = (m : Int) := ⟨(ov.getD 31 0 % 16).toNat, by omega⟩
  have hm16 : m < 16 := by omega
  have HMm : Hid (ov.getD 31 0 % 16 = (m : Int)) := hm
  have p0 := getD_isB hoB m
  have p1 := getD_isB hoB (m + 1)
  have p2 := getD_isB hoB (m + 2)
  have p3 := getD_isB hoB (m + 3)
  have HFIN : Hid (codeSpecL kf.tail s.data.toList = digTo (word4 (ov.getD m 0 % 128) (ov.getD (m + 1) 0) (ov.getD (m + 2) 0) (ov.getD (m + 3) 0) % 1000000) 6) := by
    show _ = _
    unfold codeSpecL
    rw [← HO.out]
    show digTo (word4 (ov.getD (ov.getD 31 0 % 16).toNat 0 % 128) _ _ _ % 1000000) 6 = _
    rw [HMm.out, Int.toNat_natCast]
  clear hm
  have i0 : (0 : Int) ≤ m := by omega
  have i1 : (m : Int) < 16 := by omega
  obtain ⟨x31, hx31e⟩ : ∃ x, Hid (ov.getD 31 0 = x) := ⟨_, rfl⟩
  obtain ⟨y0, hy0⟩ : ∃ x, Hid (ov.getD m 0 = x) := ⟨_, rfl⟩
  obtain ⟨y1, hy1⟩ : ∃ x, Hid (ov.getD (m + 1) 0 = x) := ⟨_, rfl⟩
  obtain ⟨y2, hy2⟩ : ∃ x, Hid (ov.getD (m + 2) 0 = x) := ⟨_, rfl⟩
  obtain ⟨y3, hy3⟩ : ∃ x, Hid (ov.getD (m + 3) 0 = x) := ⟨_, rfl⟩
  rw [hx31e.out] at hx31 HMm
  rw [hy0.out] at p0 HFIN
  rw [hy1.out] at p1 HFIN
  rw [hy2.out] at p2 HFIN
  rw [hy3.out] at p3 HFIN
  have hcell : ∀ (wz : World) (g i : Nat), Row wz g (u8s ov) 24 → i < 32 → wz.cell? ⟨g, i, none⟩ = some (.int .u8 (ov.getD i 0)) := fun wz g i h hi => by
    rw [h.cell, u8s_get _ _ (by rw [← u8s_length, hol.out]; exact hi)]
  have hand : bits .and .u8 y0 127 = y0 % 128 := u8_and127 p0
  obtain ⟨q31, q31'⟩ := hx31
  have p0' : 0 ≤ y0 % 128 ∧ y0 % 128 < 256 := by omega
  obtain ⟨hw40, hw41⟩ := word4_w p0' p1 p2 p3
  go_enter Tryd.func36, Tryd.ntmps36
  go_wp2_with (first | (refine wpList_boxR rfl 63 _ rfl (u8s kf) rfl ?_; go_simp) | (refine wpList_loadR rfl 63 _ rfl w.heap.size rfl 63 (u8s kf) 21 (.int .u8 0) (Row.made _ _ _) arr21b (by rw [u8s_length]; exact HL'.out) ?_; go_simp) | (go_at_call 33; refine (prog_sealBy kf _ _ (hG.alloc _) HL'.out hk hs).mono ?_; rintro _ w1 ⟨rfl, hb1⟩; have aw : Below w.heap.size w w1 := ((Below.refl _ _).alloc (Nat.le_refl _) _).trans (hb1.mono (by simp)); clear hb1; rw [← HO.out]) | (refine wpList_allocR rfl 24 rfl 32 (.int .u8 0) arr32b ?_; go_simp) | (refine wpList_storeMA rfl 24 _ _ rfl _ rfl rfl (u8s ov) rfl 24 _ 32 (.int .u8 0) arr32b hol.out (zrow_length _ _) (u8s_one _) ?_; intro wz hz hb3; have hzw := aw.trans (hb3.mono aw.size); clear hb3; have c31 := (hcell wz _ 31 hz (by omega)).trans (by rw [hx31e.out]); have d0 := (hcell wz _ m hz (by omega)).trans (by rw [hy0.out]); have d1 := (hcell wz _ (m + 1) hz (by omega)).trans (by rw [hy1.out]); have d2 := (hcell wz _ (m + 2) hz (by omega)).trans (by rw [hy2.out]); have d3 := (hcell wz _ (m + 3) hz (by omega)).trans (by rw [hy3.out]); clear hz; go_simp))
  rw [HMm.out]
  go_quiet ((go_at_call 49; exact Calls.quiet_of_same (prog_word _ _ _ _ _ p0' p1 p2 p3)))
  go_wp2_with (go_at_call 50; refine (prog_six _ _ ?_).mono ?_; exact word_mod; rintro _ wq ⟨rfl, hbq⟩)
  go_ret
  exact ⟨ret_str HFIN.out.symm, (below_drewN hzw _).trans (hbq.mono hzw.size)⟩

end Go.Proofs.YtaokemapkgggoaaDoor

namespace Go.Proofs.YtaokemapkgggoaaDoor
open Go.RowKit

theorem below_of_none {w w' : World} (hg : w.grownBy w' none) : Below w.heap.size w w' := ⟨hg.os, hg.tape, hg.output, hg.size, fun k hk => hg.block k hk (fun e => by cases e)⟩

section
variable {P : Program} {ops : Array Oper} {o : Oper} {a : Act} {K : Act → World → Prop} {Q : Exit → Act → World → Prop} {E : Prop}
/-- numbers appended inside a statement whose order is open; they lie in the block that was made last -/
theorem step_app (W : World) {wz : World} (hgd : o.guard = none) (s x : Operand) (t e : TypeId) (k : IntKind) (bytes : Nat) (ho : o.op = .call { callee := .builtin .append, args := #[s, x], argTypes := #[t, t] }) (ht : SlT P t e k bytes)
    (base : Nat) (v : Value) (xs : List Int) (hs : a.eval s = v) (hown : Own W base k e v xs) (ys : List Int) (n c : Nat) (ty : TypeId) (hn : ys.length = n) (hx : a.eval x = .slice (some ⟨W.heap.size, 0, none⟩) n c)
    (hh : wz.heap = (W.alloc (.cells (ys.map (Value.int k)).toArray ty)).heap) (h1 : wz.os = W.os) (h2 : wz.tape = W.tape) (h3 : wz.output = W.output)
    (hlen : xs.length + n ≤ 1000000) (hbase : base ≤ W.heap.size)
    (h : ∀ v' w', Own w' base k e v' (xs ++ ys) → W.grownBy w' v.ownBlock → (v'.ownBlock = v.ownBlock ∨ v'.ownBlock = some (W.heap.size + 1)) → K (a.put o.dst v') w') :
    if Region.wanted o (yielded ops a.tmps) = true then o.wp P a wz K Q else E := by
  subst hn
  have hsz : wz.heap.size = W.heap.size + 1 := by rw [hh]; exact World.size_alloc _ _
  have hblk : ∀ g, g < W.heap.size → wz.heap[g]? = W.heap[g]? := fun g hg => by rw [hh]; exact Below.heap_alloc W _ g hg
  refine step_of hgd (wp_app s x t e k bytes ho ht base v xs hs (hown.block fun g hg => hblk g (hown.lt g hg).2) W.heap.size c ys hx ?_ hlen (by omega) ?_)
  · intro j hj
    have hb : wz.heap[W.heap.size]? = (W.alloc (.cells (ys.map (Value.int k)).toArray ty)).heap[W.heap.size]? := by rw [hh]
    rw [World.cell?_of_block (w := W.alloc (.cells (ys.map (Value.int k)).toArray ty)) (a := ⟨W.heap.size, j, none⟩) hb, World.cell?_alloc_new]
    simp [hj]
  · intro v' w' i1 i2 i3
    refine h v' w' i1 ⟨i2.os.trans h1, i2.tape.trans h2, i2.output.trans h3, ?_, fun g hg hne => ?_⟩ ?_
    · have := i2.size
      omega
    · exact (i2.block g (by omega) hne).trans (hblk g hg)
    · rwa [hsz] at i3
end

/-- a list of numbers in a block of which the cells may be written -/
structure Cells9 (w : World) (g : Nat) (hs : List Int) : Prop where
  at' : At w g hs
  fz : ∀ j, w.frozen? ⟨g, j, none⟩ = false
  lt : g < w.heap.size
theorem Cells9.below {B : Nat} {w w' : World} {g : Nat} {hs : List Int} (h : Cells9 w g hs) (hb : Below B w w') (hg : g < B) : Cells9 w' g hs :=
  ⟨h.at'.below hb hg, fun j => (hb.frozen (p := ⟨g, j, none⟩) hg).trans (h.fz j), Nat.lt_of_lt_of_le h.lt hb.size⟩
theorem Cells9.drew {w : World} {g : Nat} {hs : List Int} (h : Cells9 w g hs) : Cells9 w.drew g hs := ⟨h.at', h.fz, h.lt⟩
theorem Cells9.grown {w w' : World} {g : Nat} {hs : List Int} {v u : Value} (h : Cells9 w g hs) (hg : w.grownBy w' v.ownBlock) (hu : u.ownBlock = some g) (hs' : Sep v u) : Cells9 w' g hs := by
  have hb : w'.heap[g]? = w.heap[g]? := hg.block g h.lt (fun e => hs' g e.symm hu)
  exact ⟨fun j hj => (World.cell?_of_block (w := w) hb).trans (h.at' j hj), fun j => (World.frozen?_of_block (w := w) hb).trans (h.fz j), Nat.lt_of_lt_of_le h.lt hg.size⟩
theorem Sep.app9 {w : World} {v u v' : Value} {g m : Nat} (hs : Sep v u) (hu : u.ownBlock = some g) (hg : g < w.heap.size) (hm : w.heap.size ≤ m) (h : v'.ownBlock = v.ownBlock ∨ v'.ownBlock = some m) : Sep v' u := by
  intro k hk hu'
  rcases h with h | h
  · exact hs k (h ▸ hk) hu'
  · rw [hu] at hu'
    rw [h] at hk
    have := Option.some.inj hk
    have := Option.some.inj hu'
    omega
theorem Cells9.set {w : World} {g : Nat} {hs : List Int} (h : Cells9 w g hs) (i : Nat) (hi : i < hs.length) (x : Int) : Cells9 (w.setCell ⟨g, i, none⟩ (.int .i64 x)) g (hs.set i x) := by
  refine ⟨fun j hj => ?_, fun j => ?_, ?_⟩
  · rw [List.length_set] at hj
    by_cases e : i = j
    · subst e
      rw [World.cell?_setCell_same _ _ _ (h.at' i hi)]
      simp [List.getD, hi]
    · rw [World.cell?_setCell_other _ _ _ _ (fun h => e (Addr.mk.inj h).2.1), h.at' j hj]
      simp [List.getD, e]
  · have := h.fz j
    rw [← this]
    simp [World.frozen?, World.setCell, Array.getElem?_modify]
    cases w.heap[g]? with
    | none => rfl
    | some o => cases o <;> rfl
  · have := h.lt
    simpa [World.setCell] using this
end Go.Proofs.YtaokemapkgggoaaDoor

namespace Go.Proofs.YtaokemapkgggoaaDoor
open Go.RowKit

/-- a key filled up to 64 bytes, each by the mask -/
def refMask (l : List UInt8) (m : Int) : List Int := (List.range 64).map fun i => xr ((bytesI l).getD i 0) m
theorem refMask_length (l : List UInt8) (m : Int) : (refMask l m).length = 64 := by simp [refMask]
theorem refMask_snoc (l : List UInt8) (m : Int) (i : Nat) (h : i < 64) : (refMask l m).take (i + 1) = (refMask l m).take i ++ [xr ((bytesI l).getD i 0) m] := by
  rw [List.take_succ_eq_append_getElem (by rw [refMask_length]; exact h)]
  congr 2
  simp [refMask]
theorem refMask_eq (l : List UInt8) (m : Int) (h : l.length ≤ 20) : refMask l m = maskK (blk 20 l) m := by
  apply List.ext_getElem
  · simp [refMask, maskK, blk_length]
  · intro i h1 h2
    have hi : i < 64 := by rw [refMask_length] at h1; exact h1
    simp only [refMask, maskK, List.getElem_map, List.getElem_range]
    congr 1
    have hb : blk 20 l ++ List.replicate 44 0 = bytesI l ++ List.replicate (64 - l.length) 0 := by
      unfold blk
      rw [List.take_of_length_le h, List.append_assoc, List.replicate_append_replicate]
      congr 2
      omega
    have hg : ∀ (L : List Int) (h : i < L.length), L[i] = L.getD i 0 := fun L h => by simp [List.getD, h]
    have hlen : i < (blk 20 l ++ List.replicate 44 (0 : Int)).length := by rw [List.length_append, blk_length, List.length_replicate]; omega
    have h3 : (blk 20 l ++ List.replicate 44 0)[i]'hlen = (bytesI l ++ List.replicate (64 - l.length) 0).getD i 0 := by
      rw [hg _ hlen, hb]
    rw [h3]
    simp only [List.getD]
    by_cases hl : i < (bytesI l).length
    · rw [List.getElem?_append_left hl]
    · rw [List.getElem?_append_right (by omega), List.getElem?_eq_none (Nat.le_of_not_lt hl), List.getElem?_replicate]
      split <;> rfl

theorem byte_at {s : ByteArray} {i : Nat} (h : i < s.size) : ((s[i]'h).toNat : Int) = (bytesI s.data.toList).getD i 0 := by
  have h' : i < s.data.toList.length := by rw [Array.length_toList]; exact h
  simp only [bytesI, List.getD, List.getElem?_map, List.getElem?_eq_getElem h']
  rfl

end Go.Proofs.YtaokemapkgggoaaDoor

namespace Go.Proofs.YtaokemapkgggoaaDoor
open Go.RowKit

def refSeal (spec : List UInt8 → List Int) (l t : List UInt8) : List Int := spec (toBytes (refMask l 92) ++ toBytes (spec (toBytes (refMask l 54) ++ t)))

/-- a number's bytes, as Eight makes them -/
def eightL (n : Int) : Nat → List Int
  | 0 => []
  | i + 1 => (n / 256 ^ i % 256) :: eightL n i

theorem eightL_length (n : Int) (i : Nat) : (eightL n i).length = i := by
  induction i with
  | zero => rfl
  | succ i ih => simp [eightL, ih]
theorem wpList_appNone {P : Program} {ops : Array Oper} {rest : List Oper} {o : Oper} {a : Act} {w : World} {Q : Exit → Act → World → Prop} (hgd : o.guard = none) (s x : Operand) (t e : TypeId) (k : IntKind) (bytes : Nat) (ho : o.op = .call { callee := .builtin .append, args := #[s, x], argTypes := #[t, t] }) (ht : SlT P t e k bytes)
    (base : Nat) (v : Value) (xs : List Int) (hs : a.eval s = v) (hown : Own w base k e v xs) (hx : a.eval x = .slice none 0 0)
    (h : wpList P ops Q rest (a.put o.dst v) w) : wpList P ops Q (o :: rest) a w := by
  obtain ⟨i, hi, -⟩ := info_parts ht.i
  exact wpList_append_own_none hgd s x t ho base e i 1 ht.u hi v xs.length _ hs hown hx h

theorem div256 (n : Int) (i : Nat) : n / 256 ^ i / 256 = n / 256 ^ (i + 1) := by
  rw [Int.ediv_ediv_of_nonneg (Int.pow_nonneg (by omega)), Int.pow_succ]

end Go.Proofs.YtaokemapkgggoaaDoor

namespace Go.Proofs.YtaokemapkgggoaaDoor
open Go.RowKit

/-- the number that a code is taken out of -/
def refWord (sv : List Int) : Int :=
  word4 (sv.getD (sv.getD 31 0 % 16).toNat 0 % 128) (sv.getD ((sv.getD 31 0 % 16).toNat + 1) 0) (sv.getD ((sv.getD 31 0 % 16).toNat + 2) 0) (sv.getD ((sv.getD 31 0 % 16).toNat + 3) 0)
def digL (x : Int) : Nat → List Int
  | 0 => []
  | i + 1 => (48 + x / 10 ^ i % 10) :: digL x i
theorem digL_length (n : Int) (i : Nat) : (digL n i).length = i := by
  induction i with
  | zero => rfl
  | succ i ih => simp [digL, ih]
theorem dig_one : ∀ d : Nat, d < 10 → (⟨#[48, 49, 50, 51, 52, 53, 54, 55, 56, 57]⟩ : ByteArray).extract d (d + 1) = strOfNums [48 + (d : Int)]
  | 0, _ => rfl
  | 1, _ => rfl
  | 2, _ => rfl
  | 3, _ => rfl
  | 4, _ => rfl
  | 5, _ => rfl
  | 6, _ => rfl
  | 7, _ => rfl
  | 8, _ => rfl
  | 9, _ => rfl
  | _ + 10, h => absurd h (by omega)
theorem dig_str {d : Int} (h0 : 0 ≤ d) (h1 : d < 10) (dl : List Int) : (⟨#[48, 49, 50, 51, 52, 53, 54, 55, 56, 57]⟩ : ByteArray).extract d.toNat (d + 1).toNat ++ strOfNums dl = strOfNums ((48 + d) :: dl) := by
  have h2 : (d + 1).toNat = d.toNat + 1 := by omega
  rw [h2, dig_one d.toNat (by omega), Int.toNat_of_nonneg h0]
  apply ByteArray.ext
  rw [ByteArray.data_append]
  simp [strOfNums]
theorem div10 (n : Int) (i : Nat) : n / 10 ^ i / 10 = n / 10 ^ (i + 1) := by
  rw [Int.ediv_ediv_of_nonneg (Int.pow_nonneg (by omega)), Int.pow_succ]
theorem str_at {sv : List Int} (hb : ∀ x ∈ sv, isB x) {s : ByteArray} (hs : s = strOfNums sv) (i : Nat) (h : i < s.size) : ((s[i]'h).toNat : Int) = sv.getD i 0 := by
  subst hs
  rw [byte_at h]
  have h1 : bytesI (strOfNums sv).data.toList = sv := by
    show (toBytes sv).map (fun b => (b.toNat : Int)) = sv
    rw [toBytes, List.map_map]
    conv => rhs; rw [← List.map_id sv]
    refine List.map_congr_left fun x hx => ?_
    have := hb x hx
    unfold isB at this
    simp only [Function.comp, id]
    rw [UInt8.toNat_ofNat']
    omega
  rw [h1]

end Go.Proofs.YtaokemapkgggoaaDoor
