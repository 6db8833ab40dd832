import Derived.Test.YtaokemapkgggoaaDoorKb04
import Derived.Test.YtaokemapkgggoaaDoorKb03
namespace Go.Proofs.YtaokemapkgggoaaDoor
open Go.RowKit

/-- the constants as the program's text has them -/
def H0 : List Int := [1779033703, 3144134277, 1013904242, 2773480762, 1359893119, 2600822924, 528734635, 1541459225]
def K0 : List Int := [1116352408, 1899447441, 3049323471, 3921009573, 961987163, 1508970993, 2453635748, 2870763221, 3624381080, 310598401, 607225278, 1426881987, 1925078388, 2162078206, 2614888103, 3248222580, 3835390401, 4022224774, 264347078, 604807628, 770255983, 1249150122, 1555081692, 1996064986, 2554220882, 2821834349, 2952996808, 3210313671, 3336571891, 3584528711, 113926993, 338241895, 666307205, 773529912, 1294757372, 1396182291, 1695183700, 1986661051, 2177026350, 2456956037, 2730485921, 2820302411, 3259730800, 3345764771, 3516065817, 3600352804, 4094571909, 275423344, 430227734, 506948616, 659060556, 883997877, 958139571, 1322822218, 1537002063, 1747873779, 1955562222, 2024104815, 2227730452, 2361852424, 2428436474, 2756734187, 3204031479, 3329325298]

/-- the two package-level tables hold them -/
structure Glob (w : World) : Prop where
  h : ∀ i, i < 8 → w.cell? ⟨0, i, none⟩ = some (.int .u32 (H0.getD i 0))
  k : ∀ i, i < 64 → w.cell? ⟨1, i, none⟩ = some (.int .u32 (K0.getD i 0))
theorem Glob.lth {w : World} (h : Glob w) : 0 < w.heap.size := World.block_lt_of_cell? _ _ (h.h 0 (by omega))
theorem Glob.ltk {w : World} (h : Glob w) : 1 < w.heap.size := World.block_lt_of_cell? _ _ (h.k 0 (by omega))
theorem Glob.below {w w' : World} {B : Nat} (h : Glob w) (hb : Below B w w') (hB : w.heap.size ≤ B) : Glob w' :=
  ⟨fun i hi => (hb.cell (Nat.lt_of_lt_of_le h.lth hB)).trans (h.h i hi), fun i hi => (hb.cell (Nat.lt_of_lt_of_le h.ltk hB)).trans (h.k i hi)⟩

theorem K0_w : ∀ x ∈ K0, isW x := by
  have h : K0.all (fun x => decide (0 ≤ x) && decide (x < 4294967296)) = true := by decide
  intro x hx
  have := List.all_eq_true.1 h x hx
  simpa [isW] using this
theorem H0_w : ∀ x ∈ H0, isW x := by
  have h : H0.all (fun x => decide (0 ≤ x) && decide (x < 4294967296)) = true := by decide
  intro x hx
  have := List.all_eq_true.1 h x hx
  simpa [isW] using this

/-- eight words -/
structure W8 (v : List Int) : Prop where
  len : v.length = 8
  all : ∀ x ∈ v, isW x
theorem W8.open {v : List Int} (h : W8 v) : ∃ a b c d e f g i, v = [a, b, c, d, e, f, g, i] ∧ isW a ∧ isW b ∧ isW c ∧ isW d ∧ isW e ∧ isW f ∧ isW g ∧ isW i := by
  obtain ⟨hl, ha⟩ := h
  match v, hl with
  | [a, b, c, d, e, f, g, i], _ => exact ⟨a, b, c, d, e, f, g, i, rfl, ha _ (by simp), ha _ (by simp), ha _ (by simp), ha _ (by simp), ha _ (by simp), ha _ (by simp), ha _ (by simp), ha _ (by simp)⟩
theorem W8.turn1 {v : List Int} (h : W8 v) (k w : Int) : W8 (turn1 k w v) := by
  obtain ⟨a, b, c, d, e, f, g, i, rfl, ha, hb, hc, hd, he, hf, hg, hi⟩ := h.open
  refine ⟨rfl, fun x hx => ?_⟩
  simp only [Proofs.YtaokemapkgggoaaDoor.turn1, List.mem_cons, List.not_mem_nil, or_false] at hx
  rcases hx with rfl | rfl | rfl | rfl | rfl | rfl | rfl | rfl <;> first | exact mod_w _ | assumption
theorem W8.rounds {v : List Int} (h : W8 v) (K W : List Int) (t : Nat) : W8 (rounds K W v t) := by
  induction t with
  | zero => exact h
  | succ t ih => exact ih.turn1 _ _

/-- the words of h, the first k of them with those of s added -/
def addTo (h s : List Int) (k : Nat) : List Int := (List.range 8).map fun i => if i < k then (h.getD i 0 + s.getD i 0) % 4294967296 else h.getD i 0
theorem addTo_length (h s : List Int) (k : Nat) : (addTo h s k).length = 8 := by simp [addTo]
theorem addTo_get (h s : List Int) (k i : Nat) (hi : i < 8) : (addTo h s k).getD i 0 = if i < k then (h.getD i 0 + s.getD i 0) % 4294967296 else h.getD i 0 := by
  simp [addTo, List.getD, hi]
theorem addTo_set (h s : List Int) (k : Nat) (_hk : k < 8) : (addTo h s k).set k ((h.getD k 0 + s.getD k 0) % 4294967296) = addTo h s (k + 1) := by
  apply List.ext_getElem
  · simp [addTo]
  · intro i h1 h2
    simp only [addTo, List.getElem_set, List.getElem_map, List.getElem_range]
    by_cases hk : k = i
    · subst hk; simp
    · rw [if_neg hk]
      by_cases hi : i < k
      · rw [if_pos hi, if_pos (by omega)]
      · rw [if_neg hi, if_neg (by omega)]
theorem addTo_zero {h : List Int} (hh : h.length = 8) (s : List Int) : addTo h s 0 = h := by
  match h, hh with
  | [a, b, c, d, e, f, g, i], _ => simp [addTo, List.range, List.range.loop]
theorem addTo_all {h s : List Int} (hh : h.length = 8) (hs : s.length = 8) : addTo h s 8 = List.zipWith (fun x y => (x + y) % 4294967296) h s := by
  match h, hh, s, hs with
  | [a, b, c, d, e, f, g, i], _, [a', b', c', d', e', f', g', i'], _ => simp [addTo, List.range, List.range.loop]
theorem bcell {W w1 : World} (hb : Below W.heap.size W w1) : (∀ b o, b < W.heap.size → w1.cell? ⟨b, o, none⟩ = W.cell? ⟨b, o, none⟩) ∧ (∀ b o, b < W.heap.size → w1.frozen? ⟨b, o, none⟩ = W.frozen? ⟨b, o, none⟩) :=
  ⟨fun b o h => hb.cell (p := ⟨b, o, none⟩) h, fun b o h => hb.frozen (p := ⟨b, o, none⟩) h⟩
theorem rows8 {W ws : World} {g : Nat} {t : TypeId} {a0 a1 a2 a3 a4 a5 a6 a7 : Int} (hb : Below W.heap.size W ws) (h : Row W g (u32s [a0, a1, a2, a3, a4, a5, a6, a7]) t) :
    ws.cell? ⟨g, 0, none⟩ = some (.int .u32 a0) ∧ ws.cell? ⟨g, 1, none⟩ = some (.int .u32 a1) ∧ ws.cell? ⟨g, 2, none⟩ = some (.int .u32 a2) ∧ ws.cell? ⟨g, 3, none⟩ = some (.int .u32 a3) ∧
    ws.cell? ⟨g, 4, none⟩ = some (.int .u32 a4) ∧ ws.cell? ⟨g, 5, none⟩ = some (.int .u32 a5) ∧ ws.cell? ⟨g, 6, none⟩ = some (.int .u32 a6) ∧ ws.cell? ⟨g, 7, none⟩ = some (.int .u32 a7) ∧
    (∀ i, ws.frozen? ⟨g, i, none⟩ = false) ∧ Hid (Row ws g (u32s [a0, a1, a2, a3, a4, a5, a6, a7]) t) := by
  have hr := h.below hb h.lt
  exact ⟨hr.cell, hr.cell, hr.cell, hr.cell, hr.cell, hr.cell, hr.cell, hr.cell, hr.frozen, hr⟩
theorem set8 {ws : World} {g : Nat} {t : TypeId} {a0 a1 a2 a3 a4 a5 a6 a7 : Int} (h : Row ws g (u32s [a0, a1, a2, a3, a4, a5, a6, a7]) t) (n0 n1 n2 n3 n4 n5 n6 n7 : Int) :
    Row ((((((((ws.setCell ⟨g, 0, none⟩ (.int .u32 n0)).setCell ⟨g, 1, none⟩ (.int .u32 n1)).setCell ⟨g, 2, none⟩ (.int .u32 n2)).setCell ⟨g, 3, none⟩ (.int .u32 n3)).setCell ⟨g, 4, none⟩ (.int .u32 n4)).setCell ⟨g, 5, none⟩ (.int .u32 n5)).setCell ⟨g, 6, none⟩ (.int .u32 n6)).setCell ⟨g, 7, none⟩ (.int .u32 n7))
      g (u32s [n0, n1, n2, n3, n4, n5, n6, n7]) t := by
  have := (((((((h.setCell 0 (.int .u32 n0)).setCell 1 (.int .u32 n1)).setCell 2 (.int .u32 n2)).setCell 3 (.int .u32 n3)).setCell 4 (.int .u32 n4)).setCell 5 (.int .u32 n5)).setCell 6 (.int .u32 n6)).setCell 7 (.int .u32 n7)
  simpa [u32s] using this
theorem below8 {B : Nat} {w0 ws : World} {g : Nat} (hb : Below B w0 ws) (hg : B ≤ g) (n0 n1 n2 n3 n4 n5 n6 n7 : Value) :
    Below B w0 ((((((((ws.setCell ⟨g, 0, none⟩ n0).setCell ⟨g, 1, none⟩ n1).setCell ⟨g, 2, none⟩ n2).setCell ⟨g, 3, none⟩ n3).setCell ⟨g, 4, none⟩ n4).setCell ⟨g, 5, none⟩ n5).setCell ⟨g, 6, none⟩ n6).setCell ⟨g, 7, none⟩ n7) :=
  (((((((hb.setCell hg _).setCell hg _).setCell hg _).setCell hg _).setCell hg _).setCell hg _).setCell hg _).setCell hg _
theorem turn1_eq (k w a b c d e f g i : Int) : turn1 k w [a, b, c, d, e, f, g, i] =
    [(i + bigE e + choose e f g + (k + w) % 4294967296 + (bigA a + most a b c)) % 4294967296, a, b, c, (d + (i + bigE e + choose e f g + (k + w) % 4294967296)) % 4294967296, e, f, g] := by
  show [_, _, _, _, _, _, _, _] = _
  rw [show (i + bigE e + choose e f g + k + w + bigA a + most a b c) % 4294967296 = (i + bigE e + choose e f g + (k + w) % 4294967296 + (bigA a + most a b c)) % 4294967296 by omega,
    show (d + (i + bigE e + choose e f g + k + w)) % 4294967296 = (d + (i + bigE e + choose e f g + (k + w) % 4294967296)) % 4294967296 by omega]
theorem blockOn_w8 {K h b : List Int} (hh : W8 h) : W8 (blockOn K h b) := by
  have hs := hh.rounds K (rowW b 64) 64
  unfold blockOn
  rw [← addTo_all hh.len hs.len]
  refine ⟨addTo_length _ _ _, fun x hx => ?_⟩
  simp only [addTo, List.mem_map, List.mem_range] at hx
  obtain ⟨i, hi, rfl⟩ := hx
  rw [if_pos hi]; exact mod_w _

set_option maxRecDepth 100000 in
set_option maxHeartbeats 2000000 in
theorem prog_turn (h b : List Int) (w : World) (hG : Glob w) (hh : W8 h) (hl : b.length = 64) (hbb : ∀ x ∈ b, isB x) :
    Calls Tryd.prog 46 #[.agg (u32s h).toArray, .agg (u8s b).toArray] w fun r w' => r = .returned (.agg (u32s (blockOn K0 h b)).toArray) ∧ Below w.heap.size w w' := by
  have HL : Hid (b.length = 64) := hl
  have HH : Hid (h.length = 8) := hh.len
  clear hl
  go_enter Tryd.func46, Tryd.ntmps46
  go_wp2_with (first | (refine wpList_boxR rfl 69 _ rfl (u32s h) rfl ?_; go_simp) | (refine wpList_boxR rfl 95 _ rfl (u8s b) rfl ?_; go_simp) | (refine wpList_allocR rfl 69 rfl 8 (.int .u32 0) arr8w ?_; go_simp) | (refine wpList_loadR rfl 95 _ rfl (w.heap.size + 1) rfl 95 (u8s b) 64 (.int .u8 0) ((Row.made1 _ _ _ _).alloc _) arr64b (by rw [u8s_length]; exact HL.out) ?_; go_simp))
  refine (prog_spread b _ HL.out hbb).mono ?_
  rintro _ w1 ⟨rfl, hb1⟩
  have hr2 : Row w1 w.heap.size (u32s h) 69 := (((Row.made w _ _).alloc _).alloc _).below hb1 (by simp; omega)
  have hr4 : Row w1 (w.heap.size + 1 + 1) (zrow 8 (.int .u32 0)) 69 := by
    have := Row.made1 (w.alloc (.cells (u32s h).toArray 69)) (.cells (u8s b).toArray 95) (zrow 8 (.int .u32 0)) 69
    rw [World.size_alloc] at this
    exact this.below hb1 (by simp)
  have hsz : w.heap.size + 1 + 1 < w1.heap.size := by have := hb1.size; simp at this; omega
  have hbw : Below w.heap.size w w1 := ((((Below.refl _ _).alloc (Nat.le_refl _) _).alloc (by simp) _).alloc (by simp; omega) _).trans (hb1.mono (by simp; omega))
  have hG1 : Glob w1 := hG.below hbw (Nat.le_refl _)
  have hsl : Hid ((u32s (rowW b 64)).length = 64) := by show _ = _; rw [u32s_length, rowW_length]
  clear hb1 hG
  obtain ⟨R, HR⟩ : ∃ R, Hid (R = rowW b 64) := ⟨_, rfl⟩
  rw [← HR.out] at hsl ⊢
  go_wp2_with (first | (refine wpList_allocR rfl 115 rfl 64 (.int .u32 0) arr64w ?_; go_simp) | (refine wpList_storeM rfl 115 _ _ rfl _ rfl rfl (u32s R) rfl 115 _ 64 (.int .u32 0) arr64w hsl.out (zrow_length _ _) (u32s_one _) ?_; go_simp) | (refine wpList_loadR rfl 69 _ rfl w.heap.size rfl 69 (u32s h) 8 (.int .u32 0) (hr2.alloc _) arr8w (by rw [u32s_length]; exact HH.out) ?_; go_simp) | (refine wpList_allocR rfl 69 rfl 8 (.int .u32 0) arr8w ?_; go_simp) | (refine wpList_storeM rfl 69 _ _ rfl (w1.heap.size + 1) rfl (by simp) (u32s h) rfl 69 _ 8 (.int .u32 0) arr8w (by rw [u32s_length]; exact HH.out) (zrow_length _ _) (u32s_one _) ?_; go_simp))
  obtain ⟨W5, HW5⟩ : ∃ W5, Hid (W5 = w1.alloc (.cells (u32s R).toArray 115)) := ⟨_, rfl⟩
  go_loopw [12] (fun c wr => ∃ t : Nat, t ≤ 64 ∧ c = .int .i64 t ∧ Row wr (w1.heap.size + 1) (u32s (rounds K0 R h t)) 69 ∧ Below (w1.heap.size + 1) W5 wr)
    (fun c _ => 64 - (intOf c).toNat)
  case atStart =>
    refine ⟨0, by omega, rfl, Row.made1 _ _ _ _, ?_⟩
    rw [HW5.out]; exact (Below.refl _ _).alloc (by simp) _
  case round =>
    obtain ⟨t, ht, rfl, hR, hB⟩ := hrel
    have hK : t < 64 → wr.cell? ⟨1, t, none⟩ = some (.int .u32 (K0.getD t 0)) := fun hlt => by
      rw [hB.cell (p := ⟨1, t, none⟩) (by have := hG1.ltk; simp; omega), HW5.out, World.cell?_alloc_past (w := w1) _ _ _ hG1.ltk]
      exact hG1.k t hlt
    have hW : t < 64 → wr.cell? ⟨w1.heap.size, t, none⟩ = some (.int .u32 (R.getD t 0)) := fun hlt => by
      have hrow : Row wr w1.heap.size (u32s R) 115 := (show Row W5 w1.heap.size (u32s R) 115 by rw [HW5.out]; exact Row.made _ _ _).below hB (by omega)
      have hRl := hsl.out
      rw [u32s_length] at hRl
      rw [hrow.cell, u32s_get _ _ (by omega)]
    by_cases hlt : t < 64
    · have hk := hK hlt
      have hw := hW hlt
      clear hK hW
      obtain ⟨a0, a1, a2, a3, a4, a5, a6, a7, hv, g0, g1, g2, g3, g4, g5, g6, g7⟩ := (hh.rounds K0 R t).open
      have HT : Hid (rounds K0 R h (t + 1) = turn1 (K0.getD t 0) (R.getD t 0) [a0, a1, a2, a3, a4, a5, a6, a7]) := by show _ = _; rw [← hv]; rfl
      rw [hv] at hR
      have HV : Hid _ := hv
      clear hv
      have c0 : wr.cell? ⟨w1.heap.size + 1, 0, none⟩ = some (.int .u32 a0) := hR.cell
      have c1 : wr.cell? ⟨w1.heap.size + 1, 1, none⟩ = some (.int .u32 a1) := hR.cell
      have c2 : wr.cell? ⟨w1.heap.size + 1, 2, none⟩ = some (.int .u32 a2) := hR.cell
      have c3 : wr.cell? ⟨w1.heap.size + 1, 3, none⟩ = some (.int .u32 a3) := hR.cell
      have c4 : wr.cell? ⟨w1.heap.size + 1, 4, none⟩ = some (.int .u32 a4) := hR.cell
      have c5 : wr.cell? ⟨w1.heap.size + 1, 5, none⟩ = some (.int .u32 a5) := hR.cell
      have c6 : wr.cell? ⟨w1.heap.size + 1, 6, none⟩ = some (.int .u32 a6) := hR.cell
      have c7 : wr.cell? ⟨w1.heap.size + 1, 7, none⟩ = some (.int .u32 a7) := hR.cell
      have hf := hR.frozen
      have hszr := hR.lt
      have i0 : (t : Int) < 64 := by omega
      have i1 : (0 : Int) ≤ t := by omega
      generalize K0.getD t 0 = kt at *
      generalize R.getD t 0 = rt at *
      go_wp2
      go_region_with (first | (go_at_call 62; refine (prog_step a0 a1 a2 a3 a4 a5 a6 a7 _ _ g0 g1 g2 g4 g5 g6).mono ?_; rintro _ ws ⟨rfl, hbs⟩; obtain ⟨d0, d1, d2, d3, d4, d5, d6, d7, df, hRs⟩ := rows8 hbs hR))
      all_goals go_wp2
      all_goals
        refine ⟨⟨t + 1, by omega, by go_num, ?_, ?_⟩, by simp [intOf]; omega⟩
        · rw [HT.out, turn1_eq]; exact set8 hRs.out _ _ _ _ _ _ _ _
        · exact below8 (hB.drew.trans (hbs.mono (Nat.le_of_lt hszr))) (Nat.le_refl _) _ _ _ _ _ _ _ _
    · have hk8 : t = 64 := by omega
      rw [hk8] at hR
      clear hk8 hK hW
      obtain ⟨sv, HS⟩ : ∃ sv, Hid (sv = rounds K0 R h 64) := ⟨_, rfl⟩
      rw [← HS.out] at hR
      have hsv : W8 sv := by rw [HS.out]; exact hh.rounds K0 R 64
      have hr2' : Row wr w.heap.size (u32s h) 69 := (show Row W5 w.heap.size (u32s h) 69 by rw [HW5.out]; exact hr2.alloc _).below hB (by omega)
      have hr4' : Row wr (w.heap.size + 1 + 1) (zrow 8 (.int .u32 0)) 69 := (show Row W5 (w.heap.size + 1 + 1) (zrow 8 (.int .u32 0)) 69 by rw [HW5.out]; exact hr4.alloc _).below hB (by omega)
      have hbw' : Below w.heap.size w wr := (show Below w.heap.size w W5 by rw [HW5.out]; exact hbw.alloc (by omega) _).trans (hB.mono (by omega))
      clear hr2 hr4 hbw hB
      go_wp2
      go_loopw [25] (fun c ws => ∃ i : Nat, i ≤ 8 ∧ c = .int .i64 i ∧ Row ws w.heap.size (u32s (addTo h sv i)) 69 ∧ Row ws (w1.heap.size + 1) (u32s sv) 69 ∧ Row ws (w.heap.size + 1 + 1) (zrow 8 (.int .u32 0)) 69 ∧ Below w.heap.size w ws)
        (fun c _ => 8 - (intOf c).toNat)
      case atStart => exact ⟨0, by omega, rfl, by rw [addTo_zero HH.out]; exact hr2', hR, hr4', hbw'⟩
      case round =>
        clear hR hr2' hr4' hbw'
        obtain ⟨i, hi, rfl, hR2, hR6, hR4, hBw⟩ := hrel
        by_cases hlt2 : i < 8
        · have hc2 : wr.cell? ⟨w.heap.size, i, none⟩ = some (.int .u32 (h.getD i 0)) := by
            rw [hR2.cell, u32s_get _ _ (by rw [addTo_length]; exact hlt2), addTo_get _ _ _ _ hlt2, if_neg (by omega)]
          have hc6 : wr.cell? ⟨w1.heap.size + 1, i, none⟩ = some (.int .u32 (sv.getD i 0)) := by
            rw [hR6.cell, u32s_get _ _ (by rw [hsv.len]; exact hlt2)]
          have hf := hR2.frozen i
          have HA : Hid _ := addTo_set h sv i hlt2
          have hx := getD_isW hh.all i
          have hy := getD_isW hsv.all i
          obtain ⟨hx0, hx1⟩ := hx
          obtain ⟨hy0, hy1⟩ := hy
          generalize h.getD i 0 = x at *
          generalize sv.getD i 0 = y at *
          have i0 : (i : Int) < 8 := by omega
          have i1 : (0 : Int) ≤ i := by omega
          go_wp2
          go_region
          go_wp2
          refine ⟨⟨i + 1, by omega, by go_num, ?_, ?_, ?_, ?_⟩, by simp [intOf]; omega⟩
          · have := (hR2.setCell i (.int .u32 ((x + y) % 4294967296))).drew
            rwa [u32s_set, HA.out] at this
          · exact (hR6.setCell_other _ _ (by simp; omega)).drew
          · exact (hR4.setCell_other _ _ (by simp; omega)).drew
          · exact (hBw.setCell (Nat.le_refl _) _).drew
        · have hi8 : i = 8 := by omega
          rw [hi8, addTo_all HH.out hsv.len, HS.out, HR.out] at hR2
          clear hi8
          obtain ⟨ov, HO⟩ : ∃ ov, Hid (ov = blockOn K0 h b) := ⟨_, rfl⟩
          have hR2' : Row wr w.heap.size (u32s ov) 69 := by rw [HO.out]; exact hR2
          have hol : Hid ((u32s ov).length = 8) := by show _ = _; rw [u32s_length, HO.out]; exact (blockOn_w8 hh).len
          clear hR2
          go_wp2_with (first | (refine wpList_loadR rfl 69 _ rfl w.heap.size rfl 69 (u32s ov) 8 (.int .u32 0) hR2' arr8w hol.out ?_; go_simp) | (refine wpList_storeR rfl 69 _ _ rfl (w.heap.size + 1 + 1) rfl (u32s ov) rfl 69 (zrow 8 (.int .u32 0)) 8 (.int .u32 0) hR4 arr8w hol.out (zrow_length _ _) (u32s_one _) ?_; go_simp))
          refine bodyPost_ret (v := .agg (u32s ov).toArray) (results_row Tryd.results46 _ (w.heap.size + 1 + 1) 69 (u32s ov) 8 (.int .u32 0) rfl (Row.setRow hR4 _) arr8w hol.out) rfl ⟨by rw [HO.out], ?_⟩
          exact below_setRow hBw (by omega) _
end Go.Proofs.YtaokemapkgggoaaDoor

namespace Go.Proofs.YtaokemapkgggoaaDoor
open Go.RowKit

/-- the first k of a number's 8 bytes, the highest first, and bytes 0 behind them -/
def eightTo (n : Int) (k : Nat) : List Int := (List.range 8).map fun i => if i < k then n / 2 ^ (56 - 8 * i) % 256 else 0
theorem eightTo_length (n : Int) (k : Nat) : (eightTo n k).length = 8 := by simp [eightTo]
theorem eightTo_zero (n : Int) : eightTo n 0 = List.replicate 8 0 := by simp [eightTo, List.range, List.range.loop]
theorem eightTo_set (n : Int) (k : Nat) (_h : k < 8) : (eightTo n k).set k (n / 2 ^ (56 - 8 * k) % 256) = eightTo n (k + 1) := by
  apply List.ext_getElem
  · simp [eightTo]
  · intro i h1 h2
    simp only [eightTo, List.getElem_set, List.getElem_map, List.getElem_range]
    by_cases hk : k = i
    · subst hk; simp
    · rw [if_neg hk]
      by_cases hi : i < k
      · rw [if_pos hi, if_pos (by omega)]
      · rw [if_neg hi, if_neg (by omega)]

set_option maxRecDepth 100000 in
set_option maxHeartbeats 400000 in
theorem prog_eight (n : Int) (w : World) (_h0 : 0 ≤ n) (_h1 : n < 18446744073709551616) :
    Calls Tryd.prog 35 #[.int .u64 n] w fun r w' => r = .returned (.agg (u8s (eightTo n 8)).toArray) ∧ Below w.heap.size w w' := by
  go_enter Tryd.func35, Tryd.ntmps35
  go_wp2_with (refine wpList_allocR rfl 71 rfl 8 (.int .u8 0) arr8b ?_)
  go_loopw [5] (fun c wr => ∃ k : Nat, k ≤ 8 ∧ c = .int .i64 k ∧ Row wr (w.heap.size + 1) (u8s (eightTo n k)) 71 ∧ Below (w.heap.size + 1) (w.alloc (.cells (zrow 8 (.int .u8 0)).toArray 71)) wr)
    (fun c _ => 8 - (intOf c).toNat)
  case atStart =>
    refine ⟨0, by omega, rfl, ?_, ?_⟩
    · rw [eightTo_zero, ← zrow_u8]; exact Row.made1 _ _ _ _
    · exact (Below.refl _ _).alloc (by simp) _
  case round =>
    obtain ⟨k, hk, rfl, hR, hB⟩ := hrel
    by_cases hlt : k < 8
    · have hc : wr.cell? ⟨w.heap.size + 1, k, none⟩ = some (.int .u8 ((eightTo n k).getD k 0)) := by
        rw [hR.cell, u8s_get _ _ (by rw [eightTo_length]; exact hlt)]
      have hf := hR.frozen k
      go_wp2
      refine ⟨⟨k + 1, by omega, by go_num, ?_, ?_⟩, by simp [intOf]; omega⟩
      · have := hR.setCell k (.int .u8 (n / 2 ^ (56 - 8 * k) % 256))
        rwa [u8s_set, eightTo_set n k hlt] at this
      · exact hB.setCell (Nat.le_refl _) _
    · have hk8 : k = 8 := by omega
      subst hk8
      have hO : Row wr w.heap.size (zrow 8 (.int .u8 0)) 71 := (Row.made w _ _).below hB (Nat.lt_succ_self _)
      go_wp2_with (first | refine wpList_loadR rfl 71 _ rfl (w.heap.size + 1) rfl 71 (u8s (eightTo n 8)) 8 (.int .u8 0) hR arr8b (by rw [u8s_length, eightTo_length]) ?_ | refine wpList_storeR rfl 71 _ _ rfl w.heap.size rfl (u8s (eightTo n 8)) rfl 71 (zrow 8 (.int .u8 0)) 8 (.int .u8 0) hO arr8b (by rw [u8s_length, eightTo_length]) (zrow_length _ _) (u8s_one _) ?_)
      refine bodyPost_ret (v := .agg (u8s (eightTo n 8)).toArray) (results_row Tryd.results35 _ w.heap.size 71 (u8s (eightTo n 8)) 8 (.int .u8 0) rfl (Row.setRow hO _) arr8b (by rw [u8s_length, eightTo_length])) rfl ⟨rfl, ?_⟩
      exact below_setRow (((Below.refl _ _).alloc (Nat.le_refl _) _).trans (hB.mono (Nat.le_succ _))) (Nat.le_refl _) _
end Go.Proofs.YtaokemapkgggoaaDoor
