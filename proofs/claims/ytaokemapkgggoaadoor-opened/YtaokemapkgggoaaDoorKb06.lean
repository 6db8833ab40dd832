import Derived.Test.YtaokemapkgggoaaDoorKb05
import Derived.Test.YtaokemapkgggoaaDoorKb03
import Derived.Deep.RegionLaw
namespace Go.Proofs.YtaokemapkgggoaaDoor
open Go.RowKit

theorem bytesI_B (l : List UInt8) : ∀ x ∈ bytesI l, isB x := by
  intro x hx
  simp only [bytesI, List.mem_map] at hx
  obtain ⟨c, _, rfl⟩ := hx
  have := c.toNat_lt
  unfold isB; omega
theorem blk_B (n : Nat) (l : List UInt8) : ∀ x ∈ blk n l, isB x := by
  intro x hx
  rw [blk, List.mem_append] at hx
  rcases hx with hx | hx
  · exact bytesI_B _ x hx
  · rw [List.mem_replicate] at hx; unfold isB; omega

/-- the words behind k whole blocks -/
def foldB (K h : List Int) (l : List UInt8) : Nat → List Int
  | 0 => h
  | k + 1 => blockOn K (foldB K h l k) (blk 64 (l.drop (64 * k)))
theorem foldB_w8 {K h : List Int} (hh : W8 h) (l : List UInt8) (k : Nat) : W8 (foldB K h l k) := by
  induction k with
  | zero => exact hh
  | succ k ih => exact blockOn_w8 ih

theorem prog_turn8 (a0 a1 a2 a3 a4 a5 a6 a7 : Int) (b : List Int) (w : World) (hG : Glob w) (hh : W8 [a0, a1, a2, a3, a4, a5, a6, a7]) (hl : b.length = 64) (hbb : ∀ x ∈ b, isB x) :
    Calls Tryd.prog 46 #[.agg #[.int .u32 a0, .int .u32 a1, .int .u32 a2, .int .u32 a3, .int .u32 a4, .int .u32 a5, .int .u32 a6, .int .u32 a7], .agg (u8s b).toArray] w fun r w' =>
      ∃ r0 r1 r2 r3 r4 r5 r6 r7, r = .returned (.agg #[.int .u32 r0, .int .u32 r1, .int .u32 r2, .int .u32 r3, .int .u32 r4, .int .u32 r5, .int .u32 r6, .int .u32 r7]) ∧
        Hid (blockOn K0 [a0, a1, a2, a3, a4, a5, a6, a7] b = [r0, r1, r2, r3, r4, r5, r6, r7]) ∧ Below w.heap.size w w' := by
  refine (prog_turn [a0, a1, a2, a3, a4, a5, a6, a7] b w hG hh hl hbb).mono ?_
  rintro _ w' ⟨rfl, hb⟩
  obtain ⟨r0, r1, r2, r3, r4, r5, r6, r7, he, -⟩ := (blockOn_w8 (K := K0) (b := b) hh).open
  exact ⟨r0, r1, r2, r3, r4, r5, r6, r7, by rw [he]; rfl, he, hb⟩

theorem set8_other {ws : World} {g k : Nat} {t : TypeId} {cs : List Value} (h : Row ws k cs t) (hne : k ≠ g) (n0 n1 n2 n3 n4 n5 n6 n7 : Value) :
    Row ((((((((ws.setCell ⟨g, 0, none⟩ n0).setCell ⟨g, 1, none⟩ n1).setCell ⟨g, 2, none⟩ n2).setCell ⟨g, 3, none⟩ n3).setCell ⟨g, 4, none⟩ n4).setCell ⟨g, 5, none⟩ n5).setCell ⟨g, 6, none⟩ n6).setCell ⟨g, 7, none⟩ n7) k cs t :=
  (((((((h.setCell_other _ _ hne).setCell_other _ _ hne).setCell_other _ _ hne).setCell_other _ _ hne).setCell_other _ _ hne).setCell_other _ _ hne).setCell_other _ _ hne).setCell_other _ _ hne

theorem extract_drop (u : ByteArray) (n : Nat) : (u.extract n u.size).data.toList = u.data.toList.drop n := by
  have h : (u.data.toList.drop n).length ≤ u.size - n := by rw [List.length_drop, Array.length_toList]; exact Nat.le_refl _
  simp [ByteArray.data_extract, List.take_of_length_le h]

/-- what is left, marked: its bytes, the byte 80 (in sixteens), bytes 0 -/
def marked (r : List UInt8) : List Int := (blk 64 r).set r.length 128
theorem marked_length (r : List UInt8) : (marked r).length = 64 := by simp [marked, blk_length]
theorem marked_B (r : List UInt8) : ∀ x ∈ marked r, isB x := by
  intro x hx
  rcases List.mem_or_eq_of_mem_set hx with h | h
  · exact blk_B _ _ x h
  · subst h; unfold isB; omega
/-- the last block, or the last two -/
def tailOn (K h : List Int) (r : List UInt8) (n : Int) : List Int :=
  if 56 ≤ r.length then blockOn K (blockOn K h (marked r)) (List.replicate 56 0 ++ eightTo n 8) else blockOn K h ((marked r).take 56 ++ eightTo n 8)
/-- the sum of bytes behind h, of which done are in h already -/
def sumSpec (K h : List Int) (done : Int) (l : List UInt8) : List Int :=
  (tailOn K (foldB K h l (l.length / 64)) (l.drop (64 * (l.length / 64))) ((done + l.length) * 8)).flatMap four

theorem Row.two {wr w2 w3 : World} {g : Nat} {cs : List Value} {t : TypeId} (h : Row wr g cs t) (hb2 : Below wr.heap.size wr w2) (hb3 : Below w2.heap.size w2 w3) : g < w2.heap.size ∧ Row w3 g cs t :=
  ⟨Nat.lt_of_lt_of_le h.lt hb2.size, (h.below hb2 h.lt).below hb3 (Nat.lt_of_lt_of_le h.lt hb2.size)⟩
theorem marked_row {w3 : World} {g : Nat} {u : ByteArray} {bk mk : List Int} {t : TypeId} (h : Row w3 g (u8s bk) t) (HM : Hid (mk = marked u.data.toList)) (HB : Hid (bk = blk 64 u.data.toList)) (HL : Hid (u.data.toList.length = u.size)) :
    Row (w3.setCell ⟨g, u.size, none⟩ (.int .u8 128)) g (u8s mk) t := by
  have := h.setCell u.size (.int .u8 128)
  rw [u8s_set] at this
  rw [HM.out, marked, HL.out, ← HB.out]
  exact this

theorem eightTo_B (n : Int) (k : Nat) : ∀ x ∈ eightTo n k, isB x := by
  intro x hx
  simp only [eightTo, List.mem_map, List.mem_range] at hx
  obtain ⟨i, _, rfl⟩ := hx
  unfold isB
  split <;> omega
theorem splice_tail {lz e8 fz : List Int} (hl : Hid (lz.length = 64)) (he : Hid ((u8s e8).length = 8)) (hf : Hid (fz = lz.take 56 ++ e8)) : splice (u8s lz) 56 (u8s e8) = u8s fz := by
  unfold splice
  have h1 := he.out
  rw [List.drop_eq_nil_of_le (by rw [h1, u8s_length, hl.out]; omega), hf.out]
  simp [u8s, List.map_take]

theorem Glob.alloc {w : World} (h : Glob w) (o : Obj) : Glob (w.alloc o) := h.below ((Below.refl _ _).alloc (Nat.le_refl _) o) (Nat.le_refl _)
theorem Glob.drew {w : World} (h : Glob w) : Glob w.drew := ⟨h.h, h.k⟩

set_option maxRecDepth 100000 in
set_option maxHeartbeats 4000000 in
theorem prog_sum (h : List Int) (done : Int) (s : ByteArray) (w : World) (hG : Glob w) (hh : W8 h) (hd0 : 0 ≤ done) (hd1 : done + s.size < 1000000) :
    Calls Tryd.prog 34 #[.agg (u32s h).toArray, .int .u64 done, .string s] w fun r w' => r = .returned (.agg (u8s (sumSpec K0 h done s.data.toList)).toArray) ∧ Below w.heap.size w w' := by
  have HH : Hid (h.length = 8) := hh.len
  go_enter Tryd.func34, Tryd.ntmps34
  go_wp2_with (first | (refine wpList_boxR rfl 69 _ rfl (u32s h) rfl ?_; go_simp) | (refine wpList_allocR rfl 24 rfl 32 (.int .u8 0) arr32b ?_; go_simp))
  refine (prog_eight _ _ (by omega) (by omega)).mono ?_
  rintro _ w1 ⟨rfl, hb1⟩
  have hr3 : Row w1 w.heap.size (u32s h) 69 := ((Row.made w _ _).alloc _).below hb1 (by simp; omega)
  have hr6 : Row w1 (w.heap.size + 1) (zrow 32 (.int .u8 0)) 24 := (Row.made1 w _ _ _).below hb1 (by simp)
  have hsz : w.heap.size + 1 < w1.heap.size := by have := hb1.size; simp at this; omega
  have hbw : Below w.heap.size w w1 := (((Below.refl _ _).alloc (Nat.le_refl _) _).alloc (by simp) _).trans (hb1.mono (by simp; omega))
  clear hb1
  obtain ⟨e8, HE⟩ : ∃ e8, Hid (e8 = eightTo ((done + s.size) * 8) 8) := ⟨_, rfl⟩
  have he8 : Hid ((u8s e8).length = 8) := by show _ = _; rw [HE.out, u8s_length, eightTo_length]
  rw [← HE.out]
  go_wp2_with (first | (refine wpList_allocR rfl 71 rfl 8 (.int .u8 0) arr8b ?_; go_simp) | (refine wpList_storeM rfl 71 _ _ rfl _ rfl rfl (u8s e8) rfl 71 _ 8 (.int .u8 0) arr8b he8.out (zrow_length _ _) (u8s_one _) ?_; go_simp))
  go_loopw [2] (fun c wr => ∃ (k : Nat) (u : ByteArray), c = .string u ∧ Hid (u.data.toList = s.data.toList.drop (64 * k)) ∧ Hid (u.size = s.size - 64 * k) ∧ 64 * k ≤ s.size ∧ Row wr w.heap.size (u32s (foldB K0 h s.data.toList k)) 69 ∧ Row wr (w.heap.size + 1) (zrow 32 (.int .u8 0)) 24 ∧ Row wr w1.heap.size (u8s e8) 71 ∧ Below w.heap.size w wr)
    (fun c _ => match c with | .string u => u.size | _ => 0)
  case atStart =>
    exact ⟨0, s, rfl, by show _ = _; simp, by show _ = _; omega, by omega, hr3.alloc _, hr6.alloc _, Row.made _ _ _, hbw.alloc (by omega) _⟩
  case round =>
    clear hr3 hr6 hbw
    obtain ⟨k, u, rfl, HU, HZ, hk, hR3, hR6, hR7, hBw⟩ := hrel
    have hGr : Glob wr := hG.below hBw (Nat.le_refl _)
    by_cases hlt : 64 ≤ u.size
    · obtain ⟨a0, a1, a2, a3, a4, a5, a6, a7, hv, -⟩ := (foldB_w8 (K := K0) hh s.data.toList k).open
      have hw8 : W8 [a0, a1, a2, a3, a4, a5, a6, a7] := by rw [← hv]; exact foldB_w8 hh _ _
      rw [hv] at hR3
      have HV : Hid _ := hv
      clear hv
      have c0 : wr.cell? ⟨w.heap.size, 0, none⟩ = some (.int .u32 a0) := hR3.cell
      have c1 : wr.cell? ⟨w.heap.size, 1, none⟩ = some (.int .u32 a1) := hR3.cell
      have c2 : wr.cell? ⟨w.heap.size, 2, none⟩ = some (.int .u32 a2) := hR3.cell
      have c3 : wr.cell? ⟨w.heap.size, 3, none⟩ = some (.int .u32 a3) := hR3.cell
      have c4 : wr.cell? ⟨w.heap.size, 4, none⟩ = some (.int .u32 a4) := hR3.cell
      have c5 : wr.cell? ⟨w.heap.size, 5, none⟩ = some (.int .u32 a5) := hR3.cell
      have c6 : wr.cell? ⟨w.heap.size, 6, none⟩ = some (.int .u32 a6) := hR3.cell
      have c7 : wr.cell? ⟨w.heap.size, 7, none⟩ = some (.int .u32 a7) := hR3.cell
      have hi : (64 : Int) ≤ u.size := by omega
      go_wp2
      go_region_with (first | (go_at_call 47; refine (prog_blockOf _ _).mono ?_; rintro _ wx ⟨rfl, hbx⟩; obtain ⟨x0, x1, x2, x3, x4, x5, x6, x7, xf, hRx⟩ := rows8 hbx hR3; have hGx := Glob.below hGr.drew hbx (Nat.le_refl _)) | (go_at_call 46; refine (prog_turn8 a0 a1 a2 a3 a4 a5 a6 a7 _ _ hGx hw8 (blk_length _ _) (blk_B _ _)).mono ?_; rintro _ ws ⟨r0, r1, r2, r3, r4, r5, r6, r7, rfl, HB, hbs⟩; obtain ⟨y0, y1, y2, y3, y4, y5, y6, y7, yf, hRy⟩ := rows8 hbs hRx.out))
      all_goals go_wp2
      all_goals
        have hbb := hBw.drew.trans ((hbx.mono (Nat.le_of_lt hR3.lt)).trans (hbs.mono (Nat.le_of_lt (Nat.lt_of_lt_of_le hR3.lt hbx.size))))
        have hR6y := (hR6.drew.below hbx hR6.lt).below hbs (Nat.lt_of_lt_of_le hR6.lt hbx.size)
        have hR7y := (hR7.drew.below hbx hR7.lt).below hbs (Nat.lt_of_lt_of_le hR7.lt hbx.size)
        refine ⟨⟨k + 1, u.extract 64 u.size, rfl, ?_, ?_, ?_, ?_, ?_, ?_, ?_⟩, ?_⟩
        · show _ = _
          rw [show 64 * (k + 1) = 64 * k + 64 by omega, ← List.drop_drop, ← HU.out]; exact extract_drop _ _
        · show _ = _
          have := HZ.out
          rw [ByteArray.size_extract]; omega
        · have := HZ.out; omega
        · show Row _ _ (u32s (blockOn K0 (foldB K0 h s.data.toList k) (blk 64 (s.data.toList.drop (64 * k))))) _
          rw [HV.out, ← HU.out, HB.out]
          exact set8 hRy.out _ _ _ _ _ _ _ _
        · exact set8_other hR6y (by omega) _ _ _ _ _ _ _ _
        · exact set8_other hR7y (by omega) _ _ _ _ _ _ _ _
        · exact below8 hbb (Nat.le_refl _) _ _ _ _ _ _ _ _
        · simp; omega
    · have hk64 : k = s.size / 64 := by have := HZ.out; omega
      have hw8 : W8 (foldB K0 h s.data.toList k) := foldB_w8 hh _ _
      have hul : u.data.toList.length = u.size := by rw [Array.length_toList]; rfl
      have HUL : Hid _ := hul
      clear hul
      have HK : Hid _ := hk64
      clear hk64 hk
      obtain ⟨hx, HX⟩ : ∃ hx, Hid (hx = foldB K0 h s.data.toList k) := ⟨_, rfl⟩
      rw [← HX.out] at hR3 hw8
      have hxl : Hid ((u32s hx).length = 8) := by show _ = _; rw [u32s_length]; exact hw8.len
      have hbl : Hid ((u8s (blk 64 u.data.toList)).length = 64) := by show _ = _; rw [u8s_length, blk_length]
      obtain ⟨bk, HBk⟩ : ∃ bk, Hid (bk = blk 64 u.data.toList) := ⟨_, rfl⟩
      rw [← HBk.out] at hbl
      have hn : u.size < 64 := by omega
      have hni : (u.size : Int) < 64 := by omega
      obtain ⟨mk, HMk⟩ : ∃ mk, Hid (mk = marked u.data.toList) := ⟨_, rfl⟩
      have hml : Hid (mk.length = 64) := by show _ = _; rw [HMk.out, marked_length]
      have hmB : ∀ x ∈ mk, isB x := by rw [HMk.out]; exact marked_B _
      have hd64 : decide ((64 : Int) ≤ u.size) = false := by simp; omega
      by_cases h56 : 56 ≤ u.size
      · go_wp2_with (first | (go_at_call 47; refine (prog_blockOf _ _).mono ?_; rintro _ w2 ⟨rfl, hb2⟩; rw [← HBk.out]) | (refine wpList_allocR rfl 95 rfl 64 (.int .u8 0) arr64b ?_; go_simp) | (refine wpList_storeMA rfl 95 _ _ rfl _ rfl rfl (u8s bk) rfl 95 _ 64 (.int .u8 0) arr64b hbl.out (zrow_length _ _) (u8s_one _) ?_; intro w3 hr8 hb3; have hc8 : w3.cell? ⟨w2.heap.size, u.size, none⟩ = some (.int .u8 (bk.getD u.size 0)) := (by rw [hr8.cell, u8s_get _ _ (by rw [HBk.out, blk_length]; exact hn)]); have hf8 := hr8.frozen u.size; obtain ⟨hl3, q3⟩ := hR3.two hb2 hb3; obtain ⟨hl6, q6⟩ := hR6.two hb2 hb3; obtain ⟨hl7, q7⟩ := hR7.two hb2 hb3; have qw := hBw.trans ((hb2.mono (Nat.le_of_lt hR3.lt)).trans (hb3.mono (Nat.le_of_lt hl3))); have qm := marked_row hr8 HMk HBk HUL; clear hb2 hb3; go_simp) | (refine wpList_loadR rfl 69 _ rfl w.heap.size rfl 69 (u32s hx) 8 (.int .u32 0) (q3.setCell_other _ _ (Nat.ne_of_lt hl3)) arr8w hxl.out ?_; go_simp) | (refine wpList_loadR rfl 95 _ rfl w2.heap.size rfl 95 (u8s mk) 64 (.int .u8 0) qm arr64b (by rw [u8s_length]; exact hml.out) ?_; go_simp) | (go_at_call 46; refine (prog_turn hx mk _ (hG.below (qw.setCell (Nat.le_of_lt hl3) _) (Nat.le_refl _)) hw8 hml.out hmB).mono ?_; rintro _ w5 ⟨rfl, hb5⟩; obtain ⟨hy, HY⟩ := (⟨_, rfl⟩ : ∃ hy, Hid (hy = blockOn K0 hx mk)); rw [← HY.out]; have hyl : Hid ((u32s hy).length = 8) := (by show _ = _; rw [u32s_length, HY.out]; exact (blockOn_w8 hw8).len); have z3 := (q3.setCell_other ⟨w2.heap.size, u.size, none⟩ (.int .u8 128) (Nat.ne_of_lt hl3)).below hb5 (q3.setCell_other _ _ (Nat.ne_of_lt hl3)).lt; have z6 := (q6.setCell_other ⟨w2.heap.size, u.size, none⟩ (.int .u8 128) (Nat.ne_of_lt hl6)).below hb5 (q6.setCell_other _ _ (Nat.ne_of_lt hl6)).lt; have z7 := (q7.setCell_other ⟨w2.heap.size, u.size, none⟩ (.int .u8 128) (Nat.ne_of_lt hl7)).below hb5 (q7.setCell_other _ _ (Nat.ne_of_lt hl7)).lt; have z8 := qm.below hb5 qm.lt; have zw := (qw.setCell (p := ⟨w2.heap.size, u.size, none⟩) (Nat.le_of_lt hl3) (.int .u8 128)).trans (hb5.mono (Nat.le_of_lt (q3.setCell_other _ _ (Nat.ne_of_lt hl3)).lt)); clear hb5) | (refine wpList_storeR rfl 69 _ _ rfl w.heap.size rfl (u32s hy) rfl 69 (u32s hx) 8 (.int .u32 0) z3 arr8w hyl.out hxl.out (u32s_one _) ?_; go_simp) | (refine wpList_buildZ rfl 95 rfl 64 (.int .u8 0) arr64b (fun e he => by rw [Option.some.inj ((show Tryd.prog.underlying 95 = some (.array 64 5) by kernel_rfl).symm.trans he) |> TypeDesc.array.inj |>.2 |>.symm]; kernel_rfl) ?_; go_simp) | (refine wpList_storeR rfl 95 _ _ rfl w2.heap.size rfl (zrow 64 (.int .u8 0)) rfl 95 (u8s mk) 64 (.int .u8 0) (z8.setRow_other _ _ (Nat.ne_of_gt hl3)) arr64b (zrow_length _ _) (by rw [u8s_length]; exact hml.out) (by rw [zrow_u8]; exact u8s_one _) ?_; go_simp) | fail)
        obtain ⟨hz, HZ0⟩ : ∃ hz, Hid (hz = hy) := ⟨_, rfl⟩
        obtain ⟨lz, HL0⟩ : ∃ lz : List Int, Hid (lz = List.replicate 64 0) := ⟨_, rfl⟩
        have hz8 : W8 hz := by rw [HZ0.out, HY.out]; exact blockOn_w8 hw8
        have f3 : Row _ _ _ _ := (z3.setRow (u32s hy)).setRow_other w2.heap.size (zrow 64 (.int .u8 0)).toArray (Nat.ne_of_lt hl3)
        have f6 : Row _ _ _ _ := (z6.setRow_other w.heap.size (u32s hy).toArray (by omega)).setRow_other w2.heap.size (zrow 64 (.int .u8 0)).toArray (Nat.ne_of_lt hl6)
        have f7 : Row _ _ _ _ := (z7.setRow_other w.heap.size (u32s hy).toArray (by omega)).setRow_other w2.heap.size (zrow 64 (.int .u8 0)).toArray (Nat.ne_of_lt hl7)
        have f8 : Row _ _ _ _ := (z8.setRow_other w.heap.size (u32s hy).toArray (Nat.ne_of_gt hl3)).setRow (zrow 64 (.int .u8 0))
        have fw := below_setRow (below_setRow zw (Nat.le_refl _) (u32s hy).toArray) (Nat.le_of_lt hl3) (zrow 64 (.int .u8 0)).toArray
        rw [zrow_u8, ← HL0.out] at f8 fw f3 f6 f7
        rw [zrow_u8, ← HL0.out]
        rw [← HZ0.out] at f3 f6 f7 f8 fw ⊢
        have hzl : Hid (lz.length = 64) := by show _ = _; rw [HL0.out]; simp
        have lzB : ∀ x ∈ lz, isB x := by rw [HL0.out]; intro x hx; rw [List.mem_replicate] at hx; unfold isB; omega
        have FIN : Hid (tailOn K0 hx u.data.toList ((done + s.size) * 8) = blockOn K0 hz (lz.take 56 ++ e8)) := by
          show _ = _
          unfold tailOn
          rw [if_pos (by rw [HUL.out]; exact h56), HZ0.out, HY.out, HL0.out, HE.out, HMk.out]
          simp
        generalize (w5.setRow w.heap.size (u32s hz).toArray).setRow w2.heap.size (u8s lz).toArray = wz at *
        clear z3 z6 z7 z8 zw qm q3 q6 q7 qw hr8 hc8 hf8
        obtain ⟨fz, HF⟩ : ∃ fz, Hid (fz = lz.take 56 ++ e8) := ⟨_, rfl⟩
        have hfl : Hid ((u8s fz).length = 64) := by show _ = _; have h1 := he8.out; have h2 := hzl.out; rw [u8s_length] at h1 ⊢; rw [HF.out, List.length_append, List.length_take]; omega
        have hfB : ∀ x ∈ fz, isB x := by
          rw [HF.out]; intro x hx
          rcases List.mem_append.1 hx with h | h
          · exact lzB x (List.mem_of_mem_take h)
          · rw [HE.out] at h; exact eightTo_B _ _ x h
        have hsp : Hid (splice (u8s lz) 56 (u8s e8) = u8s fz) := splice_tail hzl he8 HF
        clear lzB
        go_region_law (refine step_copy_splice rfl (.tmp 37) (.tmp 38) 28 28 rfl 5 under_bytes size_byte (some ⟨w2.heap.size, 56, none⟩) (some ⟨w1.heap.size, 0, none⟩) 8 8 8 8 rfl rfl w2.heap.size 56 (u8s lz) 95 f8 (u8s e8) (by rw [he8.out]; rfl) (fun _ => ⟨rfl, _, rfl, row_src (show Row _ _ _ _ from f7)⟩) (by rw [he8.out, u8s_length, hzl.out]; exact Nat.le_refl _) (u8s_one _) w2.heap.size _ (Below.refl _ _) (Nat.le_refl _) ?_; intro w6 hg6 hb6)
        have g8 : Row w6 w2.heap.size (u8s fz) 95 := by have := hg6.out; rw [hsp.out] at this; exact this
        have g3 := f3.drew.below hb6 hl3
        have g6 := f6.drew.below hb6 hl6
        have gw := fw.drew.trans (hb6.mono (Nat.le_of_lt hl3))
        clear hg6 hb6 f3 f6 f7 f8 fw
        go_wp2_with (first | (refine wpList_loadR rfl 69 _ rfl w.heap.size rfl 69 (u32s hz) 8 (.int .u32 0) g3 arr8w (by rw [u32s_length]; exact hz8.len) ?_; go_simp) | (refine wpList_loadR rfl 95 _ rfl w2.heap.size rfl 95 (u8s fz) 64 (.int .u8 0) g8 arr64b hfl.out ?_; go_simp) | (go_at_call 46; refine (prog_turn hz fz _ (hG.below gw (Nat.le_refl _)) hz8 (by rw [← u8s_length]; exact hfl.out) hfB).mono ?_; rintro _ w7 ⟨rfl, hb7⟩; obtain ⟨ov, HO⟩ := (⟨_, rfl⟩ : ∃ ov, Hid (ov = blockOn K0 hz fz)); rw [← HO.out]; have ho8 : W8 ov := (by rw [HO.out]; exact blockOn_w8 hz8); have k6 := g6.below hb7 g6.lt; have kw := gw.trans (hb7.mono (Nat.le_of_lt g3.lt)); clear hb7) | (go_at_call 48; refine (prog_bytesOf ov _ ho8.len ho8.all).mono ?_; rintro _ w8 ⟨rfl, hb8⟩; have j6 := k6.below hb8 k6.lt; have jw := kw.trans (hb8.mono (Nat.le_trans (Nat.le_succ _) (Nat.le_of_lt k6.lt))); clear hb8) | (refine wpList_storeR rfl 24 _ _ rfl (w.heap.size + 1) rfl (u8s (ov.flatMap four)) rfl 24 (zrow 32 (.int .u8 0)) 32 (.int .u8 0) j6 arr32b (by rw [u8s_length, flat_length, ho8.len]) (zrow_length _ _) (u8s_one _) ?_; go_simp))
        refine bodyPost_ret (v := .agg (u8s (ov.flatMap four)).toArray) (results_row Tryd.results34 _ (w.heap.size + 1) 24 (u8s (ov.flatMap four)) 32 (.int .u8 0) rfl (Row.setRow j6 _) arr32b (by rw [u8s_length, flat_length, ho8.len])) rfl ⟨?_, below_setRow jw (Nat.le_succ _) _⟩
        rw [HO.out, HF.out, ← FIN.out, HX.out, HU.out, HK.out]
        rfl
      · go_wp2_with (first | (go_at_call 47; refine (prog_blockOf _ _).mono ?_; rintro _ w2 ⟨rfl, hb2⟩; rw [← HBk.out]) | (refine wpList_allocR rfl 95 rfl 64 (.int .u8 0) arr64b ?_; go_simp) | (refine wpList_storeMA rfl 95 _ _ rfl _ rfl rfl (u8s bk) rfl 95 _ 64 (.int .u8 0) arr64b hbl.out (zrow_length _ _) (u8s_one _) ?_; intro w3 hr8 hb3; have hc8 : w3.cell? ⟨w2.heap.size, u.size, none⟩ = some (.int .u8 (bk.getD u.size 0)) := (by rw [hr8.cell, u8s_get _ _ (by rw [HBk.out, blk_length]; exact hn)]); have hf8 := hr8.frozen u.size; obtain ⟨hl3, q3⟩ := hR3.two hb2 hb3; obtain ⟨hl6, q6⟩ := hR6.two hb2 hb3; obtain ⟨hl7, q7⟩ := hR7.two hb2 hb3; have qw := hBw.trans ((hb2.mono (Nat.le_of_lt hR3.lt)).trans (hb3.mono (Nat.le_of_lt hl3))); have qm := marked_row hr8 HMk HBk HUL; clear hb2 hb3; go_simp) | fail)
        obtain ⟨hz, HZ0⟩ : ∃ hz, Hid (hz = hx) := ⟨_, rfl⟩
        obtain ⟨lz, HL0⟩ : ∃ lz : List Int, Hid (lz = mk) := ⟨_, rfl⟩
        have hz8 : W8 hz := by rw [HZ0.out]; exact hw8
        have f3 := q3.setCell_other ⟨w2.heap.size, u.size, none⟩ (.int .u8 128) (Nat.ne_of_lt hl3)
        rw [← HZ0.out] at f3
        have f6 := q6.setCell_other ⟨w2.heap.size, u.size, none⟩ (.int .u8 128) (Nat.ne_of_lt hl6)
        have f7 := q7.setCell_other ⟨w2.heap.size, u.size, none⟩ (.int .u8 128) (Nat.ne_of_lt hl7)
        have f8 := qm
        rw [← HL0.out] at f8
        have fw := qw.setCell (p := ⟨w2.heap.size, u.size, none⟩) (Nat.le_of_lt hl3) (.int .u8 128)
        have hzl : Hid (lz.length = 64) := by show _ = _; rw [HL0.out]; exact hml.out
        have lzB : ∀ x ∈ lz, isB x := by rw [HL0.out]; exact hmB
        have FIN : Hid (tailOn K0 hx u.data.toList ((done + s.size) * 8) = blockOn K0 hz (lz.take 56 ++ e8)) := by
          show _ = _
          unfold tailOn
          rw [if_neg (by rw [HUL.out]; exact h56), HZ0.out, HL0.out, HE.out, HMk.out]
        clear qm
        generalize w3.setCell ⟨w2.heap.size, u.size, none⟩ (.int .u8 128) = wz at *
        clear q3 q6 q7 qw hr8 hc8 hf8
        obtain ⟨fz, HF⟩ : ∃ fz, Hid (fz = lz.take 56 ++ e8) := ⟨_, rfl⟩
        have hfl : Hid ((u8s fz).length = 64) := by show _ = _; have h1 := he8.out; have h2 := hzl.out; rw [u8s_length] at h1 ⊢; rw [HF.out, List.length_append, List.length_take]; omega
        have hfB : ∀ x ∈ fz, isB x := by
          rw [HF.out]; intro x hx
          rcases List.mem_append.1 hx with h | h
          · exact lzB x (List.mem_of_mem_take h)
          · rw [HE.out] at h; exact eightTo_B _ _ x h
        have hsp : Hid (splice (u8s lz) 56 (u8s e8) = u8s fz) := splice_tail hzl he8 HF
        clear lzB
        go_region_law (refine step_copy_splice rfl (.tmp 37) (.tmp 38) 28 28 rfl 5 under_bytes size_byte (some ⟨w2.heap.size, 56, none⟩) (some ⟨w1.heap.size, 0, none⟩) 8 8 8 8 rfl rfl w2.heap.size 56 (u8s lz) 95 f8 (u8s e8) (by rw [he8.out]; rfl) (fun _ => ⟨rfl, _, rfl, row_src (show Row _ _ _ _ from f7)⟩) (by rw [he8.out, u8s_length, hzl.out]; exact Nat.le_refl _) (u8s_one _) w2.heap.size _ (Below.refl _ _) (Nat.le_refl _) ?_; intro w6 hg6 hb6)
        have g8 : Row w6 w2.heap.size (u8s fz) 95 := by have := hg6.out; rw [hsp.out] at this; exact this
        have g3 := f3.drew.below hb6 hl3
        have g6 := f6.drew.below hb6 hl6
        have gw := fw.drew.trans (hb6.mono (Nat.le_of_lt hl3))
        clear hg6 hb6 f3 f6 f7 f8 fw
        go_wp2_with (first | (refine wpList_loadR rfl 69 _ rfl w.heap.size rfl 69 (u32s hz) 8 (.int .u32 0) g3 arr8w (by rw [u32s_length]; exact hz8.len) ?_; go_simp) | (refine wpList_loadR rfl 95 _ rfl w2.heap.size rfl 95 (u8s fz) 64 (.int .u8 0) g8 arr64b hfl.out ?_; go_simp) | (go_at_call 46; refine (prog_turn hz fz _ (hG.below gw (Nat.le_refl _)) hz8 (by rw [← u8s_length]; exact hfl.out) hfB).mono ?_; rintro _ w7 ⟨rfl, hb7⟩; obtain ⟨ov, HO⟩ := (⟨_, rfl⟩ : ∃ ov, Hid (ov = blockOn K0 hz fz)); rw [← HO.out]; have ho8 : W8 ov := (by rw [HO.out]; exact blockOn_w8 hz8); have k6 := g6.below hb7 g6.lt; have kw := gw.trans (hb7.mono (Nat.le_of_lt g3.lt)); clear hb7) | (go_at_call 48; refine (prog_bytesOf ov _ ho8.len ho8.all).mono ?_; rintro _ w8 ⟨rfl, hb8⟩; have j6 := k6.below hb8 k6.lt; have jw := kw.trans (hb8.mono (Nat.le_trans (Nat.le_succ _) (Nat.le_of_lt k6.lt))); clear hb8) | (refine wpList_storeR rfl 24 _ _ rfl (w.heap.size + 1) rfl (u8s (ov.flatMap four)) rfl 24 (zrow 32 (.int .u8 0)) 32 (.int .u8 0) j6 arr32b (by rw [u8s_length, flat_length, ho8.len]) (zrow_length _ _) (u8s_one _) ?_; go_simp))
        refine bodyPost_ret (v := .agg (u8s (ov.flatMap four)).toArray) (results_row Tryd.results34 _ (w.heap.size + 1) 24 (u8s (ov.flatMap four)) 32 (.int .u8 0) rfl (Row.setRow j6 _) arr32b (by rw [u8s_length, flat_length, ho8.len])) rfl ⟨?_, below_setRow jw (Nat.le_succ _) _⟩
        rw [HO.out, HF.out, ← FIN.out, HX.out, HU.out, HK.out]
        rfl
end Go.Proofs.YtaokemapkgggoaaDoor
