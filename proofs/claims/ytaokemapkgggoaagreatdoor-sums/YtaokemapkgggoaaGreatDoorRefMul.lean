import Derived.Test.YtaokemapkgggoaaGreatDoorRefKit
import Derived.Test.YtaokemapkgggoaaGreatDoorRefSpec
namespace Go.Proofs.YtaokemapkgggoaaGreatDoor
open Go.RowKit

def i64s (l : List Int) : List Value := l.map (Value.int .i64)
@[simp] theorem i64s_length (l : List Int) : (i64s l).length = l.length := by simp [i64s]
theorem i64s_get (l : List Int) (i : Nat) (h : i < l.length) : (i64s l)[i]? = some (.int .i64 (l.getD i 0)) := by simp [i64s, h]
theorem i64s_set (l : List Int) (i : Nat) (x : Int) : (i64s l).set i (.int .i64 x) = i64s (l.set i x) := by simp [i64s, List.map_set]

/-- the numbers xs lie in block g from its head on -/
def At (w : World) (g : Nat) (xs : List Int) : Prop := ∀ j, j < xs.length → w.cell? ⟨g, j, none⟩ = some (.int .i64 (xs.getD j 0))
theorem At.below {B : Nat} {w w' : World} {g : Nat} {xs : List Int} (h : At w g xs) (hb : Below B w w') (hg : g < B) : At w' g xs := fun j hj => (hb.cell (p := ⟨g, j, none⟩) hg).trans (h j hj)
theorem Row.toAt {w : World} {g : Nat} {xs : List Int} {t : TypeId} (h : Row w g (i64s xs) t) : At w g xs := fun j hj => by rw [h.cell, i64s_get _ _ hj]
theorem At.drew {w : World} {g : Nat} {xs : List Int} (h : At w g xs) : At w.drew g xs := h

set_option maxHeartbeats 400000 in
theorem ref_pieces (x : Int) (w : World) (h0 : 0 ≤ x) (h1 : x < 281474976710656) :
    Calls Tryz.prog 61 #[.int .i64 x] w fun r w' => r = .returned (.slice (some ⟨w.heap.size, 0, none⟩) 3 3) ∧ Row w' w.heap.size (i64s (piecesL x)) 3 ∧ Below w.heap.size w w' := by
  go_enter Tryz.func61, Tryz.ntmps61
  go_wp2
  go_ret
  exact ⟨rfl, Row.made w (i64s (piecesL x)) 3, (Below.refl _ _).alloc (Nat.le_refl _) _⟩

theorem row_of_own {w' : World} {base g : Nat} {e : TypeId} {n : Nat} (h : w'.ownsRow base e 1 (.slice (some ⟨g, 0, none⟩) n n) n (madeCells (Value.int .i64 0).cells (n * 1)).toList) : Row w' g (i64s (List.replicate n 0)) e := by
  obtain ⟨_, h2⟩ := h
  rcases h2 with ⟨hv, _⟩ | ⟨g', cap, cur, hv, hg, hh, hc, hm, hs, ht⟩
  · cases hv
  · cases hv
    have hl : cur.toList.length = n := by rw [Array.length_toList, hs]; omega
    rw [List.take_of_length_le (by omega)] at ht
    have hz : (madeCells (Value.int .i64 0).cells (n * 1)).toList = List.replicate n (.int .i64 0) := by
      rw [Nat.mul_one]; exact toList_madeCells_one _ _
    unfold Row
    rw [hh, show i64s (List.replicate n 0) = cur.toList by rw [ht, hz]; simp [i64s]]

set_option maxRecDepth 100000 in
set_option maxHeartbeats 2000000 in
theorem ref_product (xs ys : List Int) (ga ca gb cb : Nat) (w : World) (ha : At w ga xs) (hb : At w gb ys) (hga : ga < w.heap.size) (hgb : gb < w.heap.size)
    (hn : xs.length ≤ 100) (hm : ys.length ≤ 100) (hx : ∀ j, isP (xs.getD j 0)) (hy : ∀ j, isP (ys.getD j 0)) :
    Calls Tryz.prog 62 #[.slice (some ⟨ga, 0, none⟩) xs.length ca, .slice (some ⟨gb, 0, none⟩) ys.length cb] w fun r w' =>
      r = .returned (.slice (some ⟨w.heap.size, 0, none⟩) (xs.length + ys.length) (xs.length + ys.length)) ∧ Row w' w.heap.size (i64s (prodL xs ys)) 3 ∧ Below w.heap.size w w' := by
  obtain ⟨i0, hi, hz0, hz1, hz2⟩ := info_parts slI.i
  have hu := slI.u
  have hbytes : i0.bytes * (xs.length + ys.length) ≤ 281474976710656 := by rw [hz2]; omega
  go_enter Tryz.func62, Tryz.ntmps62
  go_wp2_with (refine wpList_make_full _ rfl _ _ 42 rfl w.heap.size 3 i0 (.int .i64 0) 1 hu hi hz0 hz1 .i64 .i64 _ _ (xs.length + ys.length) rfl rfl (by omega) (by omega) hbytes (by unfold maxLen; omega) (Nat.le_refl _) ?_; intro w1 hown hgrow)
  have hR0 := row_of_own hown
  have hB0 : Below w.heap.size w w1 := (Below.refl _ _).grown hgrow (Nat.le_refl _) (fun k hk => by cases hk)
  clear hown hgrow
  go_loopw [6] (fun c wr => ∃ i : Nat, i ≤ xs.length ∧ c = .int .i64 i ∧ Row wr w.heap.size (i64s (mulTo xs ys i)) 3 ∧ Below w.heap.size w wr)
    (fun c _ => xs.length - (intOf c).toNat)
  case atStart => exact ⟨0, by omega, rfl, hR0, hB0⟩
  case round =>
    clear hR0 hB0
    obtain ⟨i, hi1, rfl, hR, hB⟩ := hrel
    by_cases hlt : i < xs.length
    · have hobd := (mulTo_bd hx hy i).1
      have hol := mulTo_len xs ys i
      have HT : Hid (mulTo xs ys (i + 1) = (mulRow (xs.getD i 0) ys i (mulTo xs ys i) ys.length).1.set (i + ys.length) ((mulRow (xs.getD i 0) ys i (mulTo xs ys i) ys.length).1.getD (i + ys.length) 0 + (mulRow (xs.getD i 0) ys i (mulTo xs ys i) ys.length).2)) := rfl
      have hxi := hx i
      have hca := ha i hlt
      generalize xs.getD i 0 = a at *
      obtain ⟨o, HO⟩ : ∃ o, Hid (o = mulTo xs ys i) := ⟨_, rfl⟩
      rw [← HO.out] at hobd hol HT hR
      have HOL : Hid _ := hol
      clear hol
      go_wp2
      go_loopw [7, 8] (fun cy c ws => ∃ j : Nat, j ≤ ys.length ∧ c = .int .i64 j ∧ cy = .int .i64 (mulRow a ys i o j).2 ∧ Row ws w.heap.size (i64s (mulRow a ys i o j).1) 3 ∧ Below w.heap.size w ws)
        (fun _ c _ => ys.length - (intOf c).toNat)
      case atStart => exact ⟨0, by omega, rfl, rfl, hR, hB⟩
      case round =>
        clear hR hB
        obtain ⟨j, hj1, rfl, rfl, hR, hB⟩ := hrel
        obtain ⟨hbd, hcb⟩ := mulRow_bd (i := i) hxi hy hobd j
        have hlen : (mulRow a ys i o j).1.length = xs.length + ys.length := by rw [mulRow_len]; exact HOL.out
        by_cases hlt2 : j < ys.length
        · have c1 : wr.cell? ⟨w.heap.size, i + j, none⟩ = some (.int .i64 ((mulRow a ys i o j).1.getD (i + j) 0)) := by rw [hR.cell, i64s_get _ _ (by omega)]
          have c2 : wr.cell? ⟨ga, i, none⟩ = some (.int .i64 a) := (hB.cell (p := ⟨ga, i, none⟩) hga).trans hca
          have c3 : wr.cell? ⟨gb, j, none⟩ = some (.int .i64 (ys.getD j 0)) := (hB.cell (p := ⟨gb, j, none⟩) hgb).trans (hb j hlt2)
          have hf := hR.frozen (i + j)
          have HS : Hid (mulRow a ys i o (j + 1) = ((mulRow a ys i o j).1.set (i + j) (((mulRow a ys i o j).1.getD (i + j) 0 + a * ys.getD j 0 + (mulRow a ys i o j).2) % 65536), ((mulRow a ys i o j).1.getD (i + j) 0 + a * ys.getD j 0 + (mulRow a ys i o j).2) / 65536)) := rfl
          have hm := mul_bd hxi (hy j)
          obtain ⟨e0, e1⟩ := hbd (i + j)
          obtain ⟨q0, q1⟩ := hcb
          obtain ⟨m0, m1⟩ := hm
          obtain ⟨b0, b1⟩ := hy j
          obtain ⟨a0, a1⟩ := hxi
          clear hbd
          obtain ⟨R, HR⟩ : ∃ R, Hid (R = (mulRow a ys i o j).1) := ⟨_, rfl⟩
          rw [← HR.out] at hR c1 HS e0 e1 hlen
          generalize (mulRow a ys i o j).2 = cy at *
          generalize R.getD (i + j) 0 = y at *
          generalize ys.getD j 0 = b at *
          have i0' : (i : Int) + j < xs.length + ys.length := by omega
          have HLen : Hid _ := hlen
          clear hlen
          go_wp2
          go_quiet (fail)
          go_wp2
          refine ⟨⟨j + 1, by omega, by go_num, by rw [HS.out], ?_, (below_drewN hB _).setCell (Nat.le_refl _) _⟩, by simp [intOf]; omega⟩
          have := (hR.drewN nq).setCell (i + j) (.int .i64 ((y + a * b + cy) % 65536))
          rw [i64s_set] at this
          rw [HS.out]
          exact this
        · have hjm : j = ys.length := by omega
          rw [hjm] at hR hbd hcb hlen
          have c1 : wr.cell? ⟨w.heap.size, i + ys.length, none⟩ = some (.int .i64 ((mulRow a ys i o ys.length).1.getD (i + ys.length) 0)) := by rw [hR.cell, i64s_get _ _ (by omega)]
          have hf := hR.frozen (i + ys.length)
          obtain ⟨e0, e1⟩ := hbd (i + ys.length)
          obtain ⟨q0, q1⟩ := hcb
          have HJ : Hid _ := hjm
          clear hjm hbd
          obtain ⟨R, HR⟩ : ∃ R, Hid (R = (mulRow a ys i o ys.length).1) := ⟨_, rfl⟩
          rw [← HR.out] at hR c1 HT e0 e1 hlen
          obtain ⟨cy, HC⟩ : ∃ cy, Hid (cy = (mulRow a ys i o ys.length).2) := ⟨_, rfl⟩
          rw [← HC.out] at q0 q1 HT
          have HCj : Hid (cy = (mulRow a ys i o j).2) := by show _ = _; rw [HJ.out]; exact HC.out
          rw [← HCj.out]
          generalize R.getD (i + ys.length) 0 = y at *
          have HLen : Hid _ := hlen
          clear hlen
          have i0' : (i : Int) + ys.length < xs.length + ys.length := by omega
          go_wp2
          refine ⟨⟨i + 1, by omega, by go_num, ?_, hB.setCell (Nat.le_refl _) _⟩, by simp [intOf]; omega⟩
          have := hR.setCell (i + ys.length) (.int .i64 (y + cy))
          rw [i64s_set] at this
          rw [HT.out]
          exact this
    · have hin : i = xs.length := by omega
      have HI : Hid (mulTo xs ys i = prodL xs ys) := by show _ = _; rw [hin]; rfl
      clear hin
      go_wp2
      go_ret
      exact ⟨rfl, by rw [← HI.out]; exact hR, hB⟩
end Go.Proofs.YtaokemapkgggoaaGreatDoor
