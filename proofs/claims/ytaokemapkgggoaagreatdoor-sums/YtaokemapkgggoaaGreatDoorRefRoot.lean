import Derived.Test.YtaokemapkgggoaaGreatDoorRefMul
namespace Go.Proofs.YtaokemapkgggoaaGreatDoor
open Go.RowKit

theorem ret_bool {a b : Bool} (h : a = b) : Ending.returned (.bool a) = .returned (.bool b) := by rw [h]

set_option maxHeartbeats 1000000 in
theorem ref_above (xs : List Int) (ga ca : Nat) (p n : Int) (w : World) (ha : At w ga xs) (hl : xs.length ≤ 100) (hn : 0 ≤ n) :
    Calls Tryz.prog 63 #[.slice (some ⟨ga, 0, none⟩) xs.length ca, .int .i64 p, .int .i64 n] w fun r w' => r = .returned (.bool (abv xs p n.toNat xs.length)) ∧ w' = w := by
  obtain ⟨m, rfl⟩ := Int.eq_ofNat_of_zero_le hn
  rw [Int.toNat_natCast]
  go_enter Tryz.func63, Tryz.ntmps63
  go_wp2
  go_loop [7] (fun c => ∃ k : Nat, k ≤ xs.length ∧ c = .int .i64 ((k : Int) - 1) ∧ Hid (abv xs p m xs.length = abv xs p m k)) (fun c => (intOf c + 1).toNat)
  case atStart => exact ⟨xs.length, by omega, rfl, show _ = _ from rfl⟩
  case round =>
    obtain ⟨k, hk, rfl, HA⟩ := hrel
    by_cases hk0 : 0 < k
    · obtain ⟨j, rfl⟩ : ∃ j, k = j + 1 := ⟨k - 1, by omega⟩
      have hc := ha j (by omega)
      have HS : Hid (abv xs p m (j + 1) = if xs.getD j 0 = (if j = m then p else 0) then abv xs p m j else decide ((if j = m then p else 0) < xs.getD j 0)) := rfl
      have ej : ((j + 1 : Nat) : Int) - 1 = (j : Int) := by omega
      rw [ej]
      generalize xs.getD j 0 = y at *
      by_cases hjm : j = m
      · rw [if_pos hjm] at HS
        have hq : ((j : Int) == (m : Int)) = true := by rw [beq_iff_eq]; omega
        clear hjm ej
        by_cases hy : y = p
        · rw [if_pos hy] at HS
          have hq2 : (y != p) = false := by simp [hy]
          clear hy
          go_wp2
          refine ⟨⟨j, by omega, rfl, show _ = _ by rw [HA.out, HS.out]⟩, by simp [intOf]⟩
        · rw [if_neg hy] at HS
          have hq2 : (y != p) = true := by simp [hy]
          clear hy
          go_wp2
          go_ret
          exact ⟨ret_bool (by rw [HA.out, HS.out]), rfl⟩
      · rw [if_neg hjm] at HS
        have hq : ((j : Int) == (m : Int)) = false := by rw [beq_eq_false_iff_ne]; omega
        clear hjm ej
        by_cases hy : y = 0
        · rw [if_pos hy] at HS
          have hq2 : (y != 0) = false := by simp [hy]
          clear hy
          go_wp2
          refine ⟨⟨j, by omega, rfl, show _ = _ by rw [HA.out, HS.out]⟩, by simp [intOf]⟩
        · rw [if_neg hy] at HS
          have hq2 : (y != 0) = true := by simp [hy]
          clear hy
          go_wp2
          go_ret
          exact ⟨ret_bool (by rw [HA.out, HS.out]), rfl⟩
    · have hk1 : k = 0 := by omega
      subst hk1
      go_wp2
      go_ret
      exact ⟨ret_bool HA.out.symm, rfl⟩

theorem bisTo_inv (p : Int) (cube : Bool) (k : Nat) (hk : k ≤ 37) : 0 ≤ (bisTo p cube k).1 ∧ (bisTo p cube k).2 = (bisTo p cube k).1 + 2 ^ (37 - k) ∧ (bisTo p cube k).2 ≤ 137438953472 := by
  induction k with
  | zero => simp [bisTo]
  | succ k ih =>
    obtain ⟨h1, h2, h3⟩ := ih (by omega)
    have he : (2 : Int) ^ (37 - k) = 2 * 2 ^ (37 - (k + 1)) := by rw [show 37 - k = (37 - (k + 1)) + 1 by omega, Int.pow_succ, Int.mul_comm]
    have hp : (0 : Int) < 2 ^ (37 - (k + 1)) := Int.pow_pos (by omega)
    rw [he] at h2
    unfold bisTo
    generalize (2 : Int) ^ (37 - (k + 1)) = q at *
    split <;> (simp only []; omega)

theorem over_true (p mid : Int) : over p true mid = abv (prodL (prodL (piecesL mid) (piecesL mid)) (piecesL mid)) p 6 9 := by unfold over; rw [if_pos rfl]
theorem over_false (p mid : Int) : over p false mid = abv (prodL (piecesL mid) (piecesL mid)) p 4 6 := by unfold over; rw [if_neg (by decide)]
/-- product's contract at lengths that are numerals -/
theorem fit3 {ga ca gb cb n m : Nat} {xs ys : List Int} {w : World} {Q : Ending → World → Prop}
    (h : Calls Tryz.prog 62 #[.slice (some ⟨ga, 0, none⟩) xs.length ca, .slice (some ⟨gb, 0, none⟩) ys.length cb] w fun r w' =>
      r = .returned (.slice (some ⟨w.heap.size, 0, none⟩) (xs.length + ys.length) (xs.length + ys.length)) ∧ Row w' w.heap.size (i64s (prodL xs ys)) 3 ∧ Below w.heap.size w w')
    (hn : Hid (xs.length = n)) (hm : Hid (ys.length = m))
    (hq : ∀ w', Row w' w.heap.size (i64s (prodL xs ys)) 3 → Below w.heap.size w w' → Q (.returned (.slice (some ⟨w.heap.size, 0, none⟩) (n + m) (n + m))) w') :
    Calls Tryz.prog 62 #[.slice (some ⟨ga, 0, none⟩) n ca, .slice (some ⟨gb, 0, none⟩) m cb] w Q := by
  have h1 := hn.out
  have h2 := hm.out
  rw [h1, h2] at h
  refine h.mono ?_
  rintro _ w' ⟨rfl, hr, hb⟩
  exact hq w' hr hb
theorem fitA {ga ca n : Nat} {xs : List Int} {p m : Int} {w : World} {Q : Ending → World → Prop}
    (h : Calls Tryz.prog 63 #[.slice (some ⟨ga, 0, none⟩) xs.length ca, .int .i64 p, .int .i64 m] w fun r w' => r = .returned (.bool (abv xs p m.toNat xs.length)) ∧ w' = w)
    (hn : Hid (xs.length = n)) (hq : Q (.returned (.bool (abv xs p m.toNat n))) w) :
    Calls Tryz.prog 63 #[.slice (some ⟨ga, 0, none⟩) n ca, .int .i64 p, .int .i64 m] w Q := by
  have h1 := hn.out
  rw [h1] at h
  refine h.mono ?_
  rintro _ w' ⟨rfl, rfl⟩
  exact hq

set_option maxRecDepth 100000 in
set_option maxHeartbeats 1000000 in
theorem ref_root_true (p : Int) (w : World) :
    Calls Tryz.prog 38 #[.int .i64 p, .bool true] w fun r w' => r = .returned (.int .i64 (rootL p true)) ∧ Below w.heap.size w w' := by
  obtain ⟨f, HF⟩ : ∃ f : Nat → Int × Int, Hid (f = bisTo p true) := ⟨_, rfl⟩
  obtain ⟨res, HRes⟩ : ∃ res, Hid (res = rootL p true) := ⟨_, rfl⟩
  rw [← HRes.out]
  have hinv : ∀ k, k ≤ 37 → 0 ≤ (f k).1 ∧ (f k).2 = (f k).1 + 2 ^ (37 - k) ∧ (f k).2 ≤ 137438953472 := by rw [HF.out]; exact fun k hk => bisTo_inv p true k hk
  have HInv : Hid _ := hinv
  clear hinv
  obtain ⟨ov, HOv⟩ : ∃ ov : Int → Bool, Hid (ov = over p true) := ⟨_, rfl⟩
  have HSucc : Hid (∀ k, f (k + 1) = if ov (((f k).1 + (f k).2) / 2) then ((f k).1, ((f k).1 + (f k).2) / 2) else (((f k).1 + (f k).2) / 2, (f k).2)) := by
    rw [HF.out, HOv.out]; exact fun k => rfl
  have h00 : (f 0).1 = 0 ∧ (f 0).2 = 137438953472 := by rw [HF.out]; exact ⟨rfl, rfl⟩
  have H00 : Hid _ := h00
  clear h00
  go_enter Tryz.func38, Tryz.ntmps38
  go_wp2
  go_loopw [5, 6] (fun l h wr => ∃ k : Nat, k ≤ 37 ∧ l = .int .i64 (f k).1 ∧ h = .int .i64 (f k).2 ∧ Below w.heap.size w wr)
    (fun l h _ => (intOf h - intOf l).toNat)
  case atStart => exact ⟨0, by omega, by rw [H00.out.1], by rw [H00.out.2], Below.refl _ _⟩
  case round =>
    obtain ⟨k, hk, rfl, rfl, hB⟩ := hrel
    obtain ⟨v1, v2, v3⟩ := HInv.out k hk
    by_cases hlt : k < 37
    · have HS := HSucc.out k
      have HS' : Hid _ := HS
      clear HS
      have hw2 : (2 : Int) ≤ 2 ^ (37 - k) := by
        have h1 : (2 : Nat) ^ 1 ≤ 2 ^ (37 - k) := Nat.pow_le_pow_right (by omega) (by omega)
        have h2 : ((2 ^ (37 - k) : Nat) : Int) = (2 : Int) ^ (37 - k) := by simp
        omega
      generalize (f k).1 = lo at *
      generalize (f k).2 = hi at *
      have hgt : lo + 1 < hi := by omega
      have hhi : hi ≤ 137438953472 := v3
      clear v2 hw2 v3
      have hm0 : 0 ≤ (lo + hi) / 2 ∧ (lo + hi) / 2 < 281474976710656 ∧ lo < (lo + hi) / 2 ∧ (lo + hi) / 2 < hi := by omega
      obtain ⟨hm0, hm1, hm2, hm3⟩ := hm0
      go_wp2_with fail
      generalize (lo + hi) / 2 = mid at *
      obtain ⟨X, HX⟩ : ∃ X, Hid (X = piecesL mid) := ⟨_, rfl⟩
      have HX3 : Hid (X.length = 3) := by show _ = _; rw [HX.out]; rfl
      have hXb : ∀ j, isP (X.getD j 0) := by rw [HX.out]; exact piecesL_bd hm0 hm1
      refine (ref_pieces mid _ hm0 hm1).mono ?_
      rintro _ w1 ⟨rfl, hr1, hb1⟩
      rw [← HX.out] at hr1
      have x1 := hr1.toAt
      have hl1 := hr1.lt
      have hB1 := hB.trans (hb1.mono hB.size)
      clear hb1 hr1
      go_wp2_with fail
      refine fit3 (ref_product X X wr.heap.size 3 wr.heap.size 3 _ x1 x1 hl1 hl1 (by rw [HX3.out]; omega) (by rw [HX3.out]; omega) hXb hXb) HX3 HX3 ?_
      rintro w2 hr2 hb2
      obtain ⟨Y, HY⟩ : ∃ Y, Hid (Y = prodL X X) := ⟨_, rfl⟩
      rw [← HY.out] at hr2
      have HY6 : Hid (Y.length = 6) := by show _ = _; rw [HY.out, prodL_len, HX3.out]
      have hYb : ∀ j, isP (Y.getD j 0) := by rw [HY.out]; exact prodL_bd hXb hXb
      have d2 := hr2.toAt
      have d1 := x1.below hb2 hl1
      have hl2 := hr2.lt
      have hB2 := hB1.trans (hb2.mono hB1.size)
      clear hb2 hr2 x1
      go_wp2_with fail
      refine fit3 (ref_product Y X w1.heap.size 6 wr.heap.size 3 _ d2 d1 (by omega) (by omega) (by rw [HY6.out]; omega) (by rw [HX3.out]; omega) hYb hXb) HY6 HX3 ?_
      rintro w3 hr3 hb3
      obtain ⟨Z, HZ⟩ : ∃ Z, Hid (Z = prodL Y X) := ⟨_, rfl⟩
      rw [← HZ.out] at hr3
      have HZ9 : Hid (Z.length = 9) := by show _ = _; rw [HZ.out, prodL_len, HY6.out, HX3.out]
      have z1 := hr3.toAt
      have hB3 := hB2.trans (hb3.mono hB2.size)
      clear hb3 hr3
      go_wp2_with fail
      refine fitA (ref_above Z w2.heap.size 9 p 6 _ z1 (by rw [HZ9.out]; omega) (by omega)) HZ9 ?_
      have HV : Hid (ov mid = abv Z p 6 9) := by show _ = _; rw [HOv.out, HZ.out, HY.out, HX.out]; exact over_true p mid
      rw [show (6 : Int).toNat = 6 from rfl, ← HV.out]
      cases hov : ov mid with
      | true =>
        rw [hov, if_pos rfl] at HS'
        go_wp2
        refine ⟨⟨k + 1, by omega, by rw [HS'.out], by rw [HS'.out], hB3⟩, by simp [intOf]; omega⟩
      | false =>
        rw [hov] at HS'
        go_wp2
        refine ⟨⟨k + 1, by omega, by rw [HS'.out]; rfl, by rw [HS'.out]; rfl, hB3⟩, by simp [intOf]; omega⟩
    · have hk37 : k = 37 := by omega
      have HK : Hid (res = (f k).1 % 4294967296) := by show _ = _; rw [HRes.out, HF.out, hk37]; rfl
      have hle : (f k).2 = (f k).1 + 1 := by rw [hk37] at v2 ⊢; simpa using v2
      have hle1 : (f k).2 ≤ (f k).1 + 1 := by omega
      have hge : (f k).1 ≤ (f k).2 := by omega
      clear hk37 v2 hle
      generalize (f k).1 = lo at *
      generalize (f k).2 = hi at *
      go_wp2
      go_ret
      exact ⟨ret_int HK.out.symm, hB⟩

set_option maxRecDepth 100000 in
set_option maxHeartbeats 1000000 in
theorem ref_root_false (p : Int) (w : World) :
    Calls Tryz.prog 38 #[.int .i64 p, .bool false] w fun r w' => r = .returned (.int .i64 (rootL p false)) ∧ Below w.heap.size w w' := by
  obtain ⟨f, HF⟩ : ∃ f : Nat → Int × Int, Hid (f = bisTo p false) := ⟨_, rfl⟩
  obtain ⟨res, HRes⟩ : ∃ res, Hid (res = rootL p false) := ⟨_, rfl⟩
  rw [← HRes.out]
  have hinv : ∀ k, k ≤ 37 → 0 ≤ (f k).1 ∧ (f k).2 = (f k).1 + 2 ^ (37 - k) ∧ (f k).2 ≤ 137438953472 := by rw [HF.out]; exact fun k hk => bisTo_inv p false k hk
  have HInv : Hid _ := hinv
  clear hinv
  obtain ⟨ov, HOv⟩ : ∃ ov : Int → Bool, Hid (ov = over p false) := ⟨_, rfl⟩
  have HSucc : Hid (∀ k, f (k + 1) = if ov (((f k).1 + (f k).2) / 2) then ((f k).1, ((f k).1 + (f k).2) / 2) else (((f k).1 + (f k).2) / 2, (f k).2)) := by
    rw [HF.out, HOv.out]; exact fun k => rfl
  have h00 : (f 0).1 = 0 ∧ (f 0).2 = 137438953472 := by rw [HF.out]; exact ⟨rfl, rfl⟩
  have H00 : Hid _ := h00
  clear h00
  go_enter Tryz.func38, Tryz.ntmps38
  go_wp2
  go_loopw [5, 6] (fun l h wr => ∃ k : Nat, k ≤ 37 ∧ l = .int .i64 (f k).1 ∧ h = .int .i64 (f k).2 ∧ Below w.heap.size w wr)
    (fun l h _ => (intOf h - intOf l).toNat)
  case atStart => exact ⟨0, by omega, by rw [H00.out.1], by rw [H00.out.2], Below.refl _ _⟩
  case round =>
    obtain ⟨k, hk, rfl, rfl, hB⟩ := hrel
    obtain ⟨v1, v2, v3⟩ := HInv.out k hk
    by_cases hlt : k < 37
    · have HS := HSucc.out k
      have HS' : Hid _ := HS
      clear HS
      have hw2 : (2 : Int) ≤ 2 ^ (37 - k) := by
        have h1 : (2 : Nat) ^ 1 ≤ 2 ^ (37 - k) := Nat.pow_le_pow_right (by omega) (by omega)
        have h2 : ((2 ^ (37 - k) : Nat) : Int) = (2 : Int) ^ (37 - k) := by simp
        omega
      generalize (f k).1 = lo at *
      generalize (f k).2 = hi at *
      have hgt : lo + 1 < hi := by omega
      have hhi : hi ≤ 137438953472 := v3
      clear v2 hw2 v3
      have hm0 : 0 ≤ (lo + hi) / 2 ∧ (lo + hi) / 2 < 281474976710656 ∧ lo < (lo + hi) / 2 ∧ (lo + hi) / 2 < hi := by omega
      obtain ⟨hm0, hm1, hm2, hm3⟩ := hm0
      go_wp2_with fail
      generalize (lo + hi) / 2 = mid at *
      obtain ⟨X, HX⟩ : ∃ X, Hid (X = piecesL mid) := ⟨_, rfl⟩
      have HX3 : Hid (X.length = 3) := by show _ = _; rw [HX.out]; rfl
      have hXb : ∀ j, isP (X.getD j 0) := by rw [HX.out]; exact piecesL_bd hm0 hm1
      refine (ref_pieces mid _ hm0 hm1).mono ?_
      rintro _ w1 ⟨rfl, hr1, hb1⟩
      rw [← HX.out] at hr1
      have x1 := hr1.toAt
      have hl1 := hr1.lt
      have hB1 := hB.trans (hb1.mono hB.size)
      clear hb1 hr1
      go_wp2_with fail
      refine fit3 (ref_product X X wr.heap.size 3 wr.heap.size 3 _ x1 x1 hl1 hl1 (by rw [HX3.out]; omega) (by rw [HX3.out]; omega) hXb hXb) HX3 HX3 ?_
      rintro w2 hr2 hb2
      obtain ⟨Y, HY⟩ : ∃ Y, Hid (Y = prodL X X) := ⟨_, rfl⟩
      rw [← HY.out] at hr2
      have HY6 : Hid (Y.length = 6) := by show _ = _; rw [HY.out, prodL_len, HX3.out]
      have hYb : ∀ j, isP (Y.getD j 0) := by rw [HY.out]; exact prodL_bd hXb hXb
      have d2 := hr2.toAt
      have d1 := x1.below hb2 hl1
      have hl2 := hr2.lt
      have hB2 := hB1.trans (hb2.mono hB1.size)
      clear hb2 hr2 x1
      go_wp2_with fail
      refine fitA (ref_above Y w1.heap.size 6 p 4 _ d2 (by rw [HY6.out]; omega) (by omega)) HY6 ?_
      have HV : Hid (ov mid = abv Y p 4 6) := by show _ = _; rw [HOv.out, HY.out, HX.out]; exact over_false p mid
      rw [show (4 : Int).toNat = 4 from rfl, ← HV.out]
      have hB3 := hB2
      cases hov : ov mid with
      | true =>
        rw [hov, if_pos rfl] at HS'
        go_wp2
        refine ⟨⟨k + 1, by omega, by rw [HS'.out], by rw [HS'.out], hB3⟩, by simp [intOf]; omega⟩
      | false =>
        rw [hov] at HS'
        go_wp2
        refine ⟨⟨k + 1, by omega, by rw [HS'.out]; rfl, by rw [HS'.out]; rfl, hB3⟩, by simp [intOf]; omega⟩
    · have hk37 : k = 37 := by omega
      have HK : Hid (res = (f k).1 % 4294967296) := by show _ = _; rw [HRes.out, HF.out, hk37]; rfl
      have hle : (f k).2 = (f k).1 + 1 := by rw [hk37] at v2 ⊢; simpa using v2
      have hle1 : (f k).2 ≤ (f k).1 + 1 := by omega
      have hge : (f k).1 ≤ (f k).2 := by omega
      clear hk37 v2 hle
      generalize (f k).1 = lo at *
      generalize (f k).2 = hi at *
      go_wp2
      go_ret
      exact ⟨ret_int HK.out.symm, hB⟩

end Go.Proofs.YtaokemapkgggoaaGreatDoor
