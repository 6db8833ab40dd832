import Derived.Test.YtaokemapkgggoaaGreatDoorAl02
import Derived.Test.YtaokemapkgggoaaGreatDoorAl01
namespace Go.Proofs.YtaokemapkgggoaaGreatDoor
open Go.RowKit

theorem ret_bool {a b : Bool} (h : a = b) : Ending.returned (.bool a) = .returned (.bool b) := by rw [h]

set_option maxHeartbeats 1000000 in
theorem ref_above (xs : List Int) (ga ca : Nat) (p n : Int) (w : World) (ha : At w ga xs) (hl : xs.length ≤ 100) (hn : 0 ≤ n) :
    Calls Tryz.prog 63 #[.slice (some ⟨ga, 0, none⟩) xs.length ca, .int .i64 p, .int .i64 n] w fun r w' => r = .returned (.bool (abv xs p n.toNat xs.length)) ∧ w' = w := by
  obtain ⟨m, rfl⟩ := Int.eq_ofNat_of_zero_le hn
  rw [Int.toNat_natCast]
  go_enter Tryz.func63, Tryz.ntmps63
  go_wp2
  go_loop [7] (fun c => ∃ k : Nat, k ≤ xs.length ∧ c = .int .i64 ((k : Int) - 1) ∧ Hid (abv xs p m xs.length = abv xs p m k)) (fun c => (intOf c + 1).toNat)
  case atStart => exact ⟨xs.length, by omega, rfl, show _ = _ from rfl⟩
  case round =>
    obtain ⟨k, hk, rfl, HA⟩ := hrel
    by_cases hk0 : 0 < k
    · obtain ⟨j, rfl⟩ : ∃ j, k = j + 1 := ⟨k - 1, by omega⟩
      have hc := ha j (by omega)
      have HS : Hid (abv xs p m (j + 1) = if xs.getD j 0 = (if j = m then p else 0) then abv xs p m j else decide ((if j = m then p else 0) < xs.getD j 0)) := rfl
      have ej : ((j + 1 : Nat) : Int) - 1 = (j : Int) := by omega
      rw [ej]
      generalize xs.getD j 0 = y at *
      by_cases hjm : j = m
      · rw [if_pos hjm] at HS
        have hq : ((j : Int) == (m : Int)) = true := by rw [beq_iff_eq]; omega
        clear hjm ej
        by_cases hy : y = p
        · rw [if_pos hy] at HS
          have hq2 : (y != p) = false := by simp [hy]
          clear hy
          go_wp2
          refine ⟨⟨j, by omega, rfl, show _ = _ by rw [HA.out, HS.out]⟩, by simp [intOf]⟩
        · rw [if_neg hy] at HS
          have hq2 : (y != p) = true := by simp [hy]
          clear hy
          go_wp2
          go_ret
          exact ⟨ret_bool (by rw [HA.out, HS.out]), rfl⟩
      · rw [if_neg hjm] at HS
        have hq : ((j : Int) == (m : Int)) = false := by rw [beq_eq_false_iff_ne]; omega
        clear hjm ej
        by_cases hy : y = 0
        · rw [if_pos hy] at HS
          have hq2 : (y != 0) = false := by simp [hy]
          clear hy
          go_wp2
          refine ⟨⟨j, by omega, rfl, show _ = _ by rw [HA.out, HS.out]⟩, by simp [intOf]⟩
        · rw [if_neg hy] at HS
          have hq2 : (y != 0) = true := by simp [hy]
          clear hy
          go_wp2
          go_ret
          exact ⟨ret_bool (by rw [HA.out, HS.out]), rfl⟩
    · have hk1 : k = 0 := by omega
      subst hk1
      go_wp2
      go_ret
      exact ⟨ret_bool HA.out.symm, rfl⟩

theorem bisTo_inv (p : Int) (cube : Bool) (k : Nat) (hk : k ≤ 37) : 0 ≤ (bisTo p cube k).1 ∧ (bisTo p cube k).2 = (bisTo p cube k).1 + 2 ^ (37 - k) ∧ (bisTo p cube k).2 ≤ 137438953472 := by
  induction k with
  | zero => simp [bisTo]
  | succ k ih =>
    obtain ⟨h1, h2, h3⟩ := ih (by omega)
    have he : (2 : Int) ^ (37 - k) = 2 * 2 ^ (37 - (k + 1)) := by rw [show 37 - k = (37 - (k + 1)) + 1 by omega, Int.pow_succ, Int.mul_comm]
    have hp : (0 : Int) < 2 ^ (37 - (k + 1)) := Int.pow_pos (by omega)
    rw [he] at h2
    unfold bisTo
    generalize (2 : Int) ^ (37 - (k + 1)) = q at *
    split <;> (simp only []; omega)

theorem over_true (p mid : Int) : over p true mid = abv (prodL (prodL (piecesL mid) (piecesL mid)) (piecesL mid)) p 6 9 := by unfold over; rw [if_pos rfl]
theorem over_false (p mid : Int) : over p false mid = abv (prodL (piecesL mid) (piecesL mid)) p 4 6 := by unfold over; rw [if_neg (by decide)]
/-- product's contract at lengths that are numerals -/
theorem fit3 {ga ca gb cb n m : Nat} {xs ys : List Int} {w : World} {Q : Ending → World → Prop}
    (h : Calls Tryz.prog 62 #[.slice (some ⟨ga, 0, none⟩) xs.length ca, .slice (some ⟨gb, 0, none⟩) ys.length cb] w fun r w' =>
      r = .returned (.slice (some ⟨w.heap.size, 0, none⟩) (xs.length + ys.length) (xs.length + ys.length)) ∧ Row w' w.heap.size (i64s (prodL xs ys)) 3 ∧ Below w.heap.size w w')
    (hn : Hid (xs.length = n)) (hm : Hid (ys.length = m))
    (hq : ∀ w', Row w' w.heap.size (i64s (prodL xs ys)) 3 → Below w.heap.size w w' → Q (.returned (.slice (some ⟨w.heap.size, 0, none⟩) (n + m) (n + m))) w') :
    Calls Tryz.prog 62 #[.slice (some ⟨ga, 0, none⟩) n ca, .slice (some ⟨gb, 0, none⟩) m cb] w Q := by
  have h1 := hn.out
  have h2 := hm.out
  rw [h1, h2] at h
  refine h.mono ?_
  rintro _ w' ⟨rfl, hr, hb⟩
  exact hq w' hr hb
theorem fitA {ga ca n : Nat} {xs : List Int} {p m : Int} {w : World} {Q : Ending → World → Prop}
    (h : Calls Tryz.prog 63 #[.slice (some ⟨ga, 0, none⟩) xs.length ca, .int .i64 p, .int .i64 m] w fun r w' => r = .returned (.bool (abv xs p m.toNat xs.length)) ∧ w' = w)
    (hn : Hid (xs.length = n)) (hq : Q (.returned (.bool (abv xs p m.toNat n))) w) :
    Calls Tryz.prog 63 #[.slice (some ⟨ga, 0, none⟩) n ca, .int .i64 p, .int .i64 m] w Q := by
  have h1 := hn.out
  rw [h1] at h
  refine h.mono ?_
  rintro _ w' ⟨rfl, rfl⟩
  exact hq

set_option maxRecDepth 100000 in
set_option maxHeartbeats 1000000 in
theorem ref_root_true (p : Int) (w : World) :
    Calls Tryz.prog 38 #[.int .i64 p, .bool true] w fun r w' => r = .returned (.int .i64 (rootL p true)) ∧ Below w.heap.size w w' := by
  obtain ⟨f, HF⟩ : ∃ f : Nat → Int × Int, Hid (f = bisTo p true) := ⟨_, rfl⟩
  obtain ⟨res, HRes⟩ : ∃ res, Hid (res = rootL p true) := ⟨_, rfl⟩
  rw [← HRes.out]
  have hinv : ∀ k, k ≤ 37 → 0 ≤ (f k).1 ∧ (f k).2 = (f k).1 + 2 ^ (37 - k) ∧ (f k).2 ≤ 137438953472 := by rw [HF.out]; exact fun k hk => bisTo_inv p true k hk
  have HInv : Hid _ := hinv
  clear hinv
  obtain ⟨ov, HOv⟩ : ∃ ov : Int → Bool, Hid (ov = over p true) := ⟨_, rfl⟩
  have HSucc : Hid (∀ k, f (k + 1) = if ov (((f k).1 + (f k).2) / 2) then ((f k).1, ((f k).1 + (f k).2) / 2) else (((f k).1 + (f k).2) / 2, (f k).2)) := by
    rw [HF.out, HOv.out]; exact fun k => rfl
  have h00 : (f 0).1 = 0 ∧ (f 0).2 = 137438953472 := by rw [HF.out]; exact ⟨rfl, rfl⟩
  have H00 : Hid _ := h00
  clear h00
  go_enter Tryz.func38, Tryz.ntmps38
  go_wp2
  go_loopw [5, 6] (fun l h wr => ∃ k : Nat, k ≤ 37 ∧ l = .int .i64 (f k).1 ∧ h = .int .i64 (f k).2 ∧ Below w.heap.size w wr)
    (fun l h _ => (intOf h - intOf l).toNat)
  case atStart => exact ⟨0, by omega, by rw [H00.out.1], by rw [H00.out.2], Below.refl _ _⟩
  case round =>
    obtain ⟨k, hk, rfl, rfl, hB⟩ := hrel
    obtain ⟨v1, v2, v3⟩ := HInv.out k hk
    by_cases hlt : k < 37
    · have HS := HSucc.out k
      have HS' : Hid _ := HS
      clear HS
      have hw2 : (2 : Int) ≤ 2 ^ (37 - k) := by
        have h1 : (2 : Nat) ^ 1 ≤ 2 ^ (37 - k) := Nat.pow_le_pow_right (by omega) (by omega)
        have h2 : ((2 ^ (37 - k) : Nat) : Int) = (2 : Int) ^ (37 - k) := by simp
        omega
      generalize (f k).1 = lo at *
      generalize (f k).2 = hi at *
      have hgt : lo + 1 < hi := by omega
      have hhi : hi ≤ 137438953472 := v3
      clear v2 hw2 v3
      have hm0 : 0 ≤ (lo + hi) / 2 ∧ (lo + hi) / 2 < 281474976710656 ∧ lo < (lo + hi) / 2 ∧ (lo + hi) / 2 < hi := by omega
      obtain ⟨hm0, hm1, hm2, hm3⟩ := hm0
      go_wp2_with fail
      generalize (lo + hi) / 2 = mid at *
      obtain ⟨X, HX⟩ : ∃ X, Hid (X = piecesL mid) := ⟨_, rfl⟩
      have HX3 : Hid (X.length = 3) := by show _ = _; rw [HX.out]; rfl
      have hXb : ∀ j, isP (X.getD j 0) := by rw [HX.out]; exact piecesL_bd hm0 hm1
      refine (ref_pieces mid _ hm0 hm1).mono ?_
      rintro _ w1 ⟨rfl, hr1, hb1⟩
      rw [← HX.out] at hr1
      have x1 := hr1.toAt
      have hl1 := hr1.lt
      have hB1 := hB.trans (hb1.mono hB.size)
      clear hb1 hr1
      go_wp2_with fail
      refine fit3 (ref_product X X wr.heap.size 3 wr.heap.size 3 _ x1 x1 hl1 hl1 (by rw [HX3.out]; omega) (by rw [HX3.out]; omega) hXb hXb) HX3 HX3 ?_
      rintro w2 hr2 hb2
      obtain ⟨Y, HY⟩ : ∃ Y, Hid (Y = prodL X X) := ⟨_, rfl⟩
      rw [← HY.out] at hr2
      have HY6 : Hid (Y.length = 6) := by show _ = _; rw [HY.out, prodL_len, HX3.out]
      have hYb : ∀ j, isP (Y.getD j 0) := by rw [HY.out]; exact prodL_bd hXb hXb
      have d2 := hr2.toAt
      have d1 := x1.below hb2 hl1
      have hl2 := hr2.lt
      have hB2 := hB1.trans (hb2.mono hB1.size)
      clear hb2 hr2 x1
      go_wp2_with fail
      refine fit3 (ref_product Y X w1.heap.size 6 wr.heap.size 3 _ d2 d1 (by omega) (by omega) (by rw [HY6.out]; omega) (by rw [HX3.out]; omega) hYb hXb) HY6 HX3 ?_
      rintro w3 hr3 hb3
      obtain ⟨Z, HZ⟩ : ∃ Z, Hid (Z = prodL Y X) := ⟨_, rfl⟩
      rw [← HZ.out] at hr3
      have HZ9 : Hid (Z.length = 9) := by show _ = _; rw [HZ.out, prodL_len, HY6.out, HX3.out]
      have z1 := hr3.toAt
      have hB3 := hB2.trans (hb3.mono hB2.size)
      clear hb3 hr3
      go_wp2_with fail
      refine fitA (ref_above Z w2.heap.size 9 p 6 _ z1 (by rw [HZ9.out]; omega) (by omega)) HZ9 ?_
      have HV : Hid (ov mid = abv Z p 6 9) := by show _ = _; rw [HOv.out, HZ.out, HY.out, HX.out]; exact over_true p mid
      rw [show (6 : Int).toNat = 6 from rfl, ← HV.out]
      cases hov : ov mid with
      | true =>
        rw [hov, if_pos rfl] at HS'
        go_wp2
        refine ⟨⟨k + 1, by omega, by rw [HS'.out], by rw [HS'.out], hB3⟩, by simp [intOf]; omega⟩
      | false =>
        rw [hov] at HS'
        go_wp2
        refine ⟨⟨k + 1, by omega, by rw [HS'.out]; rfl, by rw [HS'.out]; rfl, hB3⟩, by simp [intOf]; omega⟩
    · have hk37 : k = 37 := by omega
      have HK : Hid (res = (f k).1 % 4294967296) := by show _ = _; rw [HRes.out, HF.out, hk37]; rfl
      have hle : (f k).2 = (f k).1 + 1 := by rw [hk37] at v2 ⊢; simpa using v2
      have hle1 : (f k).2 ≤ (f k).1 + 1 := by omega
      have hge : (f k).1 ≤ (f k).2 := by omega
      clear hk37 v2 hle
      generalize (f k).1 = lo at *
      generalize (f k).2 = hi at *
      go_wp2
      go_ret
      exact ⟨ret_int HK.out.symm, hB⟩

set_option maxRecDepth 100000 in
set_option maxHeartbeats 1000000 in
theorem ref_root_false (p : Int) (w : World) :
    Calls Tryz.prog 38 #[.int .i64 p, .bool false] w fun r w' => r = .returned (.int .i64 (rootL p false)) ∧ Below w.heap.size w w' := by
  obtain ⟨f, HF⟩ : ∃ f : Nat → Int × Int, Hid (f = bisTo p false) := ⟨_, rfl⟩
  obtain ⟨res, HRes⟩ : ∃ res, Hid (res = rootL p false) := ⟨_, rfl⟩
  rw [← HRes.out]
  have hinv : ∀ k, k ≤ 37 → 0 ≤ (f k).1 ∧ (f k).2 = (f k).1 + 2 ^ (37 - k) ∧ (f k).2 ≤ 137438953472 := by rw [HF.out]; exact fun k hk => bisTo_inv p false k hk
  have HInv : Hid _ := hinv
  clear hinv
  obtain ⟨ov, HOv⟩ : ∃ ov : Int → Bool, Hid (ov = over p false) := ⟨_, rfl⟩
  have HSucc : Hid (∀ k, f (k + 1) = if ov (((f k).1 + (f k).2) / 2) then ((f k).1, ((f k).1 + (f k).2) / 2) else (((f k).1 + (f k).2) / 2, (f k).2)) := by
    rw [HF.out, HOv.out]; exact fun k => rfl
  have h00 : (f 0).1 = 0 ∧ (f 0).2 = 137438953472 := by rw [HF.out]; exact ⟨rfl, rfl⟩
  have H00 : Hid _ := h00
  clear h00
  go_enter Tryz.func38, Tryz.ntmps38
  go_wp2
  go_loopw [5, 6] (fun l h wr => ∃ k : Nat, k ≤ 37 ∧ l = .int .i64 (f k).1 ∧ h = .int .i64 (f k).2 ∧ Below w.heap.size w wr)
    (fun l h _ => (intOf h - intOf l).toNat)
  case atStart => exact ⟨0, by omega, by rw [H00.out.1], by rw [H00.out.2], Below.refl _ _⟩
  case round =>
    obtain ⟨k, hk, rfl, rfl, hB⟩ := hrel
    obtain ⟨v1, v2, v3⟩ := HInv.out k hk
    by_cases hlt : k < 37
    · have HS := HSucc.out k
      have HS' : Hid _ := HS
      clear HS
      have hw2 : (2 : Int) ≤ 2 ^ (37 - k) := by
        have h1 : (2 : Nat) ^ 1 ≤ 2 ^ (37 - k) := Nat.pow_le_pow_right (by omega) (by omega)
        have h2 : ((2 ^ (37 - k) : Nat) : Int) = (2 : Int) ^ (37 - k) := by simp
        omega
      generalize (f k).1 = lo at *
      generalize (f k).2 = hi at *
      have hgt : lo + 1 < hi := by omega
      have hhi : hi ≤ 137438953472 := v3
      clear v2 hw2 v3
      have hm0 : 0 ≤ (lo + hi) / 2 ∧ (lo + hi) / 2 < 281474976710656 ∧ lo < (lo + hi) / 2 ∧ (lo + hi) / 2 < hi := by omega
      obtain ⟨hm0, hm1, hm2, hm3⟩ := hm0
      go_wp2_with fail
      generalize (lo + hi) / 2 = mid at *
      obtain ⟨X, HX⟩ : ∃ X, Hid (X = piecesL mid) := ⟨_, rfl⟩
      have HX3 : Hid (X.length = 3) := by show _ = _; rw [HX.out]; rfl
      have hXb : ∀ j, isP (X.getD j 0) := by rw [HX.out]; exact piecesL_bd hm0 hm1
      refine (ref_pieces mid _ hm0 hm1).mono ?_
      rintro _ w1 ⟨rfl, hr1, hb1⟩
      rw [← HX.out] at hr1
      have x1 := hr1.toAt
      have hl1 := hr1.lt
      have hB1 := hB.trans (hb1.mono hB.size)
      clear hb1 hr1
      go_wp2_with fail
      refine fit3 (ref_product X X wr.heap.size 3 wr.heap.size 3 _ x1 x1 hl1 hl1 (by rw [HX3.out]; omega) (by rw [HX3.out]; omega) hXb hXb) HX3 HX3 ?_
      rintro w2 hr2 hb2
      obtain ⟨Y, HY⟩ : ∃ Y, Hid (Y = prodL X X) := ⟨_, rfl⟩
      rw [← HY.out] at hr2
      have HY6 : Hid (Y.length = 6) := by show _ = _; rw [HY.out, prodL_len, HX3.out]
      have hYb : ∀ j, isP (Y.getD j 0) := by rw [HY.out]; exact prodL_bd hXb hXb
      have d2 := hr2.toAt
      have d1 := x1.below hb2 hl1
      have hl2 := hr2.lt
      have hB2 := hB1.trans (hb2.mono hB1.size)
      clear hb2 hr2 x1
      go_wp2_with fail
      refine fitA (ref_above Y w1.heap.size 6 p 4 _ d2 (by rw [HY6.out]; omega) (by omega)) HY6 ?_
      have HV : Hid (ov mid = abv Y p 4 6) := by show _ = _; rw [HOv.out, HY.out, HX.out]; exact over_false p mid
      rw [show (4 : Int).toNat = 4 from rfl, ← HV.out]
      have hB3 := hB2
      cases hov : ov mid with
      | true =>
        rw [hov, if_pos rfl] at HS'
        go_wp2
        refine ⟨⟨k + 1, by omega, by rw [HS'.out], by rw [HS'.out], hB3⟩, by simp [intOf]; omega⟩
      | false =>
        rw [hov] at HS'
        go_wp2
        refine ⟨⟨k + 1, by omega, by rw [HS'.out]; rfl, by rw [HS'.out]; rfl, hB3⟩, by simp [intOf]; omega⟩
    · have hk37 : k = 37 := by omega
      have HK : Hid (res = (f k).1 % 4294967296) := by show _ = _; rw [HRes.out, HF.out, hk37]; rfl
      have hle : (f k).2 = (f k).1 + 1 := by rw [hk37] at v2 ⊢; simpa using v2
      have hle1 : (f k).2 ≤ (f k).1 + 1 := by omega
      have hge : (f k).1 ≤ (f k).2 := by omega
      clear hk37 v2 hle
      generalize (f k).1 = lo at *
      generalize (f k).2 = hi at *
      go_wp2
      go_ret
      exact ⟨ret_int HK.out.symm, hB⟩

end Go.Proofs.YtaokemapkgggoaaGreatDoor

namespace Go.Proofs.YtaokemapkgggoaaGreatDoor
open Go.RowKit

/-- no number of the list divides p -/
def noDiv (p : Int) (l : List Int) : Bool := l.all fun q => p % q != 0
/-- the primes among the k numbers from 2 on -/
def prTo : Nat → List Int
  | 0 => []
  | k + 1 => if noDiv ((k : Int) + 2) (prTo k) then prTo k ++ [(k : Int) + 2] else prTo k
theorem prTo_bd (k : Nat) : ∀ q ∈ prTo k, 2 ≤ q ∧ q ≤ (k : Int) + 1 := by
  induction k with
  | zero => intro q hq; cases hq
  | succ k ih =>
    intro q hq
    unfold prTo at hq
    split at hq
    · rcases List.mem_append.1 hq with h | h
      · have := ih q h; omega
      · simp only [List.mem_singleton] at h; omega
    · have := ih q hq; omega
theorem prTo_len (k : Nat) : (prTo k).length ≤ (prTo (k + 1)).length := by
  show _ ≤ (if noDiv ((k : Int) + 2) (prTo k) then prTo k ++ [(k : Int) + 2] else prTo k).length
  split <;> simp
theorem prTo_mono {j k : Nat} (h : j ≤ k) : (prTo j).length ≤ (prTo k).length := by
  induction k with
  | zero => have : j = 0 := by omega
            subst this; exact Nat.le_refl _
  | succ k ih =>
    rcases Nat.lt_or_ge j (k + 1) with h1 | h1
    · exact Nat.le_trans (ih (by omega)) (prTo_len k)
    · have : j = k + 1 := by omega
      subst this; exact Nat.le_refl _
def P64 : List Int := [2, 3, 5, 7, 11, 13, 17, 19, 23, 29, 31, 37, 41, 43, 47, 53, 59, 61, 67, 71, 73, 79, 83, 89, 97, 101, 103, 107, 109, 113, 127, 131, 137, 139, 149, 151, 157, 163, 167, 173, 179, 181, 191, 193, 197, 199, 211, 223, 227, 229, 233, 239, 241, 251, 257, 263, 269, 271, 277, 281, 283, 293, 307, 311]
theorem prTo_310 : prTo 310 = P64 := by decide +kernel
theorem prTo_309 : (prTo 309).length = 63 := by decide +kernel
theorem noDiv_snoc (p : Int) (l : List Int) (i : Nat) (h : i < l.length) : noDiv p (l.take (i + 1)) = (noDiv p (l.take i) && (p % l.getD i 0 != 0)) := by
  rw [List.take_succ_eq_append_getElem h]
  unfold noDiv
  rw [List.all_append, show l.getD i 0 = l[i] by simp [List.getD, h]]
  simp only [List.all_cons, List.all_nil, Bool.and_true]

set_option maxRecDepth 100000 in
set_option maxHeartbeats 1000000 in
theorem ref_primes (w : World) :
    Calls Tryz.prog 37 #[.int .i64 64] w fun r w' => ∃ v, r = .returned v ∧ Own w' w.heap.size .i64 3 v P64 ∧ Below w.heap.size w w' := by
  go_enter Tryz.func37, Tryz.ntmps37
  go_wp2
  go_loopw [3, 4] (fun v c wr => ∃ k : Nat, k ≤ 310 ∧ c = .int .i64 ((k : Int) + 2) ∧ Own wr w.heap.size .i64 3 v (prTo k) ∧ Below w.heap.size w wr)
    (fun _ c _ => 312 - (intOf c).toNat)
  case atStart => exact ⟨0, by omega, rfl, Own.nil _ _ _ _, Below.refl _ _⟩
  case round =>
    obtain ⟨k, hk, rfl, hown, hB⟩ := hrel
    obtain ⟨ao, cap, rfl, hcells⟩ := hown.open
    have hml : (prTo k).length ≤ 64 := by
      have h1 := prTo_mono hk
      rw [prTo_310] at h1
      exact h1
    by_cases hlt : (prTo k).length < 64
    · have hk310 : k < 310 := by
        rcases Nat.lt_or_ge k 310 with h | h
        · exact h
        · exfalso
          have : k = 310 := by omega
          rw [this, prTo_310] at hlt
          exact absurd hlt (by decide)
      have hi : ((prTo k).length : Int) < 64 := by omega
      go_wp2
      go_loop [5, 6] (fun b c => ∃ i : Nat, i ≤ (prTo k).length ∧ c = .int .i64 i ∧ b = .bool (noDiv ((k : Int) + 2) ((prTo k).take i))) (fun _ c => (prTo k).length - (intOf c).toNat)
      case atStart => exact ⟨0, by omega, rfl, rfl⟩
      case round =>
        obtain ⟨i, hi, rfl, rfl⟩ := hrel
        by_cases hlt2 : i < (prTo k).length
        · obtain ⟨g, rfl, hg1, hg2, hcell⟩ := hcells i hlt2
          have hc := hcell i hlt2
          have hq := prTo_bd k ((prTo k).getD i 0) (by
            have : (prTo k).getD i 0 = (prTo k)[i] := by simp [List.getD, hlt2]
            rw [this]; exact List.getElem_mem _)
          obtain ⟨hq0, hq1⟩ := hq
          have HS : Hid _ := noDiv_snoc ((k : Int) + 2) (prTo k) i hlt2
          clear hcell
          generalize (prTo k).getD i 0 = q at *
          cases hb : noDiv ((k : Int) + 2) ((prTo k).take i) with
          | false =>
            have HB : Hid _ := hb
            go_wp2
            go_round
            case rel => exact ⟨i + 1, by omega, by go_num, by rw [HS.out, HB.out]; rfl⟩
            case measure => simp [intOf]; omega
          | true =>
            have HB : Hid _ := hb
            go_wp2
            go_round
            case rel => exact ⟨i + 1, by omega, by go_num, by rw [HS.out, HB.out, Bool.true_and]⟩
            case measure => simp [intOf]; omega
        · have hfull : (prTo k).take i = prTo k := List.take_of_length_le (by omega)
          have HN : Hid (prTo (k + 1) = if noDiv ((k : Int) + 2) ((prTo k).take i) then prTo k ++ [(k : Int) + 2] else prTo k) := by show _ = _; rw [hfull]; rfl
          clear hfull hcells
          have hbs := hB.size
          cases hb : noDiv ((k : Int) + 2) ((prTo k).take i) with
          | false =>
            rw [hb] at HN
            go_wp2
            go_roundw
            case rel => exact ⟨k + 1, by omega, by go_num, by rw [HN.out]; exact hown, hB⟩
            case measure => simp [intOf]; omega
          | true =>
            rw [hb] at HN
            go_wp2_with (at_builtin; refine wpList_app1 rfl (.tmp 30) (.tmp 32) 42 3 .i64 8 rfl slI w.heap.size _ (prTo k) rfl hown _ _ _ rfl (by omega) hbs ?_; intro v' w1 hown' hgrow _)
            go_roundw
            case rel => exact ⟨k + 1, by omega, by go_num, by rw [HN.out]; exact hown', below_grown hB hgrow hown hbs (Nat.le_refl _)⟩
            case measure => simp [intOf]; omega
    · have hk310 : k = 310 := by
        rcases Nat.lt_or_ge k 310 with h | h
        · exfalso
          have h1 := prTo_mono (show k ≤ 309 by omega)
          rw [prTo_309] at h1
          omega
        · omega
      have hi : ¬ ((prTo k).length : Int) < 64 := by omega
      have HK : Hid (prTo k = P64) := by show _ = _; rw [hk310]; exact prTo_310
      clear hk310 hcells
      go_wp2
      go_ret
      exact ⟨_, rfl, by rw [← HK.out]; exact hown, hB⟩
end Go.Proofs.YtaokemapkgggoaaGreatDoor

namespace Go.Proofs.YtaokemapkgggoaaGreatDoor
open Go.RowKit

theorem map_snoc (f : Int → Int) (l : List Int) (i : Nat) (h : i < l.length) : (l.take (i + 1)).map f = (l.take i).map f ++ [f (l.getD i 0)] := by
  rw [List.take_succ_eq_append_getElem h, List.map_append, show l.getD i 0 = l[i] by simp [List.getD, h]]
  rfl
theorem P64_len : P64.length = 64 := rfl

set_option maxRecDepth 100000 in
set_option maxHeartbeats 1000000 in
theorem ref_constants (w : World) :
    Calls Tryz.prog 12 #[] w fun r w' => ∃ kv hv, r = .returned (.tuple #[kv, hv]) ∧ Own w' w.heap.size .i64 3 kv (P64.map fun p => rootL p true) ∧ Own w' w.heap.size .i64 3 hv ((P64.take 8).map fun p => rootL p false) ∧ Sep kv hv ∧ Below w.heap.size w w' := by
  obtain ⟨rt, HT⟩ : ∃ rt : Int → Int, Hid (rt = fun p => rootL p true) := ⟨_, rfl⟩
  obtain ⟨rf, HF⟩ : ∃ rf : Int → Int, Hid (rf = fun p => rootL p false) := ⟨_, rfl⟩
  have ht : ∀ (p : Int) (w : World), Calls Tryz.prog 38 #[.int .i64 p, .bool true] w fun r w' => r = .returned (.int .i64 (rt p)) ∧ Below w.heap.size w w' := by rw [HT.out]; exact ref_root_true
  have hf : ∀ (p : Int) (w : World), Calls Tryz.prog 38 #[.int .i64 p, .bool false] w fun r w' => r = .returned (.int .i64 (rf p)) ∧ Below w.heap.size w w' := by rw [HF.out]; exact ref_root_false
  rw [← HT.out, ← HF.out]
  have HTc : Hid _ := ht
  have HFc : Hid _ := hf
  clear ht hf
  obtain ⟨ps, HP⟩ : ∃ ps, Hid (ps = P64) := ⟨_, rfl⟩
  have hp64 : Hid (ps.length = 64) := by show _ = _; rw [HP.out, P64_len]
  rw [← HP.out]
  go_enter Tryz.func12, Tryz.ntmps12
  go_wp2_with fail
  refine (ref_primes _).mono ?_
  rintro _ w1 ⟨v, rfl, hown, hB⟩
  rw [← HP.out] at hown
  obtain ⟨gl, cl, hv, hgl, -, -, -⟩ := hown.at (by rw [hp64.out]; omega)
  rw [hp64.out] at hv
  subst hv
  go_wp2
  go_loopw [3, 4, 5] (fun kv hv c wr => ∃ i : Nat, i ≤ 64 ∧ c = .int .i64 i ∧ Own wr w.heap.size .i64 3 kv ((ps.take i).map rt) ∧ Own wr w.heap.size .i64 3 hv ((ps.take (min i 8)).map rf) ∧ Own wr w.heap.size .i64 3 (.slice (some ⟨gl, 0, none⟩) 64 cl) ps ∧ Sep kv hv ∧ Sep kv (.slice (some ⟨gl, 0, none⟩) 64 cl) ∧ Sep hv (.slice (some ⟨gl, 0, none⟩) 64 cl) ∧ Below w.heap.size w wr)
    (fun _ _ c _ => 64 - (intOf c).toNat)
  case atStart => exact ⟨0, by omega, rfl, by simpa using Own.nil _ _ _ _, by simpa using Own.nil _ _ _ _, hown, Sep.nil _, Sep.nil _, Sep.nil _, hB⟩
  case round =>
    clear hown hB
    obtain ⟨i, hi, rfl, hk, hh, hl, s1, s2, s3, hB⟩ := hrel
    have hps := hp64.out
    by_cases hlt : i < 64
    · have hc := hl.cellAt i (by omega)
      have hlk : ((ps.take i).map rt).length = i := by simp; omega
      have hlh : ((ps.take (min i 8)).map rf).length = min i 8 := by simp; omega
      have HKs : Hid ((ps.take (i + 1)).map rt = (ps.take i).map rt ++ [rt (ps.getD i 0)]) := by
        exact map_snoc rt ps i (by omega)
      have HHs : Hid (i < 8 → (ps.take (min (i + 1) 8)).map rf = (ps.take (min i 8)).map rf ++ [rf (ps.getD i 0)]) := by
        intro h8
        rw [show min (i + 1) 8 = i + 1 by omega, show min i 8 = i by omega]; exact map_snoc rf ps i (by omega)
      have HHn : Hid (8 ≤ i → (ps.take (min (i + 1) 8)).map rf = (ps.take (min i 8)).map rf) := by
        intro h8
        rw [show min (i + 1) 8 = 8 by omega, show min i 8 = 8 by omega]
      obtain ⟨ks, HKv⟩ : ∃ ks, Hid (ks = (ps.take i).map rt) := ⟨_, rfl⟩
      obtain ⟨hs, HHv⟩ : ∃ hs, Hid (hs = (ps.take (min i 8)).map rf) := ⟨_, rfl⟩
      rw [← HKv.out] at hk HKs hlk
      rw [← HHv.out] at hh HHs HHn hlh
      have HLk : Hid _ := hlk
      have HLh : Hid _ := hlh
      clear hlk hlh hps
      generalize hq : ps.getD i 0 = q at *
      have HQ : Hid _ := hq
      clear hq
      go_wp2_with fail
      refine (HTc.out q _).mono ?_
      rintro _ w2 ⟨rfl, hb2⟩
      have k2 := hk.below hb2 (Nat.le_refl _)
      have h2 := hh.below hb2 (Nat.le_refl _)
      have l2 := hl.below hb2 (Nat.le_refl _)
      have B2 := hB.trans (hb2.mono hB.size)
      have z2 := B2.size
      clear hk hh hl hB hb2 hc
      by_cases h8 : i < 8
      · have h8' : (i : Int) < 8 := by omega
        go_wp2_with (first | (at_builtin; refine wpList_app1 rfl (.tmp 11) (.tmp 17) 42 3 .i64 8 rfl slI w.heap.size _ ks rfl k2 _ _ _ rfl (by rw [HLk.out]; omega) z2 ?_; intro kv' w3 k3 hg3 hat3; have h3 := h2.grown hg3 s1; have l3 := l2.grown hg3 s2; have s1' := s1.app h2 (Nat.le_succ _) hat3; have s2' := s2.app l2 (Nat.le_succ _) hat3; have B3 := below_grown B2 hg3 k2 z2 (Nat.le_refl _); have hc3 := l3.cellAt i (by rw [hp64.out]; omega); rw [HQ.out] at hc3; clear hg3 hat3) | fail)
        refine (HFc.out q _).mono ?_
        rintro _ w4 ⟨rfl, hb4⟩
        have k4 := k3.below hb4 (Nat.le_refl _)
        have h4 := h3.below hb4 (Nat.le_refl _)
        have l4 := l3.below hb4 (Nat.le_refl _)
        have B4 := B3.trans (hb4.mono B3.size)
        have z4 := B4.size
        clear hb4 k3 h3 l3 B3 hc3 k2 h2 l2 B2 z2
        go_wp2_with (at_builtin; refine wpList_app1 rfl (.tmp 21) (.tmp 27) 42 3 .i64 8 rfl slI w.heap.size _ hs rfl h4 _ _ _ rfl (by rw [HLh.out]; omega) z4 ?_; intro hv' w5 h5 hg5 hat5)
        refine ⟨⟨i + 1, by omega, by go_num, by rw [HKs.out]; exact k4.grown hg5 s1'.symm, by rw [HHs.out h8]; exact h5, l4.grown hg5 s3, (s1'.symm.app k4 (Nat.le_succ _) hat5).symm, s2', s3.app l4 (Nat.le_succ _) hat5, below_grown B4 hg5 h4 z4 (Nat.le_refl _)⟩, by simp [intOf]; omega⟩
      · have h8' : ¬ (i : Int) < 8 := by omega
        go_wp2_with (first | (at_builtin; refine wpList_app1 rfl (.tmp 11) (.tmp 17) 42 3 .i64 8 rfl slI w.heap.size _ ks rfl k2 _ _ _ rfl (by rw [HLk.out]; omega) z2 ?_; intro kv' w3 k3 hg3 hat3; have h3 := h2.grown hg3 s1; have l3 := l2.grown hg3 s2; have s1' := s1.app h2 (Nat.le_succ _) hat3; have s2' := s2.app l2 (Nat.le_succ _) hat3; have B3 := below_grown B2 hg3 k2 z2 (Nat.le_refl _); have hc3 := l3.cellAt i (by rw [hp64.out]; omega); rw [HQ.out] at hc3; clear hg3 hat3) | fail)
        refine ⟨⟨i + 1, by omega, by go_num, by rw [HKs.out]; exact k3, by rw [HHn.out (by omega)]; exact h3, l3, s1', s2', s3, B3⟩, by simp [intOf]; omega⟩
    · have hi64 : i = 64 := by omega
      have ek : (ps.take i).map rt = ps.map rt := by rw [List.take_of_length_le (by omega)]
      have eh : (ps.take (min i 8)).map rf = (ps.take 8).map rf := by rw [hi64]; rfl
      rw [ek] at hk
      rw [eh] at hh
      clear hi64 ek eh hps
      go_wp2
      go_ret2
      exact ⟨_, _, rfl, hk, hh, s1, hB⟩
end Go.Proofs.YtaokemapkgggoaaGreatDoor

namespace Go.Proofs.YtaokemapkgggoaaGreatDoor
open Go.RowKit

theorem u64_neg_and31 (n : Nat) (h1 : 1 ≤ n) (h2 : n ≤ 31) : bits .and .u64 (IntKind.u64.wrap (-(n : Int))) 31 = 32 - (n : Int) := by
  have e : IntKind.u64.wrap (-(n : Int)) = 18446744073709551616 - (n : Int) := by
    simp only [IntKind.wrap, IntKind.bits, IntKind.signed]; simp; omega
  rw [e]
  obtain ⟨a, ha⟩ := Int.eq_ofNat_of_zero_le (show (0 : Int) ≤ 18446744073709551616 - (n : Int) by omega)
  rw [ha]
  have := u64_and_nat a 31 (by omega) (by omega)
  rw [show ((31 : Nat) : Int) = 31 from rfl] at this
  rw [this, nat_mask5]
  omega

theorem rotl_bits (x : Int) (n : Nat) (hx0 : 0 ≤ x) (hx1 : x < 4294967296) (h0 : 1 ≤ n) (h1 : n ≤ 31) :
    bits .or .u32 (x * 2 ^ (32 - n) % 4294967296) (x / 2 ^ (32 - (32 - n))) = rr n x := by
  rw [show 32 - (32 - n) = n by omega]
  obtain ⟨m, hm⟩ : ∃ m, m = 32 - n := ⟨_, rfl⟩
  have hpn : (2 : Nat) ^ n * 2 ^ m = 4294967296 := by rw [← Nat.pow_add, show n + m = 32 by omega]
  obtain ⟨y, rfl⟩ := Int.eq_ofNat_of_zero_le hx0
  have hy : y < 4294967296 := by omega
  unfold rr
  rw [← hm]
  have hq : (4294967296 : Int) / 2 ^ n = ((2 ^ m : Nat) : Int) := by
    have : ((2 : Int) ^ n) * ((2 ^ m : Nat) : Int) = 4294967296 := by
      have := congrArg (fun z : Nat => (z : Int)) hpn
      simpa using this
    rw [← this]; exact Int.mul_ediv_cancel_left _ (by have := (pow_bd n h1).1; omega)
  rw [hq]
  have e1 : ((y : Int) * 2 ^ m % 4294967296) = ((y % 2 ^ n * 2 ^ m : Nat) : Int) := by
    have : y * 2 ^ m % 4294967296 = y % 2 ^ n * 2 ^ m := by rw [← hpn, Nat.mul_mod_mul_right]
    rw [← this]; simp
  have e2 : ((y : Int) / 2 ^ n) = ((y / 2 ^ n : Nat) : Int) := by simp
  have e3 : ((y : Int) % 2 ^ n) = ((y % 2 ^ n : Nat) : Int) := by simp
  rw [e1, e2, e3]
  have b1 : y % 2 ^ n * 2 ^ m < 4294967296 := by
    rw [← hpn]; exact Nat.mul_lt_mul_of_pos_right (Nat.mod_lt _ (Nat.pow_pos (by omega))) (Nat.pow_pos (by omega))
  have b2 : y / 2 ^ n < 2 ^ m := by
    apply Nat.div_lt_of_lt_mul; rw [hpn]; exact hy
  have b3 : y / 2 ^ n ≤ y := Nat.div_le_self _ _
  rw [u32_or_nat _ _ b1 (by omega), nat_join m _ _ (Nat.mul_mod_left _ _) b2]
  simp
  omega

set_option maxHeartbeats 400000 in
theorem rotl (x : Int) (n : Nat) (w : World) (hx0 : 0 ≤ x) (hx1 : x < 4294967296) (h0 : 1 ≤ n) (h1 : n ≤ 31) :
    Calls Tryz.prog 102 #[.int .u32 x, .int .i64 (-(n : Int))] w fun e w' => e = .returned (.int .u32 (rr n x)) ∧ w' = w := by
  have hs := u64_neg_and31 n h0 h1
  have HR : Hid _ := rotl_bits x n hx0 hx1 h0 h1
  go_enter Tryz.func102, Tryz.ntmps102
  go_wp2
  go_ret
  exact ⟨ret_int HR.out, rfl⟩

set_option maxHeartbeats 400000 in
theorem prog_right (x n : Int) (w : World) (hx : isW x) (h0 : 1 ≤ n) (h1 : n ≤ 31) :
    Calls Tryz.prog 96 #[.int .u32 x, .int .i64 n] w fun e w' => e = .returned (.int .u32 (rr n.toNat x)) ∧ w' = w := by
  obtain ⟨m, rfl⟩ := Int.eq_ofNat_of_zero_le (show 0 ≤ n by omega)
  rw [Int.toNat_natCast]
  go_enter Tryz.func96, Tryz.ntmps96
  go_wp2_with (go_at_call 102; refine (rotl x m _ hx.1 hx.2 (by omega) (by omega)).mono ?_; rintro e w' ⟨rfl, rfl⟩)
  go_ret
  exact ⟨rfl, rfl⟩

theorem or4 (a b c d : Int) (ha : 0 ≤ a ∧ a < 256) (hb : 0 ≤ b ∧ b < 256) (hc : 0 ≤ c ∧ c < 256) (hd : 0 ≤ d ∧ d < 256) :
    bits .or .u32 (bits .or .u32 (bits .or .u32 (a * 16777216) (b * 65536)) (c * 256)) d = word4 a b c d := by
  obtain ⟨a, rfl⟩ := Int.eq_ofNat_of_zero_le ha.1
  obtain ⟨b, rfl⟩ := Int.eq_ofNat_of_zero_le hb.1
  obtain ⟨c, rfl⟩ := Int.eq_ofNat_of_zero_le hc.1
  obtain ⟨d, rfl⟩ := Int.eq_ofNat_of_zero_le hd.1
  rw [show ((a : Int) * 16777216) = ((a * 16777216 : Nat) : Int) by simp, show ((b : Int) * 65536) = ((b * 65536 : Nat) : Int) by simp, show ((c : Int) * 256) = ((c * 256 : Nat) : Int) by simp]
  rw [u32_or_nat _ _ (by omega) (by omega), nat_join 24 _ _ (by omega) (by omega), u32_or_nat _ _ (by omega) (by omega), nat_join 16 _ _ (by omega) (by omega), u32_or_nat _ _ (by omega) (by omega), nat_join 8 _ _ (by omega) (by omega)]
  unfold word4; omega

set_option maxHeartbeats 400000 in
theorem prog_word (a b c d : Int) (w : World) (ha : 0 ≤ a ∧ a < 256) (hb : 0 ≤ b ∧ b < 256) (hc : 0 ≤ c ∧ c < 256) (hd : 0 ≤ d ∧ d < 256) :
    Calls Tryz.prog 69 #[.int .u8 a, .int .u8 b, .int .u8 c, .int .u8 d] w fun e w' => e = .returned (.int .u32 (word4 a b c d)) ∧ w' = w := by
  have H : Hid _ := or4 a b c d ha hb hc hd
  obtain ⟨ha0, ha1⟩ := ha
  obtain ⟨hb0, hb1⟩ := hb
  obtain ⟨hc0, hc1⟩ := hc
  obtain ⟨hd0, hd1⟩ := hd
  go_enter Tryz.func69, Tryz.ntmps69
  go_wp2
  go_ret
  exact ⟨ret_int H.out, rfl⟩

end Go.Proofs.YtaokemapkgggoaaGreatDoor

namespace Go.Proofs.YtaokemapkgggoaaGreatDoor
open Go.RowKit

theorem arr64b : ArrT Tryz.prog 116 64 (.int .u8 0) := ⟨⟨5, by kernel_rfl⟩, by kernel_rfl⟩
theorem arr32b : ArrT Tryz.prog 47 32 (.int .u8 0) := ⟨⟨5, by kernel_rfl⟩, by kernel_rfl⟩
theorem arr21b : ArrT Tryz.prog 79 21 (.int .u8 0) := ⟨⟨5, by kernel_rfl⟩, by kernel_rfl⟩
theorem arr4b : ArrT Tryz.prog 144 4 (.int .u8 0) := ⟨⟨5, by kernel_rfl⟩, by kernel_rfl⟩
theorem arr8b : ArrT Tryz.prog 85 8 (.int .u8 0) := ⟨⟨5, by kernel_rfl⟩, by kernel_rfl⟩
theorem arr6b : ArrT Tryz.prog 147 6 (.int .u8 0) := ⟨⟨5, by kernel_rfl⟩, by kernel_rfl⟩
theorem arr8w : ArrT Tryz.prog 76 8 (.int .u32 0) := ⟨⟨75, by kernel_rfl⟩, by kernel_rfl⟩
theorem arr64w : ArrT Tryz.prog 141 64 (.int .u32 0) := ⟨⟨75, by kernel_rfl⟩, by kernel_rfl⟩

theorem under_bytes : Tryz.prog.underlying 49 = some (.slice 5) := by kernel_rfl
theorem size_byte : (Tryz.prog.info? 5).map (·.size) = some 1 := by kernel_rfl

/-- a text's first n bytes, and bytes 0 behind them -/
def blk (n : Nat) (l : List UInt8) : List Int := bytesI (l.take n) ++ List.replicate (n - (l.take n).length) 0
theorem blk_length (n : Nat) (l : List UInt8) : (blk n l).length = n := by simp [blk, bytesI]; omega
theorem blk_cells (n : Nat) (l : List UInt8) : bcells (l.take n) ++ (zrow n (.int .u8 0)).drop (l.take n).length = u8s (blk n l) := by
  rw [bcells_eq]; simp [zrow, blk, u8s]

set_option maxRecDepth 100000 in
set_option maxHeartbeats 400000 in
theorem prog_blockOf (s : ByteArray) (w : World) :
    Calls Tryz.prog 65 #[.string s] w fun r w' => r = .returned (.agg (u8s (blk 64 s.data.toList)).toArray) ∧ Below w.heap.size w w' := by
  have hcp := run_copyStr_made (P := Tryz.prog) (w.alloc (.cells (zrow 64 (.int .u8 0)).toArray 116)) 49 9 3 5 (w.heap.size + 1) 64 64 s (zrow 64 (.int .u8 0)) 116 (by simp) under_bytes size_byte (by rw [zrow_length]; omega)
  rw [blk_cells] at hcp
  have hl := blk_length 64 s.data.toList
  have HL : Hid ((blk 64 s.data.toList).length = 64) := hl
  clear hl
  generalize blk 64 s.data.toList = b at *
  go_enter Tryz.func65, Tryz.ntmps65
  go_wp2_with (first | refine wpList_allocR rfl 116 rfl 64 (.int .u8 0) arr64b ?_ | refine wpList_loadR rfl 116 _ rfl (w.heap.size + 1) rfl 116 (u8s b) 64 (.int .u8 0) (Row.made1 _ _ _ _) arr64b (by rw [u8s_length]; exact HL.out) ?_ | refine wpList_storeR rfl 116 _ _ rfl w.heap.size rfl (u8s b) rfl 116 (zrow 64 (.int .u8 0)) 64 (.int .u8 0) ((Row.made _ _ _).alloc _) arr64b (by rw [u8s_length]; exact HL.out) (zrow_length _ _) (u8s_one _) ?_)
  refine bodyPost_ret (v := .agg (u8s b).toArray) (results_row Tryz.results65 _ w.heap.size 116 (u8s b) 64 (.int .u8 0) rfl (Row.setRow ((Row.made _ _ _).alloc _) _) arr64b (by rw [u8s_length]; exact HL.out)) rfl ⟨rfl, ?_⟩
  exact below_setRow (((Below.refl _ _).alloc (Nat.le_refl _) _).alloc (by simp) _) (Nat.le_refl _) _
end Go.Proofs.YtaokemapkgggoaaGreatDoor
