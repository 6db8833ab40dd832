import Derived.Test.YtaokemapkgggoaaGreatDoorRefKit
namespace Go.Proofs.YtaokemapkgggoaaGreatDoor
open Go.RowKit

/-- no number of the list divides p -/
def noDiv (p : Int) (l : List Int) : Bool := l.all fun q => p % q != 0
/-- the primes among the k numbers from 2 on -/
def prTo : Nat → List Int
  | 0 => []
  | k + 1 => if noDiv ((k : Int) + 2) (prTo k) then prTo k ++ [(k : Int) + 2] else prTo k
theorem prTo_bd (k : Nat) : ∀ q ∈ prTo k, 2 ≤ q ∧ q ≤ (k : Int) + 1 := by
  induction k with
  | zero => intro q hq; cases hq
  | succ k ih =>
    intro q hq
    unfold prTo at hq
    split at hq
    · rcases List.mem_append.1 hq with h | h
      · have := ih q h; omega
      · simp only [List.mem_singleton] at h; omega
    · have := ih q hq; omega
theorem prTo_len (k : Nat) : (prTo k).length ≤ (prTo (k + 1)).length := by
  show _ ≤ (if noDiv ((k : Int) + 2) (prTo k) then prTo k ++ [(k : Int) + 2] else prTo k).length
  split <;> simp
theorem prTo_mono {j k : Nat} (h : j ≤ k) : (prTo j).length ≤ (prTo k).length := by
  induction k with
  | zero => have : j = 0 := by omega
            subst this; exact Nat.le_refl _
  | succ k ih =>
    rcases Nat.lt_or_ge j (k + 1) with h1 | h1
    · exact Nat.le_trans (ih (by omega)) (prTo_len k)
    · have : j = k + 1 := by omega
      subst this; exact Nat.le_refl _
def P64 : List Int := [2, 3, 5, 7, 11, 13, 17, 19, 23, 29, 31, 37, 41, 43, 47, 53, 59, 61, 67, 71, 73, 79, 83, 89, 97, 101, 103, 107, 109, 113, 127, 131, 137, 139, 149, 151, 157, 163, 167, 173, 179, 181, 191, 193, 197, 199, 211, 223, 227, 229, 233, 239, 241, 251, 257, 263, 269, 271, 277, 281, 283, 293, 307, 311]
theorem prTo_310 : prTo 310 = P64 := by decide +kernel
theorem prTo_309 : (prTo 309).length = 63 := by decide +kernel
theorem noDiv_snoc (p : Int) (l : List Int) (i : Nat) (h : i < l.length) : noDiv p (l.take (i + 1)) = (noDiv p (l.take i) && (p % l.getD i 0 != 0)) := by
  rw [List.take_succ_eq_append_getElem h]
  unfold noDiv
  rw [List.all_append, show l.getD i 0 = l[i] by simp [List.getD, h]]
  simp only [List.all_cons, List.all_nil, Bool.and_true]

set_option maxRecDepth 100000 in
set_option maxHeartbeats 1000000 in
theorem ref_primes (w : World) :
    Calls Tryz.prog 37 #[.int .i64 64] w fun r w' => ∃ v, r = .returned v ∧ Own w' w.heap.size .i64 3 v P64 ∧ Below w.heap.size w w' := by
  go_enter Tryz.func37, Tryz.ntmps37
  go_wp2
  go_loopw [3, 4] (fun v c wr => ∃ k : Nat, k ≤ 310 ∧ c = .int .i64 ((k : Int) + 2) ∧ Own wr w.heap.size .i64 3 v (prTo k) ∧ Below w.heap.size w wr)
    (fun _ c _ => 312 - (intOf c).toNat)
  case atStart => exact ⟨0, by omega, rfl, Own.nil _ _ _ _, Below.refl _ _⟩
  case round =>
    obtain ⟨k, hk, rfl, hown, hB⟩ := hrel
    obtain ⟨ao, cap, rfl, hcells⟩ := hown.open
    have hml : (prTo k).length ≤ 64 := by
      have h1 := prTo_mono hk
      rw [prTo_310] at h1
      exact h1
    by_cases hlt : (prTo k).length < 64
    · have hk310 : k < 310 := by
        rcases Nat.lt_or_ge k 310 with h | h
        · exact h
        · exfalso
          have : k = 310 := by omega
          rw [this, prTo_310] at hlt
          exact absurd hlt (by decide)
      have hi : ((prTo k).length : Int) < 64 := by omega
      go_wp2
      go_loop [5, 6] (fun b c => ∃ i : Nat, i ≤ (prTo k).length ∧ c = .int .i64 i ∧ b = .bool (noDiv ((k : Int) + 2) ((prTo k).take i))) (fun _ c => (prTo k).length - (intOf c).toNat)
      case atStart => exact ⟨0, by omega, rfl, rfl⟩
      case round =>
        obtain ⟨i, hi, rfl, rfl⟩ := hrel
        by_cases hlt2 : i < (prTo k).length
        · obtain ⟨g, rfl, hg1, hg2, hcell⟩ := hcells i hlt2
          have hc := hcell i hlt2
          have hq := prTo_bd k ((prTo k).getD i 0) (by
            have : (prTo k).getD i 0 = (prTo k)[i] := by simp [List.getD, hlt2]
            rw [this]; exact List.getElem_mem _)
          obtain ⟨hq0, hq1⟩ := hq
          have HS : Hid _ := noDiv_snoc ((k : Int) + 2) (prTo k) i hlt2
          clear hcell
          generalize (prTo k).getD i 0 = q at *
          cases hb : noDiv ((k : Int) + 2) ((prTo k).take i) with
          | false =>
            have HB : Hid _ := hb
            go_wp2
            go_round
            case rel => exact ⟨i + 1, by omega, by go_num, by rw [HS.out, HB.out]; rfl⟩
            case measure => simp [intOf]; omega
          | true =>
            have HB : Hid _ := hb
            go_wp2
            go_round
            case rel => exact ⟨i + 1, by omega, by go_num, by rw [HS.out, HB.out, Bool.true_and]⟩
            case measure => simp [intOf]; omega
        · have hfull : (prTo k).take i = prTo k := List.take_of_length_le (by omega)
          have HN : Hid (prTo (k + 1) = if noDiv ((k : Int) + 2) ((prTo k).take i) then prTo k ++ [(k : Int) + 2] else prTo k) := by show _ = _; rw [hfull]; rfl
          clear hfull hcells
          have hbs := hB.size
          cases hb : noDiv ((k : Int) + 2) ((prTo k).take i) with
          | false =>
            rw [hb] at HN
            go_wp2
            go_roundw
            case rel => exact ⟨k + 1, by omega, by go_num, by rw [HN.out]; exact hown, hB⟩
            case measure => simp [intOf]; omega
          | true =>
            rw [hb] at HN
            go_wp2_with (at_builtin; refine wpList_app1 rfl (.tmp 30) (.tmp 32) 42 3 .i64 8 rfl slI w.heap.size _ (prTo k) rfl hown _ _ _ rfl (by omega) hbs ?_; intro v' w1 hown' hgrow _)
            go_roundw
            case rel => exact ⟨k + 1, by omega, by go_num, by rw [HN.out]; exact hown', below_grown hB hgrow hown hbs (Nat.le_refl _)⟩
            case measure => simp [intOf]; omega
    · have hk310 : k = 310 := by
        rcases Nat.lt_or_ge k 310 with h | h
        · exfalso
          have h1 := prTo_mono (show k ≤ 309 by omega)
          rw [prTo_309] at h1
          omega
        · omega
      have hi : ¬ ((prTo k).length : Int) < 64 := by omega
      have HK : Hid (prTo k = P64) := by show _ = _; rw [hk310]; exact prTo_310
      clear hk310 hcells
      go_wp2
      go_ret
      exact ⟨_, rfl, by rw [← HK.out]; exact hown, hB⟩
end Go.Proofs.YtaokemapkgggoaaGreatDoor
