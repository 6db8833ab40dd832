import Derived.Test.YtaokemapkgggoaaDoorKb11
set_option linter.unusedSimpArgs false
namespace Go.Proofs.YtaokemapkgggoaaDoor
open Go.RowKit

/-- a field that is right -/
def FieldOk (n : Nat) (f : List UInt8) : Prop := ∃ m : Nat, bAt f 0 = m ∧ m < n ∧ restZero f (1 + m)

set_option maxRecDepth 100000 in
set_option maxHeartbeats 1000000 in
theorem prog_rightField_long (w : World) (g o n m : Nat) (l : List UInt8) (hR : w.rangeAt g o (bcells l)) (hl : l.length = n) (hn : n ≤ 100) (hn0 : 0 < n) (h0 : bAt l 0 = m) (hm : n ≤ m) :
    Calls Tryd.prog 69 #[.slice (some ⟨g, o, none⟩) n n] w fun r w' => r = .returned (.bool false) ∧ w' = w := by
  have c0 := range_byte hR 0 (by omega)
  rw [h0, Nat.add_zero] at c0
  have e1 : (n : Int) ≤ m := by omega
  have e2 : (0 : Int) < n := by omega
  have hmb : m < 256 := by have := (bAt_B l 0).2; omega
  clear h0 hl
  go_enter Tryd.func69, Tryd.ntmps69
  go_wp2
  go_ret
  exact ⟨rfl, rfl⟩

set_option maxRecDepth 100000 in
set_option maxHeartbeats 1000000 in
theorem prog_rightField_rest (w : World) (g o n m : Nat) (l : List UInt8) (hR : w.rangeAt g o (bcells l)) (hl : l.length = n) (hn : n ≤ 100) (h0 : bAt l 0 = m) (hm : m < n) (hz : ¬ restZero l (1 + m)) :
    Calls Tryd.prog 69 #[.slice (some ⟨g, o, none⟩) n n] w fun r w' => r = .returned (.bool false) ∧ w' = w := by
  have c0 := range_byte hR 0 (by omega)
  rw [h0, Nat.add_zero] at c0
  have HL : Hid (l.length = n) := hl
  clear hl h0
  have HZ : Hid (¬ restZero l (1 + m)) := hz
  clear hz
  have hend' : ¬ n = 1 + m := by
    intro e
    apply HZ.out
    intro i h1 h2
    rw [HL.out] at h2
    omega
  have e1 : ¬ (n : Int) ≤ m := by omega
  have e2 : IntKind.i64.wrap (1 + (m : Int)) = 1 + (m : Int) := wrap_id _ (by omega) (by omega)
  have e3 : (1 + (m : Int)).toNat = 1 + m := by omega
  have e4 : (1 + (m : Int)) ≤ n := by omega
  have e5 : (0 : Int) ≤ 1 + (m : Int) := by omega
  go_enter Tryd.func69, Tryd.ntmps69
  go_wp2
  go_loopw [19] (fun c wr => ∃ i : Nat, i ≤ n - (1 + m) ∧ c = .int .i64 i ∧ wr = w ∧ Hid (∀ k, k < i → bAt l (1 + m + k) = 0)) (fun c _ => n - (1 + m) - (intOf c).toNat)
  case atStart => exact ⟨0, by omega, rfl, rfl, fun k hk => absurd hk (by omega)⟩
  case round =>
    obtain ⟨i, hi, rfl, rfl, HP⟩ := hrel
    by_cases hlt : i < n - (1 + m)
    · have hc := range_byte hR (1 + m + i) (by rw [HL.out]; omega)
      rw [← Nat.add_assoc] at hc
      have hlt' : (i : Int) < ((n - (1 + m) : Nat) : Int) := by omega
      have hi0 : (0 : Int) ≤ i := by omega
      obtain ⟨x, HX⟩ : ∃ x, Hid (x = bAt l (1 + m + i)) := ⟨_, rfl⟩
      rw [← HX.out] at hc
      by_cases hx : x = 0
      · have HQ : Hid (∀ k, k < i + 1 → bAt l (1 + m + k) = 0) := by
          intro k hk
          rcases Nat.lt_or_ge k i with h2 | h2
          · exact HP.out k h2
          · rw [show k = i by omega, ← HX.out]; exact hx
        subst hx
        go_wp2
        exact ⟨⟨i + 1, by omega, by go_num, trivial, HQ⟩, by simp [intOf]; omega⟩
      · go_wp2
        go_ret
        exact ⟨rfl, rfl⟩
    · exfalso
      apply HZ.out
      intro k h1 h2
      rw [HL.out] at h2
      have := HP.out (k - (1 + m)) (by omega)
      rwa [show 1 + m + (k - (1 + m)) = k by omega] at this

theorem prog_rightField_no (w : World) (g o n : Nat) (l : List UInt8) (hR : w.rangeAt g o (bcells l)) (hl : l.length = n) (hn : n ≤ 100) (hn0 : 0 < n) (hf : ¬ FieldOk n l) :
    Calls Tryd.prog 69 #[.slice (some ⟨g, o, none⟩) n n] w fun r w' => r = .returned (.bool false) ∧ w' = w := by
  obtain ⟨m, hm⟩ : ∃ m : Nat, bAt l 0 = m := ⟨(bAt l 0).toNat, by have := bAt_B l 0; omega⟩
  by_cases h1 : n ≤ m
  · exact prog_rightField_long w g o n m l hR hl hn hn0 hm h1
  · exact prog_rightField_rest w g o n m l hR hl hn hm (by omega) (fun e => hf ⟨m, hm, by omega, e⟩)

set_option maxRecDepth 100000 in
set_option maxHeartbeats 1000000 in
theorem prog_rightKeys_no (w : World) (g o : Nat) (l : List UInt8) (h : ImgAt w g o l) (hk : ¬ ∀ i, i < 4 → FieldOk 21 (fieldAt l (15 + 21 * i) 21)) :
    Calls Tryd.prog 70 #[.pointer (some ⟨g, o, none⟩)] w fun r w' => r = .returned (.bool false) ∧ w' = w := by
  have HK : Hid (¬ ∀ i, i < 4 → FieldOk 21 (fieldAt l (15 + 21 * i) 21)) := hk
  clear hk
  go_enter Tryd.func70, Tryd.ntmps70
  go_wp2
  go_loopw [4] (fun c wr => ∃ i : Nat, i ≤ 4 ∧ c = .int .i64 i ∧ wr = w ∧ Hid (∀ k, k < i → FieldOk 21 (fieldAt l (15 + 21 * k) 21))) (fun c _ => 4 - (intOf c).toNat)
  case atStart => exact ⟨0, by omega, rfl, rfl, fun k hk => absurd hk (by omega)⟩
  case round =>
    obtain ⟨i, hi, rfl, hw, HP⟩ := hrel
    rw [hw]
    clear hw
    by_cases hlt : i < 4
    · have hlt' : (i : Int) < 4 := by omega
      by_cases hf : FieldOk 21 (fieldAt l (15 + 21 * i) 21)
      · have HQ : Hid (∀ k, k < i + 1 → FieldOk 21 (fieldAt l (15 + 21 * k) 21)) := by
          intro k hk
          rcases Nat.lt_or_ge k i with h2 | h2
          · exact HP.out k h2
          · rw [show k = i by omega]; exact hf
        obtain ⟨m, hm0, hm1, hm2⟩ := hf
        have hcall := prog_rightField_yes w g (o + (15 + 21 * i)) 21 m _ (range_sub h.at_ (15 + 21 * i) 21) (fieldAt_length l _ 21 (by rw [h.len]; omega)) (by omega) hm0 hm1 hm2
        clear hm0 hm2
        go_wp2_with (first | (go_at_call 77; refine (prog_key w g o i hlt).mono ?_; rintro _ w9 ⟨rfl, e9⟩; rw [e9]; clear e9 w9) | (go_at_call 69; refine hcall.mono ?_; rintro _ w9 ⟨rfl, e9⟩; rw [e9]; clear e9 w9))
        exact ⟨⟨i + 1, by omega, by go_num, trivial, HQ⟩, by simp [intOf]; omega⟩
      · have hcall := prog_rightField_no w g (o + (15 + 21 * i)) 21 _ (range_sub h.at_ (15 + 21 * i) 21) (fieldAt_length l _ 21 (by rw [h.len]; omega)) (by omega) (by omega) hf
        clear hf
        go_wp2_with (first | (go_at_call 77; refine (prog_key w g o i hlt).mono ?_; rintro _ w9 ⟨rfl, e9⟩; rw [e9]; clear e9 w9) | (go_at_call 69; refine hcall.mono ?_; rintro _ w9 ⟨rfl, e9⟩; rw [e9]; clear e9 w9))
        go_ret
        exact ⟨rfl, rfl⟩
    · exact absurd (fun k hk => HP.out k (by omega)) HK.out
set_option maxRecDepth 100000 in
set_option maxHeartbeats 2000000 in
theorem prog_right_num (w : World) (g o : Nat) (l : List UInt8) (h : ImgAt w g o l) (h1 : bAt l 0 = 167) (h2 : numOf l = 0) :
    Calls Tryd.prog 57 #[.pointer (some ⟨g, o, none⟩)] w fun r w' => r = .returned (.bool false) ∧ ∃ n, w' = w.drewN n := by
  have c0 := h.b 0 (by omega)
  have c5 := h.b 5 (by omega)
  have c6 := h.b 6 (by omega)
  have c99 := h.b 99 (by omega)
  rw [h1, Nat.add_zero] at c0
  obtain ⟨b50, b51⟩ := bAt_B l 5
  obtain ⟨b60, b61⟩ := bAt_B l 6
  obtain ⟨b90, b91⟩ := bAt_B l 99
  generalize bAt l 5 = x5 at *
  generalize bAt l 6 = x6 at *
  generalize bAt l 99 = x99 at *
  go_enter Tryd.func57, Tryd.ntmps57
  go_wp2
  go_quiet (first | (go_at_call 58; exact Calls.quiet_of (prog_number _ g o l (h.drewN _))) | (go_at_call 59; exact Calls.quiet_of_same (prog_pin _ g o)))
  go_wp2
  go_ret
  exact ⟨ret_bool (by simp [h2]), _, rfl⟩

set_option maxRecDepth 100000 in
set_option maxHeartbeats 2000000 in
theorem prog_right_tries (w : World) (g o : Nat) (l : List UInt8) (h : ImgAt w g o l) (h1 : bAt l 0 = 167) (h2 : ¬ numOf l = 0) (h3 : 5 < bAt l 5) :
    Calls Tryd.prog 57 #[.pointer (some ⟨g, o, none⟩)] w fun r w' => r = .returned (.bool false) ∧ ∃ n, w' = w.drewN n := by
  have c0 := h.b 0 (by omega)
  have c5 := h.b 5 (by omega)
  have c6 := h.b 6 (by omega)
  have c99 := h.b 99 (by omega)
  rw [h1, Nat.add_zero] at c0
  obtain ⟨b50, b51⟩ := bAt_B l 5
  obtain ⟨b60, b61⟩ := bAt_B l 6
  obtain ⟨b90, b91⟩ := bAt_B l 99
  generalize bAt l 5 = x5 at *
  generalize bAt l 6 = x6 at *
  generalize bAt l 99 = x99 at *
  have hd3 : decide (x5 ≤ 5) = false := decide_eq_false (by omega)
  have hd4 : ¬ x5 ≤ 5 := by omega
  go_enter Tryd.func57, Tryd.ntmps57
  go_wp2
  go_quiet (first | (go_at_call 58; exact Calls.quiet_of (prog_number _ g o l (h.drewN _))) | (go_at_call 59; exact Calls.quiet_of_same (prog_pin _ g o)))
  go_wp2
  go_ret
  exact ⟨ret_bool (by simp [h2]), _, rfl⟩

set_option maxRecDepth 100000 in
set_option maxHeartbeats 2000000 in
theorem prog_right_pin0 (w : World) (g o : Nat) (l : List UInt8) (h : ImgAt w g o l) (h1 : bAt l 0 = 167) (h2 : ¬ numOf l = 0) (h3 : bAt l 5 ≤ 5) (h4 : bAt l 6 = 0) :
    Calls Tryd.prog 57 #[.pointer (some ⟨g, o, none⟩)] w fun r w' => r = .returned (.bool false) ∧ ∃ n, w' = w.drewN n := by
  have c0 := h.b 0 (by omega)
  have c5 := h.b 5 (by omega)
  have c6 := h.b 6 (by omega)
  have c99 := h.b 99 (by omega)
  rw [h1, Nat.add_zero] at c0
  obtain ⟨b50, b51⟩ := bAt_B l 5
  obtain ⟨b60, b61⟩ := bAt_B l 6
  obtain ⟨b90, b91⟩ := bAt_B l 99
  generalize bAt l 5 = x5 at *
  generalize bAt l 6 = x6 at *
  generalize bAt l 99 = x99 at *
  go_enter Tryd.func57, Tryd.ntmps57
  go_wp2
  go_quiet (first | (go_at_call 58; exact Calls.quiet_of (prog_number _ g o l (h.drewN _))) | (go_at_call 59; exact Calls.quiet_of_same (prog_pin _ g o)))
  go_wp2
  go_ret
  exact ⟨ret_bool (by simp [h2]), _, rfl⟩
end Go.Proofs.YtaokemapkgggoaaDoor
