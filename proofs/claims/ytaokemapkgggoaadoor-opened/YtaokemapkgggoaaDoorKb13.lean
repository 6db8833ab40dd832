import Derived.Test.YtaokemapkgggoaaDoorKb12
set_option linter.unusedSimpArgs false
namespace Go.Proofs.YtaokemapkgggoaaDoor
open Go.RowKit

set_option maxRecDepth 100000 in
set_option maxHeartbeats 2000000 in
theorem prog_right_pin (w : World) (g o : Nat) (l : List UInt8) (h : ImgAt w g o l) (h1 : bAt l 0 = 167) (h2 : ¬ numOf l = 0) (h3 : bAt l 5 ≤ 5) (h4 : ¬ bAt l 6 = 0) (hp : ¬ FieldOk 9 (fieldAt l 6 9)) :
    Calls Tryd.prog 57 #[.pointer (some ⟨g, o, none⟩)] w fun r w' => r = .returned (.bool false) ∧ ∃ n, w' = w.drewN n := by
  have c0 := h.b 0 (by omega)
  have c5 := h.b 5 (by omega)
  have c6 := h.b 6 (by omega)
  have c99 := h.b 99 (by omega)
  rw [h1, Nat.add_zero] at c0
  obtain ⟨b50, b51⟩ := bAt_B l 5
  obtain ⟨b60, b61⟩ := bAt_B l 6
  obtain ⟨b90, b91⟩ := bAt_B l 99
  have HPN : Hid (¬ FieldOk 9 (fieldAt l 6 9)) := hp
  clear hp
  generalize bAt l 5 = x5 at *
  generalize bAt l 6 = x6 at *
  generalize bAt l 99 = x99 at *
  go_enter Tryd.func57, Tryd.ntmps57
  go_wp2
  go_quiet (first | (go_at_call 58; exact Calls.quiet_of (prog_number _ g o l (h.drewN _))) | (go_at_call 59; exact Calls.quiet_of_same (prog_pin _ g o)) | (go_at_call 69; exact Calls.quiet_of_same (prog_rightField_no _ g (o + 6) 9 _ (range_sub (h.drewN _).at_ 6 9) (fieldAt_length l _ 9 (by rw [h.len]; omega)) (by omega) (by omega) HPN.out)))
  go_wp2
  go_ret
  exact ⟨ret_bool (by simp [h2, h4]), _, rfl⟩

set_option maxRecDepth 100000 in
set_option maxHeartbeats 2000000 in
theorem prog_right_keys (w : World) (g o : Nat) (l : List UInt8) (h : ImgAt w g o l) (h1 : bAt l 0 = 167) (h2 : ¬ numOf l = 0) (h3 : bAt l 5 ≤ 5) (h4 : ¬ bAt l 6 = 0) (hp : FieldOk 9 (fieldAt l 6 9)) (hk : ¬ ∀ i, i < 4 → FieldOk 21 (fieldAt l (15 + 21 * i) 21)) :
    Calls Tryd.prog 57 #[.pointer (some ⟨g, o, none⟩)] w fun r w' => r = .returned (.bool false) ∧ ∃ n, w' = w.drewN n := by
  have c0 := h.b 0 (by omega)
  have c5 := h.b 5 (by omega)
  have c6 := h.b 6 (by omega)
  have c99 := h.b 99 (by omega)
  rw [h1, Nat.add_zero] at c0
  obtain ⟨b50, b51⟩ := bAt_B l 5
  obtain ⟨b60, b61⟩ := bAt_B l 6
  obtain ⟨b90, b91⟩ := bAt_B l 99
  obtain ⟨m, hm0', hm1, hm2'⟩ := hp
  have hm0 : Hid _ := hm0'
  have hm2 : Hid _ := hm2'
  clear hm0' hm2'
  have HKN : Hid (¬ ∀ i, i < 4 → FieldOk 21 (fieldAt l (15 + 21 * i) 21)) := hk
  clear hk
  generalize bAt l 5 = x5 at *
  generalize bAt l 6 = x6 at *
  generalize bAt l 99 = x99 at *
  go_enter Tryd.func57, Tryd.ntmps57
  go_wp2
  go_quiet (first | (go_at_call 58; exact Calls.quiet_of (prog_number _ g o l (h.drewN _))) | (go_at_call 59; exact Calls.quiet_of_same (prog_pin _ g o)) | (go_at_call 69; exact Calls.quiet_of_same (prog_rightField_yes _ g (o + 6) 9 m _ (range_sub (h.drewN _).at_ 6 9) (fieldAt_length l _ 9 (by rw [h.len]; omega)) (by omega) hm0.out hm1 hm2.out)) | (go_at_call 70; exact Calls.quiet_of_same (prog_rightKeys_no _ g o l (h.drewN _) HKN.out)))
  go_wp2
  go_ret
  exact ⟨ret_bool (by simp [h2, h4]), _, rfl⟩

set_option maxRecDepth 100000 in
set_option maxHeartbeats 2000000 in
theorem prog_right_check (w : World) (g o : Nat) (l : List UInt8) (h : ImgAt w g o l) (h1 : bAt l 0 = 167) (h2 : ¬ numOf l = 0) (h3 : bAt l 5 ≤ 5) (h4 : ¬ bAt l 6 = 0) (hp : FieldOk 9 (fieldAt l 6 9)) (hk : ∀ i, i < 4 → FieldOk 21 (fieldAt l (15 + 21 * i) 21)) (hc : ¬ bAt l 99 = chkOf l) :
    Calls Tryd.prog 57 #[.pointer (some ⟨g, o, none⟩)] w fun r w' => r = .returned (.bool false) ∧ ∃ n, w' = w.drewN n := by
  have c0 := h.b 0 (by omega)
  have c5 := h.b 5 (by omega)
  have c6 := h.b 6 (by omega)
  have c99 := h.b 99 (by omega)
  rw [h1, Nat.add_zero] at c0
  obtain ⟨b50, b51⟩ := bAt_B l 5
  obtain ⟨b60, b61⟩ := bAt_B l 6
  obtain ⟨b90, b91⟩ := bAt_B l 99
  obtain ⟨m, hm0', hm1, hm2'⟩ := hp
  have hm0 : Hid _ := hm0'
  have hm2 : Hid _ := hm2'
  clear hm0' hm2'
  have HKY : Hid (∀ i, i < 4 → FieldOk 21 (fieldAt l (15 + 21 * i) 21)) := hk
  clear hk
  generalize bAt l 5 = x5 at *
  generalize bAt l 6 = x6 at *
  generalize bAt l 99 = x99 at *
  go_enter Tryd.func57, Tryd.ntmps57
  go_wp2
  go_quiet (first | (go_at_call 58; exact Calls.quiet_of (prog_number _ g o l (h.drewN _))) | (go_at_call 59; exact Calls.quiet_of_same (prog_pin _ g o)) | (go_at_call 69; exact Calls.quiet_of_same (prog_rightField_yes _ g (o + 6) 9 m _ (range_sub (h.drewN _).at_ 6 9) (fieldAt_length l _ 9 (by rw [h.len]; omega)) (by omega) hm0.out hm1 hm2.out)) | (go_at_call 70; exact Calls.quiet_of_same (prog_rightKeys _ g o l (h.drewN _) HKY.out)) | (go_at_call 71; exact Calls.quiet_of_same (prog_check _ g o l (h.drewN _))))
  go_wp2
  go_ret
  exact ⟨ret_bool (by simp [h2, h4, hc]), _, rfl⟩

/-- right tells whether an image is right -/
theorem prog_right_any (w : World) (g o : Nat) (l : List UInt8) (h : ImgAt w g o l) (hr : ¬ RightL l) :
    Calls Tryd.prog 57 #[.pointer (some ⟨g, o, none⟩)] w fun r w' => r = .returned (.bool false) ∧ ∃ n, w' = w.drewN n := by
  by_cases h1 : bAt l 0 = 167
  · by_cases h2 : numOf l = 0
    · exact prog_right_num w g o l h h1 h2
    · by_cases h3 : bAt l 5 ≤ 5
      · by_cases h4 : bAt l 6 = 0
        · exact prog_right_pin0 w g o l h h1 h2 h3 h4
        · by_cases hp : FieldOk 9 (fieldAt l 6 9)
          · by_cases hk : ∀ i, i < 4 → FieldOk 21 (fieldAt l (15 + 21 * i) 21)
            · by_cases hc : bAt l 99 = chkOf l
              · exact absurd ⟨h.len, h1, h2, h3, h4, hp, hk, hc⟩ hr
              · exact prog_right_check w g o l h h1 h2 h3 h4 hp hk hc
            · exact prog_right_keys w g o l h h1 h2 h3 h4 hp hk
          · exact prog_right_pin w g o l h h1 h2 h3 h4 hp
      · exact prog_right_tries w g o l h h1 h2 (by omega)
  · exact prog_right_no w g o l h h1

/-- what right tells of an image -/
def Told (l : List UInt8) (b : Bool) : Prop := (b = true → RightL l) ∧ (b = false → ¬ RightL l)
theorem prog_rightI (w : World) (g o : Nat) (l : List UInt8) (b : Bool) (h : ImgAt w g o l) (hb : Told l b) :
    Calls Tryd.prog 57 #[.pointer (some ⟨g, o, none⟩)] w fun r w' => r = .returned (.bool b) ∧ ∃ n, w' = w.drewN n := by
  cases b with
  | true => exact prog_right_yes w g o l h (hb.1 rfl)
  | false => exact prog_right_any w g o l h (hb.2 rfl)

/-- which half is kept, of two with what right tells of them -/
def keptB (h0 h1 : List UInt8) (b0 b1 : Bool) : Bool := b1 && (!b0 || decide (numOf h0 < numOf h1))
end Go.Proofs.YtaokemapkgggoaaDoor
