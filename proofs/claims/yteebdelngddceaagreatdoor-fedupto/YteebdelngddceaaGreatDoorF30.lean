import Derived.Test.YteebdelngddceaaGreatDoorF29
namespace Go.Proofs.YteebdelngddceaaGreatDoor
open Go.RowKit

/-- which half holds what is kept -/
def keeps (h0 h1 : List UInt8) (wh : Nat) : Prop :=
  (wh = 0 ∧ Told h0 true ∧ (Told h1 false ∨ (Told h1 true ∧ ¬ numOf h0 < numOf h1))) ∨ (wh = 1 ∧ Told h1 true ∧ (Told h0 false ∨ (Told h0 true ∧ numOf h0 < numOf h1)))

theorem dev_range {w : World} {g : Nat} {f : List UInt8} {u : Bool} {c : ByteArray} {t : TypeId} (h : Row w g (dcells f u c) t) : w.rangeAt g 0 (bcells f) := by
  intro i v hv
  rw [Nat.zero_add, h.cell, dcells, List.getElem?_append_left (List.getElem?_eq_some_iff.1 hv).1]
  exact hv
theorem dev_h0 {w : World} {g : Nat} {h0 h1 : List UInt8} {u : Bool} {c : ByteArray} {t : TypeId} (h : Row w g (dcells (h0 ++ h1) u c) t) (l0 : h0.length = 100) : ImgAt w g 0 h0 := by
  refine ⟨l0, ?_⟩
  have := range_sub (dev_range h) 0 100
  rwa [Nat.add_zero, List.drop_zero, List.take_append_of_le_length (by omega), List.take_of_length_le (by omega)] at this
theorem dev_h1 {w : World} {g : Nat} {h0 h1 : List UInt8} {u : Bool} {c : ByteArray} {t : TypeId} (h : Row w g (dcells (h0 ++ h1) u c) t) (l0 : h0.length = 100) (l1 : h1.length = 100) : ImgAt w g 100 h1 := by
  refine ⟨l1, ?_⟩
  have := range_sub (dev_range h) 100 100
  rwa [Nat.zero_add, List.drop_append_of_le_length (by omega), List.drop_of_length_le (by omega), List.nil_append, List.take_of_length_le (by omega)] at this

theorem prog_kept (w : World) (g : Nat) (h0 h1 : List UInt8) (u : Bool) (c : ByteArray) (wh : Nat) (hR : Row w g (dcells (h0 ++ h1) u c) 98) (l0 : h0.length = 100) (l1 : h1.length = 100) (hk : keeps h0 h1 wh) :
    Calls Tryz.prog 53 #[.pointer (some ⟨g, 0, none⟩)] w fun r w' => r = .returned (.tuple #[.int .i64 wh, .bool true]) ∧ ∃ n, w' = w.drewN n := by
  have i0 := dev_h0 hR l0
  have i1 := dev_h1 hR l0 l1
  rcases hk with ⟨rfl, t0, t1 | ⟨t1, hn⟩⟩ | ⟨rfl, t1, t0 | ⟨t0, hn⟩⟩
  · exact prog_kept_ff w g 0 100 rfl h0 h1 true i0 i1 t0 t1
  · exact prog_kept_tt0 w g 0 100 rfl h0 h1 i0 i1 t0 t1 hn
  · exact prog_kept_ft w g 0 100 rfl h0 h1 i0 i1 t0 t1
  · exact prog_kept_tt1 w g 0 100 rfl h0 h1 i0 i1 t0 t1 hn

theorem dcells_length (f : List UInt8) (u : Bool) (c : ByteArray) : (dcells f u c).length = f.length + 2 := by simp [dcells, bcells]
theorem dcells_set (f : List UInt8) (u : Bool) (c : ByteArray) (n : Nat) (x : Int) (h : n < f.length) (h0 : 0 ≤ x) (h1 : x < 256) : (dcells f u c).set n (.int .u8 x) = dcells (f.set n (b8 x)) u c := by
  rw [dcells, List.set_append_left _ _ (by rw [bcells_length]; exact h), bcells_set _ _ _ h0 h1, dcells]
/-- the flash in the middle of a write into the half at o, i bytes behind its mark's place -/
def torn (f : List UInt8) (o : Nat) (t : List UInt8) (i : Nat) : List UInt8 := f.take o ++ (0 :: (t.drop 1).take (i - 1)) ++ f.drop (o + i)
theorem torn_length (f : List UInt8) (o : Nat) (t : List UInt8) (i : Nat) (hf : f.length = 200) (ho : o + 100 ≤ 200) (ht : t.length = 100) (h1 : 1 ≤ i) (hi : i ≤ 100) : (torn f o t i).length = 200 := by
  simp [torn, hf, ht]; omega
theorem torn_one (f : List UInt8) (o : Nat) (t : List UInt8) (hf : f.length = 200) (ho : o + 100 ≤ 200) : f.set o 0 = torn f o t 1 := by
  rw [torn, List.set_eq_take_append_cons_drop, if_pos (by omega)]
  simp
theorem b8_bAt (l : List UInt8) (i : Nat) (h : i < l.length) : b8 (bAt l i) = l[i] := by
  unfold bAt bytesI
  rw [List.getD_eq_getElem?_getD, List.getElem?_map, List.getElem?_eq_getElem h]
  exact b8_of _
theorem torn_set (f : List UInt8) (o : Nat) (t : List UInt8) (i : Nat) (hf : f.length = 200) (ho : o + 100 ≤ 200) (ht : t.length = 100) (h1 : 1 ≤ i) (hi : i < 100) : (torn f o t i).set (o + i) (b8 (bAt t i)) = torn f o t (i + 1) := by
  have hl : (f.take o ++ (0 :: (t.drop 1).take (i - 1))).length = o + i := by simp [hf, ht]; omega
  rw [torn, List.set_append_right _ _ (by omega), hl, Nat.sub_self, List.drop_eq_getElem_cons (i := o + i) (by omega), List.set_cons_zero, torn, List.append_assoc, List.append_assoc]
  congr 1
  have e : (t.drop 1).take (i + 1 - 1) = (t.drop 1).take (i - 1) ++ [b8 (bAt t i)] := by
    obtain ⟨k, rfl⟩ : ∃ k, i = k + 1 := ⟨i - 1, by omega⟩
    rw [show k + 1 + 1 - 1 = k + 1 by omega, show k + 1 - 1 = k by omega, List.take_succ_eq_append_getElem (by simp [ht]; omega)]
    congr 2
    rw [List.getElem_drop, b8_bAt _ _ (by omega)]
    congr 1
    omega
  rw [e]
  simp [Nat.add_assoc]
theorem torn_last (f : List UInt8) (o : Nat) (t : List UInt8) (hf : f.length = 200) (ho : o + 100 ≤ 200) (ht : t.length = 100) : (torn f o t 100).set o 167 = f.take o ++ t.set 0 167 ++ f.drop (o + 100) := by
  have hl : (f.take o).length = o := by simp [hf]; omega
  rw [torn, List.append_assoc, List.set_append_right _ _ (by omega), hl, Nat.sub_self, List.cons_append, List.set_cons_zero, List.append_assoc]
  congr 1
  obtain ⟨a, l, rfl⟩ : ∃ a l, t = a :: l := by
    match t, ht with
    | a :: l, _ => exact ⟨a, l, rfl⟩
  simp only [List.length_cons] at ht
  simp only [List.drop_succ_cons, List.drop_zero, List.set_cons_zero, List.cons_append]
  rw [List.take_of_length_le (by omega)]

set_option maxRecDepth 100000 in
set_option maxHeartbeats 1000000 in
theorem prog_write (F : World → Prop) (w : World) (g j : Nat) (h0 h1 l : List UInt8) (u : Bool) (c : ByteArray) (wh oth : Nat) (hR : Row w g (dcells (h0 ++ h1) u c) 98) (l0 : h0.length = 100) (l1 : h1.length = 100) (hk : keeps h0 h1 wh)
    (hW : Row w j (bcells l) 93) (hl : l.length = 100) (hgj : ¬ g = j) (hw : F w) (hFg : ∀ a b, F a → a.grownBy b (some g) → F b) (hFj : ∀ a b, F a → a.grownBy b (some j) → F b) (hoth : wh + oth = 1) :
    Calls Tryz.prog 107 #[.pointer (some ⟨g, 0, none⟩), .pointer (some ⟨j, 0, none⟩)] w fun r w' => r = .returned (.tuple #[]) ∧
      Row w' g (dcells ((h0 ++ h1).take (100 * oth) ++ (turned l).set 0 167 ++ (h0 ++ h1).drop (100 * oth + 100)) u c) 98 ∧ Row w' j (bcells (turned l)) 93 ∧ F w' := by
  have HK : Hid (keeps h0 h1 wh) := hk
  have HL0 : Hid (h0.length = 100) := l0
  have HL1 : Hid (h1.length = 100) := l1
  have HF : Hid ((h0 ++ h1).length = 200) := by show _ = _; rw [List.length_append, l0, l1]
  have HL : Hid (l.length = 100) := hl
  obtain ⟨tl, HT⟩ : ∃ tl, Hid (tl = turned l) := ⟨_, rfl⟩
  have HTL : Hid (tl.length = 100) := by show _ = _; rw [HT.out]; exact turned_length l hl
  rw [← HT.out]
  clear hk l0 l1 hl
  have hwi : (1 : Int) - wh = oth := by omega
  have hwh : wh ≤ 1 := by omega
  have ho2 : oth < 2 := by omega
  go_enter Tryz.func107, Tryz.ntmps107
  go_wp2_with (first | (go_at_call 53; refine (prog_kept w g h0 h1 u c wh hR HL0.out HL1.out HK.out).mono ?_; rintro _ w1 ⟨rfl, n1, e1⟩; have hR1 : Row w1 g (dcells (h0 ++ h1) u c) 98 := (by rw [e1]; exact hR); have hW1 : Row w1 j (bcells l) 93 := (by rw [e1]; exact hW); have hg1 : F w1 := (by rw [e1]; exact hFg _ _ hw (grown_of_below _ (below_drewN (Below.refl _ _) _))); clear e1 n1) | (go_at_call 70; refine (prog_turnNumber w1 j l hW1 HL.out).mono ?_; rintro _ w2 ⟨rfl, hW2, hg2⟩; rw [← HT.out] at hW2; have hR2 := Row.grown hR1 hg2 hgj; have hgr2 : F w2 := hFj _ _ hg1 hg2; clear hg2 hg1 hR1 hW1) | (go_at_call 111; have tok := hR2; clear hR2; refine (prog_put w2 g oth 0 0 _ _ tok ho2 (by omega) (by rw [dcells_length, HF.out]; omega)).mono ?_; rintro _ w3 ⟨rfl, e3⟩; have hR3 : Row w3 g (dcells (torn (h0 ++ h1) (100 * oth) tl 1) u c) 98 := (by rw [e3]; have := tok.setCell (100 * oth + 0) (.int .u8 0); rwa [Nat.add_zero, dcells_set _ _ _ _ _ (by rw [HF.out]; omega) (by omega) (by omega), show b8 0 = 0 from rfl, torn_one _ _ tl HF.out (by omega)] at this); have hW3 : Row w3 j (bcells tl) 93 := (by rw [e3]; exact Row.setCell_other hW2 _ _ (Ne.symm hgj)); have hg3 : F w3 := (by rw [e3]; exact hFg _ _ hgr2 (grown_set (World.grownBy.refl _ _) _ _)); clear e3 hW2 hgr2 tok))
  go_loopw [7] (fun av wr => ∃ i : Nat, 1 ≤ i ∧ i ≤ 100 ∧ av = .int .i64 i ∧ Row wr g (dcells (torn (h0 ++ h1) (100 * oth) tl i) u c) 98 ∧ Row wr j (bcells tl) 93 ∧ F wr) (fun av _ => 100 - (intOf av).toNat)
  case atStart => exact ⟨1, by omega, by omega, rfl, hR3, hW3, hg3⟩
  case round =>
    obtain ⟨i, hi1, hi, rfl, hRi, hWi, hgi⟩ := hrel
    clear hR3 hW3 hg3
    by_cases hlt : i < 100
    · have hi4 : (i : Int) < 100 := by omega
      have hc := cell_of_bcells hWi i (by rw [HTL.out]; exact hlt)
      obtain ⟨hb0, hb1⟩ := bAt_B tl i
      have HS : Hid ((dcells (torn (h0 ++ h1) (100 * oth) tl i) u c).set (100 * oth + i) (.int .u8 (bAt tl i)) = dcells (torn (h0 ++ h1) (100 * oth) tl (i + 1)) u c) := by
        show _ = _
        rw [dcells_set _ _ _ _ _ (by rw [torn_length _ _ _ _ HF.out (by omega) HTL.out hi1 hi]; omega) hb0 hb1, torn_set _ _ _ _ HF.out (by omega) HTL.out hi1 hlt]
      have HQ : Hid (200 ≤ (dcells (torn (h0 ++ h1) (100 * oth) tl i) u c).length) := by show _ ≤ _; rw [dcells_length, torn_length _ _ _ _ HF.out (by omega) HTL.out hi1 hi]; omega
      have hi1' : (1 : Int) ≤ i := by omega
      generalize bAt tl i = x at *
      go_wp2_with (first | (go_at_call 111; refine (prog_put wr g oth i x _ _ hRi ho2 hlt HQ.out).mono ?_; rintro _ w3 ⟨rfl, e3⟩; have hR3 : Row w3 g (dcells (torn (h0 ++ h1) (100 * oth) tl (i + 1)) u c) 98 := (by rw [e3, ← HS.out]; exact hRi.setCell _ _); have hW3 : Row w3 j (bcells tl) 93 := (by rw [e3]; exact Row.setCell_other hWi _ _ (Ne.symm hgj)); have hg3 : F w3 := (by rw [e3]; exact hFg _ _ hgi (grown_set (World.grownBy.refl _ _) _ _)); clear e3))
      refine ⟨⟨i + 1, by omega, by omega, by go_num, hR3, hW3, hg3⟩, by simp [intOf]; omega⟩
    · obtain rfl : i = 100 := by omega
      have hge : ¬ ((100 : Nat) : Int) < 100 := by omega
      have HQ : Hid (200 ≤ (dcells (torn (h0 ++ h1) (100 * oth) tl 100) u c).length) := by show _ ≤ _; rw [dcells_length, torn_length _ _ _ _ HF.out (by omega) HTL.out (by omega) (by omega)]; omega
      have HS : Hid ((dcells (torn (h0 ++ h1) (100 * oth) tl 100) u c).set (100 * oth + 0) (.int .u8 167) = dcells ((h0 ++ h1).take (100 * oth) ++ tl.set 0 167 ++ (h0 ++ h1).drop (100 * oth + 100)) u c) := by
        show _ = _
        rw [Nat.add_zero, dcells_set _ _ _ _ _ (by rw [torn_length _ _ _ _ HF.out (by omega) HTL.out (by omega) (by omega)]; omega) (by omega) (by omega), show b8 167 = 167 from rfl, torn_last _ _ _ HF.out (by omega) HTL.out]
      go_wp2_with (first | (go_at_call 111; refine (prog_put wr g oth 0 167 _ _ hRi ho2 (by omega) HQ.out).mono ?_; rintro _ w3 ⟨rfl, e3⟩; have hR3 : Row w3 g (dcells ((h0 ++ h1).take (100 * oth) ++ tl.set 0 167 ++ (h0 ++ h1).drop (100 * oth + 100)) u c) 98 := (by rw [e3, ← HS.out]; exact hRi.setCell _ _); have hW3 : Row w3 j (bcells tl) 93 := (by rw [e3]; exact Row.setCell_other hWi _ _ (Ne.symm hgj)); have hg3 : F w3 := (by rw [e3]; exact hFg _ _ hgi (grown_set (World.grownBy.refl _ _) _ _)); clear e3))
      go_end0
      exact ⟨rfl, hR3, hW3, hg3⟩
end Go.Proofs.YteebdelngddceaaGreatDoor
