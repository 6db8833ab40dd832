import Derived.Test.YtaokemapkgggoaaDoorKb15
import Derived.Recover
namespace Go.Proofs.YtaokemapkgggoaaDoor
open Go.RowKit

/-- which half holds what is kept -/
def keeps (h0 h1 : List UInt8) (wh : Nat) : Prop :=
  (wh = 0 ∧ Told h0 true ∧ (Told h1 false ∨ (Told h1 true ∧ ¬ numOf h0 < numOf h1))) ∨ (wh = 1 ∧ Told h1 true ∧ (Told h0 false ∨ (Told h0 true ∧ numOf h0 < numOf h1)))

theorem dev_range {w : World} {g : Nat} {f : List UInt8} {q : Pw} {u : Bool} {c : ByteArray} {t : TypeId} (h : Row w g (dcells f q u c) t) : w.rangeAt g 0 (bcells f) := by
  intro i v hv
  rw [Nat.zero_add, h.cell, dcells, List.getElem?_append_left (List.getElem?_eq_some_iff.1 hv).1]
  exact hv
theorem dev_h0 {w : World} {g : Nat} {h0 h1 : List UInt8} {q : Pw} {u : Bool} {c : ByteArray} {t : TypeId} (h : Row w g (dcells (h0 ++ h1) q u c) t) (l0 : h0.length = 100) : ImgAt w g 0 h0 := by
  refine ⟨l0, ?_⟩
  have := range_sub (dev_range h) 0 100
  rwa [Nat.add_zero, List.drop_zero, List.take_append_of_le_length (by omega), List.take_of_length_le (by omega)] at this
theorem dev_h1 {w : World} {g : Nat} {h0 h1 : List UInt8} {q : Pw} {u : Bool} {c : ByteArray} {t : TypeId} (h : Row w g (dcells (h0 ++ h1) q u c) t) (l0 : h0.length = 100) (l1 : h1.length = 100) : ImgAt w g 100 h1 := by
  refine ⟨l1, ?_⟩
  have := range_sub (dev_range h) 100 100
  rwa [Nat.zero_add, List.drop_append_of_le_length (by omega), List.drop_of_length_le (by omega), List.nil_append, List.take_of_length_le (by omega)] at this

theorem prog_kept (w : World) (g : Nat) (h0 h1 : List UInt8) (q : Pw) (u : Bool) (c : ByteArray) (wh : Nat) (hR : Row w g (dcells (h0 ++ h1) q u c) 81) (l0 : h0.length = 100) (l1 : h1.length = 100) (hk : keeps h0 h1 wh) :
    Calls Tryd.prog 41 #[.pointer (some ⟨g, 0, none⟩)] w fun r w' => r = .returned (.tuple #[.int .i64 wh, .bool true]) ∧ ∃ n, w' = w.drewN n := by
  have i0 := dev_h0 hR l0
  have i1 := dev_h1 hR l0 l1
  rcases hk with ⟨rfl, t0, t1 | ⟨t1, hn⟩⟩ | ⟨rfl, t1, t0 | ⟨t0, hn⟩⟩
  · exact prog_kept_ff w g 0 100 rfl h0 h1 true i0 i1 t0 t1
  · exact prog_kept_tt0 w g 0 100 rfl h0 h1 i0 i1 t0 t1 hn
  · exact prog_kept_ft w g 0 100 rfl h0 h1 i0 i1 t0 t1
  · exact prog_kept_tt1 w g 0 100 rfl h0 h1 i0 i1 t0 t1 hn

theorem dcells_length (f : List UInt8) (q : Pw) (u : Bool) (c : ByteArray) : (dcells f q u c).length = f.length + 5 := by simp [dcells, bcells]
theorem dcells_set (f : List UInt8) (q : Pw) (u : Bool) (c : ByteArray) (n : Nat) (x : Int) (h : n < f.length) (h0 : 0 ≤ x) (h1 : x < 256) : (dcells f q u c).set n (.int .u8 x) = dcells (f.set n (b8 x)) q u c := by
  rw [dcells, List.set_append_left _ _ (by rw [bcells_length]; exact h), bcells_set _ _ _ h0 h1, dcells]
/-- the flash in the middle of a write into the half at o, i bytes behind its mark's place -/
def torn (f : List UInt8) (o : Nat) (t : List UInt8) (i : Nat) : List UInt8 := f.take o ++ (0 :: (t.drop 1).take (i - 1)) ++ f.drop (o + i)
theorem torn_length (f : List UInt8) (o : Nat) (t : List UInt8) (i : Nat) (hf : f.length = 200) (ho : o + 100 ≤ 200) (ht : t.length = 100) (h1 : 1 ≤ i) (hi : i ≤ 100) : (torn f o t i).length = 200 := by
  simp [torn, hf, ht]; omega
theorem torn_one (f : List UInt8) (o : Nat) (t : List UInt8) (hf : f.length = 200) (ho : o + 100 ≤ 200) : f.set o 0 = torn f o t 1 := by
  rw [torn, List.set_eq_take_append_cons_drop, if_pos (by omega)]
  simp
theorem b8_bAt (l : List UInt8) (i : Nat) (h : i < l.length) : b8 (bAt l i) = l[i] := by
  unfold bAt bytesI
  rw [List.getD_eq_getElem?_getD, List.getElem?_map, List.getElem?_eq_getElem h]
  exact b8_of _
theorem torn_set (f : List UInt8) (o : Nat) (t : List UInt8) (i : Nat) (hf : f.length = 200) (ho : o + 100 ≤ 200) (ht : t.length = 100) (h1 : 1 ≤ i) (hi : i < 100) : (torn f o t i).set (o + i) (b8 (bAt t i)) = torn f o t (i + 1) := by
  have hl : (f.take o ++ (0 :: (t.drop 1).take (i - 1))).length = o + i := by simp [hf, ht]; omega
  rw [torn, List.set_append_right _ _ (by omega), hl, Nat.sub_self, List.drop_eq_getElem_cons (i := o + i) (by omega), List.set_cons_zero, torn, List.append_assoc, List.append_assoc]
  congr 1
  have e : (t.drop 1).take (i + 1 - 1) = (t.drop 1).take (i - 1) ++ [b8 (bAt t i)] := by
    obtain ⟨k, rfl⟩ : ∃ k, i = k + 1 := ⟨i - 1, by omega⟩
    rw [show k + 1 + 1 - 1 = k + 1 by omega, show k + 1 - 1 = k by omega, List.take_succ_eq_append_getElem (by simp [ht]; omega)]
    congr 2
    rw [List.getElem_drop, b8_bAt _ _ (by omega)]
    congr 1
    omega
  rw [e]
  simp [Nat.add_assoc]
theorem torn_last (f : List UInt8) (o : Nat) (t : List UInt8) (hf : f.length = 200) (ho : o + 100 ≤ 200) (ht : t.length = 100) : (torn f o t 100).set o 167 = f.take o ++ t.set 0 167 ++ f.drop (o + 100) := by
  have hl : (f.take o).length = o := by simp [hf]; omega
  rw [torn, List.append_assoc, List.set_append_right _ _ (by omega), hl, Nat.sub_self, List.cons_append, List.set_cons_zero, List.append_assoc]
  congr 1
  obtain ⟨a, l, rfl⟩ : ∃ a l, t = a :: l := by
    match t, ht with
    | a :: l, _ => exact ⟨a, l, rfl⟩
  simp only [List.length_cons] at ht
  simp only [List.drop_succ_cons, List.drop_zero, List.set_cons_zero, List.cons_append]
  rw [List.take_of_length_le (by omega)]

/-- the cells of the power -/
theorem dcells_at (f : List UInt8) (q : Pw) (u : Bool) (c : ByteArray) (i : Nat) (h : f.length = 200) : (dcells f q u c)[200 + i]? = [Value.bool q.gone, .bool q.ending, .int .i64 q.left, .bool u, .string c][i]? := by
  rw [dcells, List.getElem?_append_right (by rw [bcells_length, h]; omega), bcells_length, h, Nat.add_sub_cancel_left]
theorem dcells_put (f : List UInt8) (q : Pw) (u : Bool) (c : ByteArray) (i : Nat) (v : Value) (h : f.length = 200) : (dcells f q u c).set (200 + i) v = bcells f ++ [Value.bool q.gone, .bool q.ending, .int .i64 q.left, .bool u, .string c].set i v := by
  rw [dcells, List.set_append_right _ _ (by rw [bcells_length, h]; omega), bcells_length, h, Nat.add_sub_cancel_left]
/-- the power behind n bytes more -/
def Pw.spent (q : Pw) (n : Nat) : Pw := if q.ending = true then { q with left := q.left - n } else q
/-- the power bears n bytes more -/
def Pw.bears (q : Pw) (n : Nat) : Prop := q.ending = true → (n : Int) ≤ q.left ∧ q.left ≤ 9223372036854775807
theorem Pw.spent_zero (q : Pw) : q.spent 0 = q := by unfold Pw.spent; split <;> simp
theorem Pw.spent_succ (q : Pw) (n : Nat) : (q.spent n).spent 1 = q.spent (n + 1) := by
  unfold Pw.spent
  by_cases h : q.ending = true
  · simp only [if_pos h]
    congr 1
    omega
  · simp only [if_neg h]
theorem Pw.bears_spent {q : Pw} {n : Nat} (h : q.bears (n + 1)) : (q.spent n).bears 1 := by
  intro hs
  unfold Pw.spent at hs ⊢
  by_cases he : q.ending = true
  · have := h he
    simp only [if_pos he]
    omega
  · rw [if_neg he] at hs
    exact absurd hs he
theorem Pw.bears_le {q : Pw} {n m : Nat} (h : q.bears n) (hm : m ≤ n) : q.bears m := fun e => by have := h e; omega
/-- what a command ends by when the power goes -/
def lost : Ending := .panicked [{ v := .iface 133 (.agg #[]), recovered := false }]
theorem lost_is : lost = .panicked [{ v := .iface 133 (.agg #[]), recovered := false }] := rfl

set_option maxRecDepth 100000 in
set_option maxHeartbeats 1000000 in
theorem prog_spend_ok (w : World) (g : Nat) (f : List UInt8) (q : Pw) (u : Bool) (c : ByteArray) (hR : Row w g (dcells f q u c) 81) (hl : f.length = 200) (hq : q.bears 1) :
    Calls Tryd.prog 93 #[.pointer (some ⟨g, 200, none⟩)] w fun r w' => r = .returned (.tuple #[]) ∧ Row w' g (dcells f (q.spent 1) u c) 81 ∧ w.grownBy w' (some g) := by
  have c1 : w.cell? ⟨g, 201, none⟩ = some (.bool q.ending) := by rw [hR.cell]; exact dcells_at f q u c 1 hl
  have c2 : w.cell? ⟨g, 202, none⟩ = some (.int .i64 q.left) := by rw [hR.cell]; exact dcells_at f q u c 2 hl
  have fz := hR.frozen 202
  by_cases he : q.ending = true
  · have hb := hq he
    rw [he] at c1
    have hr : Row (w.setCell ⟨g, 202, none⟩ (.int .i64 (q.left - 1))) g (dcells f (q.spent 1) u c) 81 := by
      have := hR.setCell 202 (.int .i64 (q.left - 1))
      rw [dcells_put f q u c 2 _ hl] at this
      unfold Pw.spent
      rw [if_pos he]
      exact this
    have hb1 : (1 : Int) ≤ q.left := by omega
    have hne : ¬ q.left = 0 := by omega
    go_enter Tryd.func93, Tryd.ntmps93
    go_wp2
    go_end0
    exact ⟨rfl, hr, grown_set (World.grownBy.refl _ _) _ _⟩
  · have he' : q.ending = false := by simpa using he
    rw [he'] at c1
    have e : q.spent 1 = q := by unfold Pw.spent; rw [if_neg he]
    rw [e]
    go_enter Tryd.func93, Tryd.ntmps93
    go_wp2
    first | go_end0 | refine bodyPost_ret (results_none rfl _ _ _) rfl ?_
    exact ⟨rfl, hR, World.grownBy.refl _ _⟩

set_option maxRecDepth 100000 in
set_option maxHeartbeats 1000000 in
theorem prog_spend_no (w : World) (g : Nat) (f : List UInt8) (q : Pw) (u : Bool) (c : ByteArray) (hR : Row w g (dcells f q u c) 81) (hl : f.length = 200) (he : q.ending = true) (hz : q.left = 0) :
    Calls Tryd.prog 93 #[.pointer (some ⟨g, 200, none⟩)] w fun r w' => r = lost ∧ Below w.heap.size w w' := by
  have c1 : w.cell? ⟨g, 201, none⟩ = some (.bool q.ending) := by rw [hR.cell]; exact dcells_at f q u c 1 hl
  have c2 : w.cell? ⟨g, 202, none⟩ = some (.int .i64 q.left) := by rw [hR.cell]; exact dcells_at f q u c 2 hl
  rw [he] at c1
  rw [hz] at c2
  go_enter Tryd.func93, Tryd.ntmps93
  go_wp2
  exact ⟨rfl, rfl, Below.refl _ _⟩

set_option maxRecDepth 100000 in
set_option maxHeartbeats 1000000 in
theorem prog_put_ok (w : World) (g h a : Nat) (b : Int) (f : List UInt8) (q : Pw) (u : Bool) (c : ByteArray) (hR : Row w g (dcells f q u c) 81) (hl : f.length = 200) (hq : q.bears 1) (hh : h < 2) (ha : a < 100) (hb0 : 0 ≤ b) (hb1 : b < 256) :
    Calls Tryd.prog 91 #[.pointer (some ⟨g, 0, none⟩), .int .i64 h, .int .i64 a, .int .u8 b] w fun r w' => r = .returned (.tuple #[]) ∧ Row w' g (dcells (f.set (100 * h + a) (b8 b)) (q.spent 1) u c) 81 ∧ w.grownBy w' (some g) := by
  have hx := fun wx => run_indexFlash wx g 0 h h rfl hh (100 * h) (by omega)
  have HL : Hid (f.length = 200) := hl
  have HS : Hid ((dcells f (q.spent 1) u c).set (100 * h + a) (.int .u8 b) = dcells (f.set (100 * h + a) (b8 b)) (q.spent 1) u c) := dcells_set _ _ _ _ _ _ (by omega) hb0 hb1
  have hsp := prog_spend_ok w g f q u c hR hl hq
  obtain ⟨q', HQ⟩ : ∃ q', Hid (q' = q.spent 1) := ⟨_, rfl⟩
  rw [← HQ.out] at hsp HS
  rw [← HQ.out]
  clear hl
  go_enter Tryd.func91, Tryd.ntmps91
  go_wp2_with (go_at_call 93; refine hsp.mono ?_; rintro _ w1 ⟨rfl, hR1, hg1⟩; have hcell : w1.cell? ⟨g, 100 * h + a, none⟩ = some ((dcells f q' u c)[100 * h + a]'(by rw [dcells_length, HL.out]; omega)) := (by rw [hR1.cell, List.getElem?_eq_getElem]); have hfz := hR1.frozen (100 * h + a))
  go_end0
  refine ⟨rfl, ?_, grown_set hg1 _ _⟩
  rw [← HS.out]
  exact hR1.setCell _ _

set_option maxRecDepth 100000 in
set_option maxHeartbeats 1000000 in
theorem prog_put_no (w : World) (g h a : Nat) (b : Int) (f : List UInt8) (q : Pw) (u : Bool) (c : ByteArray) (hR : Row w g (dcells f q u c) 81) (hl : f.length = 200) (he : q.ending = true) (hz : q.left = 0) :
    Calls Tryd.prog 91 #[.pointer (some ⟨g, 0, none⟩), .int .i64 h, .int .i64 a, .int .u8 b] w fun r w' => r = lost ∧ Below w.heap.size w w' := by
  have hsp := prog_spend_no w g f q u c hR hl he hz
  go_enter Tryd.func91, Tryd.ntmps91
  go_wp2_with (go_at_call 93; refine hsp.mono ?_; rintro _ w1 ⟨hr1, hb1⟩; rw [lost_is] at hr1; subst hr1)
  exact ⟨rfl, rfl, hb1⟩

set_option maxRecDepth 100000 in
set_option maxHeartbeats 1000000 in
theorem prog_write (F : World → Prop) (w : World) (g j : Nat) (h0 h1 l : List UInt8) (q : Pw) (u : Bool) (c : ByteArray) (wh oth : Nat) (hR : Row w g (dcells (h0 ++ h1) q u c) 81) (l0 : h0.length = 100) (l1 : h1.length = 100) (hk : keeps h0 h1 wh)
    (hW : Row w j (bcells l) 75) (hl : l.length = 100) (hgj : ¬ g = j) (hw : F w) (hFg : ∀ a b, F a → a.grownBy b (some g) → F b) (hFj : ∀ a b, F a → a.grownBy b (some j) → F b) (hoth : wh + oth = 1) (hq : q.bears 101) :
    Calls Tryd.prog 87 #[.pointer (some ⟨g, 0, none⟩), .pointer (some ⟨j, 0, none⟩)] w fun r w' => r = .returned (.tuple #[]) ∧
      Row w' g (dcells ((h0 ++ h1).take (100 * oth) ++ (turned l).set 0 167 ++ (h0 ++ h1).drop (100 * oth + 100)) (q.spent 101) u c) 81 ∧ Row w' j (bcells (turned l)) 75 ∧ F w' := by
  have HK : Hid (keeps h0 h1 wh) := hk
  have HL0 : Hid (h0.length = 100) := l0
  have HL1 : Hid (h1.length = 100) := l1
  have HF : Hid ((h0 ++ h1).length = 200) := by show _ = _; rw [List.length_append, l0, l1]
  have HL : Hid (l.length = 100) := hl
  have HQ : Hid (q.bears 101) := hq
  obtain ⟨tl, HT⟩ : ∃ tl, Hid (tl = turned l) := ⟨_, rfl⟩
  have HTL : Hid (tl.length = 100) := by show _ = _; rw [HT.out]; exact turned_length l hl
  rw [← HT.out]
  clear hk l0 l1 hl hq
  have hwi : (1 : Int) - wh = oth := by omega
  have hwh : wh ≤ 1 := by omega
  have ho2 : oth < 2 := by omega
  have hjg : ¬ j = g := fun e => hgj e.symm
  go_enter Tryd.func87, Tryd.ntmps87
  go_wp2_with (first | (go_at_call 41; refine (prog_kept w g h0 h1 q u c wh hR HL0.out HL1.out HK.out).mono ?_; rintro _ w1 ⟨rfl, n1, e1⟩; have hR1 : Row w1 g (dcells (h0 ++ h1) q u c) 81 := (by rw [e1]; exact hR); have hW1 : Row w1 j (bcells l) 75 := (by rw [e1]; exact hW); have hg1 : F w1 := (by rw [e1]; exact hFg _ _ hw (grown_of_below _ (below_drewN (Below.refl _ _) _))); clear e1 n1) | (go_at_call 60; refine (prog_turnNumber w1 j l hW1 HL.out).mono ?_; rintro _ w2 ⟨rfl, hW2, hg2⟩; rw [← HT.out] at hW2; have hR2 := Row.grown hR1 hg2 hgj; have hgr2 : F w2 := hFj _ _ hg1 hg2; clear hg2 hg1 hR1 hW1) | (go_at_call 91; have tok := hR2; clear hR2; refine (prog_put_ok w2 g oth 0 0 (h0 ++ h1) q u c tok HF.out (Pw.bears_le HQ.out (by omega)) ho2 (by omega) (by omega) (by omega)).mono ?_; rintro _ w3 ⟨rfl, hR3, hg3'⟩; rw [Nat.add_zero, show b8 0 = 0 from rfl, torn_one _ _ tl HF.out (by omega)] at hR3; have hW3 : Row w3 j (bcells tl) 75 := Row.grown hW2 hg3' hjg; have hg3 : F w3 := hFg _ _ hgr2 hg3'; clear hg3' hW2 hgr2 tok))
  go_loopw [7] (fun av wr => ∃ i : Nat, 1 ≤ i ∧ i ≤ 100 ∧ av = .int .i64 i ∧ Row wr g (dcells (torn (h0 ++ h1) (100 * oth) tl i) (q.spent i) u c) 81 ∧ Row wr j (bcells tl) 75 ∧ F wr) (fun av _ => 100 - (intOf av).toNat)
  case atStart => exact ⟨1, by omega, by omega, rfl, hR3, hW3, hg3⟩
  case round =>
    obtain ⟨i, hi1, hi, rfl, hRi, hWi, hgi⟩ := hrel
    clear hR3 hW3 hg3
    by_cases hlt : i < 100
    · have hi4 : (i : Int) < 100 := by omega
      have hc := cell_of_bcells hWi i (by rw [HTL.out]; exact hlt)
      obtain ⟨hb0, hb1⟩ := bAt_B tl i
      have HS : Hid ((torn (h0 ++ h1) (100 * oth) tl i).set (100 * oth + i) (b8 (bAt tl i)) = torn (h0 ++ h1) (100 * oth) tl (i + 1)) := torn_set _ _ _ _ HF.out (by omega) HTL.out hi1 hlt
      have HQ2 : Hid ((torn (h0 ++ h1) (100 * oth) tl i).length = 200) := torn_length _ _ _ _ HF.out (by omega) HTL.out hi1 hi
      have hi1' : (1 : Int) ≤ i := by omega
      have hpt := prog_put_ok wr g oth i (bAt tl i) _ (q.spent i) u c hRi HQ2.out (Pw.bears_spent (Pw.bears_le HQ.out (by omega))) ho2 hlt hb0 hb1
      rw [HS.out, Pw.spent_succ] at hpt
      generalize bAt tl i = x at *
      go_wp2_with (first | (go_at_call 91; refine hpt.mono ?_; rintro _ w3 ⟨rfl, hR3, hg3'⟩; have hW3 : Row w3 j (bcells tl) 75 := Row.grown hWi hg3' hjg; have hg3 : F w3 := hFg _ _ hgi hg3'; clear hg3' hpt))
      refine ⟨⟨i + 1, by omega, by omega, by go_num, hR3, hW3, hg3⟩, by simp [intOf]; omega⟩
    · obtain rfl : i = 100 := by omega
      have hge : ¬ ((100 : Nat) : Int) < 100 := by omega
      have HQ2 : Hid ((torn (h0 ++ h1) (100 * oth) tl 100).length = 200) := torn_length _ _ _ _ HF.out (by omega) HTL.out (by omega) (by omega)
      have hpt := prog_put_ok wr g oth 0 167 _ (q.spent 100) u c hRi HQ2.out (Pw.bears_spent HQ.out) ho2 (by omega) (by omega) (by omega)
      rw [Nat.add_zero, show b8 167 = 167 from rfl, torn_last _ _ _ HF.out (by omega) HTL.out, Pw.spent_succ] at hpt
      go_wp2_with (first | (go_at_call 91; refine hpt.mono ?_; rintro _ w3 ⟨rfl, hR3, hg3'⟩; have hW3 : Row w3 j (bcells tl) 75 := Row.grown hWi hg3' hjg; have hg3 : F w3 := hFg _ _ hgi hg3'; clear hg3' hpt))
      go_end0
      exact ⟨rfl, hR3, hW3, hg3⟩

theorem Pw.spent_all {q : Pw} {n : Nat} (he : q.ending = true) (hn : q.left = n) : (q.spent n).ending = true ∧ (q.spent n).left = 0 := by
  unfold Pw.spent
  rw [if_pos he]
  exact ⟨he, by simp only; omega⟩

set_option maxRecDepth 100000 in
set_option maxHeartbeats 1000000 in
/-- a write in whose middle the power goes -/
theorem prog_write_lost (F : World → Prop) (w : World) (g j : Nat) (h0 h1 l : List UInt8) (q : Pw) (u : Bool) (c : ByteArray) (wh oth : Nat) (hR : Row w g (dcells (h0 ++ h1) q u c) 81) (l0 : h0.length = 100) (l1 : h1.length = 100) (hk : keeps h0 h1 wh)
    (hW : Row w j (bcells l) 75) (hl : l.length = 100) (hgj : ¬ g = j) (hw : F w) (hFg : ∀ a b, F a → a.grownBy b (some g) → F b) (hFj : ∀ a b, F a → a.grownBy b (some j) → F b) (hoth : wh + oth = 1) (n : Nat) (he : q.ending = true) (hn : q.left = n) (hn1 : n < 101) :
    Calls Tryd.prog 87 #[.pointer (some ⟨g, 0, none⟩), .pointer (some ⟨j, 0, none⟩)] w fun r w' => r = lost ∧
      Row w' g (dcells (if n = 0 then h0 ++ h1 else torn (h0 ++ h1) (100 * oth) (turned l) n) (q.spent n) u c) 81 ∧ Row w' j (bcells (turned l)) 75 ∧ F w' := by
  have HK : Hid (keeps h0 h1 wh) := hk
  have HL0 : Hid (h0.length = 100) := l0
  have HL1 : Hid (h1.length = 100) := l1
  have HF : Hid ((h0 ++ h1).length = 200) := by show _ = _; rw [List.length_append, l0, l1]
  have HL : Hid (l.length = 100) := hl
  have HE : Hid (q.ending = true) := he
  have HN : Hid (q.left = n) := hn
  have HB : Hid (q.bears n) := fun _ => by rw [hn]; omega
  obtain ⟨tl, HT⟩ : ∃ tl, Hid (tl = turned l) := ⟨_, rfl⟩
  have HTL : Hid (tl.length = 100) := by show _ = _; rw [HT.out]; exact turned_length l hl
  rw [← HT.out]
  clear hk l0 l1 hl he hn
  have hwi : (1 : Int) - wh = oth := by omega
  have hwh : wh ≤ 1 := by omega
  have ho2 : oth < 2 := by omega
  have hjg : ¬ j = g := fun e => hgj e.symm
  by_cases hn0 : n = 0
  · subst hn0
    rw [if_pos rfl, Pw.spent_zero]
    go_enter Tryd.func87, Tryd.ntmps87
    go_wp2_with (first | (go_at_call 41; refine (prog_kept w g h0 h1 q u c wh hR HL0.out HL1.out HK.out).mono ?_; rintro _ w1 ⟨rfl, n1, e1⟩; have hR1 : Row w1 g (dcells (h0 ++ h1) q u c) 81 := (by rw [e1]; exact hR); have hW1 : Row w1 j (bcells l) 75 := (by rw [e1]; exact hW); have hg1 : F w1 := (by rw [e1]; exact hFg _ _ hw (grown_of_below _ (below_drewN (Below.refl _ _) _))); clear e1 n1) | (go_at_call 60; refine (prog_turnNumber w1 j l hW1 HL.out).mono ?_; rintro _ w2 ⟨rfl, hW2, hg2⟩; rw [← HT.out] at hW2; have hR2 := Row.grown hR1 hg2 hgj; have hgr2 : F w2 := hFj _ _ hg1 hg2; clear hg2 hg1 hR1 hW1) | (go_at_call 91; refine (prog_put_no w2 g oth 0 0 (h0 ++ h1) q u c hR2 HF.out HE.out HN.out).mono ?_; rintro _ w3 ⟨hr3, hb3⟩; rw [lost_is] at hr3; subst hr3))
    exact ⟨rfl, rfl, hR2.below hb3 hR2.lt, hW2.below hb3 hW2.lt, hFg _ _ hgr2 (grown_of_below _ hb3)⟩
  rw [if_neg hn0]
  go_enter Tryd.func87, Tryd.ntmps87
  go_wp2_with (first | (go_at_call 41; refine (prog_kept w g h0 h1 q u c wh hR HL0.out HL1.out HK.out).mono ?_; rintro _ w1 ⟨rfl, n1, e1⟩; have hR1 : Row w1 g (dcells (h0 ++ h1) q u c) 81 := (by rw [e1]; exact hR); have hW1 : Row w1 j (bcells l) 75 := (by rw [e1]; exact hW); have hg1 : F w1 := (by rw [e1]; exact hFg _ _ hw (grown_of_below _ (below_drewN (Below.refl _ _) _))); clear e1 n1) | (go_at_call 60; refine (prog_turnNumber w1 j l hW1 HL.out).mono ?_; rintro _ w2 ⟨rfl, hW2, hg2⟩; rw [← HT.out] at hW2; have hR2 := Row.grown hR1 hg2 hgj; have hgr2 : F w2 := hFj _ _ hg1 hg2; clear hg2 hg1 hR1 hW1) | (go_at_call 91; have tok := hR2; clear hR2; refine (prog_put_ok w2 g oth 0 0 (h0 ++ h1) q u c tok HF.out (Pw.bears_le HB.out (by omega)) ho2 (by omega) (by omega) (by omega)).mono ?_; rintro _ w3 ⟨rfl, hR3, hg3'⟩; rw [Nat.add_zero, show b8 0 = 0 from rfl, torn_one _ _ tl HF.out (by omega)] at hR3; have hW3 : Row w3 j (bcells tl) 75 := Row.grown hW2 hg3' hjg; have hg3 : F w3 := hFg _ _ hgr2 hg3'; clear hg3' hW2 hgr2 tok))
  go_loopw [7] (fun av wr => ∃ i : Nat, 1 ≤ i ∧ i ≤ 100 ∧ i ≤ n ∧ av = .int .i64 i ∧ Row wr g (dcells (torn (h0 ++ h1) (100 * oth) tl i) (q.spent i) u c) 81 ∧ Row wr j (bcells tl) 75 ∧ F wr) (fun av _ => 100 - (intOf av).toNat)
  case atStart => exact ⟨1, by omega, by omega, by omega, rfl, hR3, hW3, hg3⟩
  case round =>
    obtain ⟨i, hi1, hi, hin, rfl, hRi, hWi, hgi⟩ := hrel
    clear hR3 hW3 hg3
    have HQ2 : Hid ((torn (h0 ++ h1) (100 * oth) tl i).length = 200) := torn_length _ _ _ _ HF.out (by omega) HTL.out hi1 hi
    by_cases hlt : i < 100
    · have hi4 : (i : Int) < 100 := by omega
      have hc := cell_of_bcells hWi i (by rw [HTL.out]; exact hlt)
      obtain ⟨hb0, hb1⟩ := bAt_B tl i
      have hi1' : (1 : Int) ≤ i := by omega
      by_cases hin2 : i < n
      · have HS : Hid ((torn (h0 ++ h1) (100 * oth) tl i).set (100 * oth + i) (b8 (bAt tl i)) = torn (h0 ++ h1) (100 * oth) tl (i + 1)) := torn_set _ _ _ _ HF.out (by omega) HTL.out hi1 hlt
        have hpt := prog_put_ok wr g oth i (bAt tl i) _ (q.spent i) u c hRi HQ2.out (Pw.bears_spent (Pw.bears_le HB.out (by omega))) ho2 hlt hb0 hb1
        rw [HS.out, Pw.spent_succ] at hpt
        generalize bAt tl i = x at *
        go_wp2_with (first | (go_at_call 91; refine hpt.mono ?_; rintro _ w3 ⟨rfl, hR3, hg3'⟩; have hW3 : Row w3 j (bcells tl) 75 := Row.grown hWi hg3' hjg; have hg3 : F w3 := hFg _ _ hgi hg3'; clear hg3' hpt))
        refine ⟨⟨i + 1, by omega, by omega, by omega, by go_num, hR3, hW3, hg3⟩, by simp [intOf]; omega⟩
      · obtain rfl : i = n := by omega
        have hpt := prog_put_no wr g oth i (bAt tl i) _ (q.spent i) u c hRi HQ2.out (Pw.spent_all HE.out HN.out).1 (Pw.spent_all HE.out HN.out).2
        generalize bAt tl i = x at *
        go_wp2_with (first | (go_at_call 91; refine hpt.mono ?_; rintro _ w3 ⟨hr3, hb3⟩; rw [lost_is] at hr3; subst hr3))
        exact ⟨rfl, rfl, hRi.below hb3 hRi.lt, hWi.below hb3 hWi.lt, hFg _ _ hgi (grown_of_below _ hb3)⟩
    · obtain rfl : i = 100 := by omega
      obtain rfl : n = 100 := by omega
      have hge : ¬ ((100 : Nat) : Int) < 100 := by omega
      have hpt := prog_put_no wr g oth 0 167 _ (q.spent 100) u c hRi HQ2.out (Pw.spent_all HE.out HN.out).1 (Pw.spent_all HE.out HN.out).2
      go_wp2_with (first | (go_at_call 91; refine hpt.mono ?_; rintro _ w3 ⟨hr3, hb3⟩; rw [lost_is] at hr3; subst hr3))
      exact ⟨rfl, rfl, hRi.below hb3 hRi.lt, hWi.below hb3 hWi.lt, hFg _ _ hgi (grown_of_below _ hb3)⟩
end Go.Proofs.YtaokemapkgggoaaDoor
