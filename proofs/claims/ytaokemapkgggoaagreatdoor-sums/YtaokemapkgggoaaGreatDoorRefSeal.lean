import Derived.Test.YtaokemapkgggoaaGreatDoorRefPad
namespace Go.Proofs.YtaokemapkgggoaaGreatDoor
open Go.RowKit

/-- what the walk of the great function will give: every sum of the document's answer -/
def SumSaid (spec : List UInt8 → List Int) : Prop := ∀ (s : ByteArray) (g : Nat) (w : World), Summ w g → s.size < 100000 →
  Calls Tryz.prog 14 #[.pointer (some ⟨g, 0, none⟩), .string s] w fun r w' => r = .returned (.string (strOfNums (spec s.data.toList))) ∧ Below w.heap.size w w'

def refSeal (spec : List UInt8 → List Int) (l t : List UInt8) : List Int := spec (toBytes (refMask l 92) ++ toBytes (spec (toBytes (refMask l 54) ++ t)))

set_option maxHeartbeats 1000000 in
theorem ref_seal {spec : List UInt8 → List Int} (hsum : SumSaid spec) (hl : ∀ l, (spec l).length = 32) (k t : ByteArray) (g : Nat) (w : World) (hS : Summ w g) (ht : t.size < 90000) :
    Calls Tryz.prog 17 #[.pointer (some ⟨g, 0, none⟩), .string k, .string t] w fun r w' => r = .returned (.string (strOfNums (refSeal spec k.data.toList t.data.toList))) ∧ Below w.heap.size w w' := by
  obtain ⟨p1, HP1⟩ : ∃ p1, Hid (p1 = strOfNums (refMask k.data.toList 54)) := ⟨_, rfl⟩
  obtain ⟨p2, HP2⟩ : ∃ p2, Hid (p2 = strOfNums (refMask k.data.toList 92)) := ⟨_, rfl⟩
  have z1 : p1.size = 64 := by rw [HP1.out, strOfNums_size, refMask_length]
  have z2 : p2.size = 64 := by rw [HP2.out, strOfNums_size, refMask_length]
  obtain ⟨i1, HI⟩ : ∃ i1, Hid (i1 = strOfNums (spec (p1 ++ t).data.toList)) := ⟨_, rfl⟩
  have z3 : i1.size = 32 := by rw [HI.out, strOfNums_size, hl]
  have z4 : (p1 ++ t).size = 64 + t.size := by rw [ByteArray.size_append, z1]
  have z5 : (p2 ++ i1).size = 96 := by rw [ByteArray.size_append, z2, z3]
  have HFin : Hid (refSeal spec k.data.toList t.data.toList = spec (p2 ++ i1).data.toList) := by
    show _ = _
    rw [ByteArray.data_append, Array.toList_append, HP2.out, HI.out, ByteArray.data_append, Array.toList_append, HP1.out]
    rfl
  go_enter Tryz.func17, Tryz.ntmps17
  go_wp2_with fail
  refine (ref_padded k 54 _ (by unfold isB; omega)).mono ?_
  rintro _ w1 ⟨rfl, hb1⟩
  rw [← HP1.out]
  have S1 := hS.below hb1 (Nat.le_refl _)
  go_wp2_with fail
  refine (hsum (p1 ++ t) g _ S1 (by omega)).mono ?_
  rintro _ w2 ⟨rfl, hb2⟩
  rw [← HI.out]
  have B2 := hb1.trans (hb2.mono hb1.size)
  clear hb1 hb2 S1
  go_wp2_with fail
  refine (ref_padded k 92 _ (by unfold isB; omega)).mono ?_
  rintro _ w3 ⟨rfl, hb3⟩
  rw [← HP2.out]
  have B3 := B2.trans (hb3.mono B2.size)
  have S3 := hS.below B3 (Nat.le_refl _)
  clear B2 hb3
  go_wp2_with fail
  refine (hsum (p2 ++ i1) g _ S3 (by omega)).mono ?_
  rintro _ w4 ⟨rfl, hb4⟩
  have B4 := B3.trans (hb4.mono B3.size)
  clear hb4
  go_wp2
  go_ret
  exact ⟨ret_str HFin.out.symm, B4⟩

/-- a number's bytes, as Eight makes them -/
def eightL (n : Int) : Nat → List Int
  | 0 => []
  | i + 1 => (n / 256 ^ i % 256) :: eightL n i

theorem eightL_length (n : Int) (i : Nat) : (eightL n i).length = i := by
  induction i with
  | zero => rfl
  | succ i ih => simp [eightL, ih]
theorem wpList_appNone {P : Program} {ops : Array Oper} {rest : List Oper} {o : Oper} {a : Act} {w : World} {Q : Exit → Act → World → Prop} (hgd : o.guard = none) (s x : Operand) (t e : TypeId) (k : IntKind) (bytes : Nat) (ho : o.op = .call { callee := .builtin .append, args := #[s, x], argTypes := #[t, t] }) (ht : SlT P t e k bytes)
    (base : Nat) (v : Value) (xs : List Int) (hs : a.eval s = v) (hown : Own w base k e v xs) (hx : a.eval x = .slice none 0 0)
    (h : wpList P ops Q rest (a.put o.dst v) w) : wpList P ops Q (o :: rest) a w := by
  obtain ⟨i, hi, -⟩ := info_parts ht.i
  exact wpList_append_own_none hgd s x t ho base e i 1 ht.u hi v xs.length _ hs hown hx h

theorem div256 (n : Int) (i : Nat) : n / 256 ^ i / 256 = n / 256 ^ (i + 1) := by
  rw [Int.ediv_ediv_of_nonneg (Int.pow_nonneg (by omega)), Int.pow_succ]

set_option maxRecDepth 100000 in
set_option maxHeartbeats 1000000 in
theorem ref_eight (n : Int) (w : World) (h0 : 0 ≤ n) (h1 : n ≤ 9223372036854775807) :
    Calls Tryz.prog 20 #[.int .i64 n] w fun r w' => r = .returned (.string (strOfNums (eightL n 8))) ∧ Below w.heap.size w w' := by
  go_enter Tryz.func20, Tryz.ntmps20
  go_wp2
  go_loopw [0, 3, 4] (fun nv ov c wr => ∃ i : Nat, i ≤ 8 ∧ c = .int .i64 i ∧ nv = .int .i64 (n / 256 ^ i) ∧ Own wr w.heap.size .u8 5 ov (eightL n i) ∧ (i = 0 → ov = .slice none 0 0) ∧ Below w.heap.size w wr) (fun _ _ c _ => 8 - (intOf c).toNat)
  case atStart => exact ⟨0, by omega, rfl, by simp, Own.nil _ _ _ _, fun _ => rfl, Below.refl _ _⟩
  case round =>
    obtain ⟨i, hi, rfl, rfl, hO, hnil, hB⟩ := hrel
    have hbs := hB.size
    have hel : Hid ((eightL n i).length = i) := eightL_length n i
    by_cases hlt : i < 8
    · have hq0 : 0 ≤ n / 256 ^ i := Int.ediv_nonneg h0 (Int.pow_nonneg (by omega))
      have hq1 : n / 256 ^ i ≤ n := Int.ediv_le_self _ h0
      have HD : Hid _ := div256 n i
      have HE : Hid (eightL n (i + 1) = (n / 256 ^ i % 256) :: eightL n i) := rfl
      generalize n / 256 ^ i = q at *
      rcases Nat.eq_zero_or_pos i with hi0 | hi0
      · subst hi0
        have hn0 := hnil rfl
        subst hn0
        clear hO hnil
        go_wp2_with (first | (at_builtin; refine wpList_app1 rfl (.tmp 10) (.tmp 14) 49 5 .u8 1 rfl slB w.heap.size _ [] rfl (Own.nil wr _ _ _) (q % 256) _ _ rfl (by decide) hbs ?_; intro mv w1 hM hg1 hat1; have B1 := below_of_none hg1; have hbs1 := Nat.le_trans hbs B1.size) | (at_builtin; refine wpList_appNone rfl (.tmp 16) (.tmp 17) 49 5 .u8 1 rfl slB w.heap.size _ ([] ++ [q % 256]) rfl hM rfl ?_))
        refine ⟨⟨1, by omega, by go_num, by rw [HD.out], by rw [HE.out]; exact hM, by omega, hB.trans (B1.mono hbs)⟩, by simp [intOf]⟩
      · obtain ⟨go, co, hv, -, hgo, hcell, -⟩ := hO.at (by rw [hel.out]; exact hi0)
        rw [hel.out] at hv
        subst hv
        go_wp2_with (first | (at_builtin; refine wpList_app1 rfl (.tmp 10) (.tmp 14) 49 5 .u8 1 rfl slB w.heap.size _ [] rfl (Own.nil wr _ _ _) (q % 256) _ _ rfl (by decide) hbs ?_; intro mv w1 hM hg1 hat1; have B1 := below_of_none hg1; have hbs1 := Nat.le_trans hbs B1.size) | (at_builtin; refine wpList_app rfl (.tmp 16) (.tmp 17) 49 5 .u8 1 rfl slB w.heap.size _ ([] ++ [q % 256]) rfl hM go co (eightL n i) (by rw [hel.out]; rfl) (fun j hj => (B1.cell (p := ⟨go, j, none⟩) hgo).trans (hcell j hj)) (by rw [hel.out]; simp; omega) hbs1 ?_; intro ov' w2 hO2 hg2 _))
        refine ⟨⟨i + 1, by omega, by go_num, by rw [HD.out], by rw [HE.out]; exact hO2, by omega, below_grown (hB.trans (B1.mono hbs)) hg2 hM hbs1 (Nat.le_refl _)⟩, by simp [intOf]; omega⟩
    · have hi8 : i = 8 := by omega
      obtain ⟨go, co, hv, -, -, hcell, -⟩ := hO.at (by rw [hel.out]; omega)
      rw [hel.out, hi8] at hv
      have e8 : eightL n i = eightL n 8 := by rw [hi8]
      rw [e8] at hcell hel
      subst hv
      have hconv := run_convert_bytes_arg wr 49 5 under_bytes under_u8 go 0 8 co (eightL n 8) (by rw [hel.out, hi8]) (fun i hi => by rw [Nat.zero_add]; exact hcell i (by rw [hel.out, hi8]; exact hi)) 9 under_str
      clear hcell e8 hi8
      go_wp2
      go_ret
      exact ⟨rfl, hB⟩
end Go.Proofs.YtaokemapkgggoaaGreatDoor
