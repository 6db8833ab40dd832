import Derived.Test.YteebdelngddceaaGreatDoorF39
import Derived.WalkMore
import Derived.ScopeJumps
import Derived.Deep.RegionWith
import Derived.Test.YteebdelngddceaaGreatDoorF14
import Derived.Test.YteebdelngddceaaGreatDoorF15
namespace Go.Proofs.YteebdelngddceaaGreatDoor
open Go.RowKit

/-- a scope that opens with its label -/
theorem wp_scope_label {P : Program} {a : Act} {w : World} {Q : Exit → Act → World → Prop} {rest : Code} (l : Nat) (J : Act → World → Prop) (μ : Act → World → Nat) (h0 : J a w)
    (pass : ∀ a w, J a w → rest.wp P (Exit.jump l (fun a' w' => J a' w' ∧ μ a' w' < μ a w) Q) a w) : (Code.scope ((Code.label l).seq rest)).wp P Q a w := by
  refine wp_scope_jumps l J μ (rest := .seq .skip rest) (by simp [findLabel]) ?_ ?_
  · refine wp_seq (wp_label ?_)
    refine wp_mono (pass a w h0) ?_
    intro e a' w' h
    cases e <;> first | exact h | exact ⟨h.1, h.2.1⟩
  · intro a' w' hJ
    exact wp_seq (wp_skip (pass a' w' hJ))

theorem jump_ret_of {l i : Nat} {J : Act → World → Prop} {Q : Exit → Act → World → Prop} {a : Act} {w : World} (h : Exit.inBlock i Q .ret a w) : Exit.jump l J (Exit.inBlock i Q) .ret a w := h

theorem jump_normal_of {l i : Nat} {J : Act → World → Prop} {Q : Exit → Act → World → Prop} {a : Act} {w : World} (h : Exit.inBlock i Q .normal a w) : Exit.jump l J (Exit.inBlock i Q) .normal a w := h

theorem byteCells_app (a b : List UInt8) : Lib.byteCells a ++ Lib.strCells (str b) = Lib.byteCells (a ++ b) := by
  rw [Lib.strCells_eq, str_list]
  simp [Lib.byteCells]

set_option maxRecDepth 100000 in
theorem prog_Clone (s : ByteArray) (w : World) (hlim : s.size ≤ 281474976710656) :
    Calls Tryz.prog 76 #[.string s] w fun e w' => e = .returned (.string s) ∧ Below w.heap.size w w' := by
  go_enter Tryz.func76, Tryz.ntmps76
  go_wp2_with (go_at_call 92; refine (shelf_stringslite_Clone s _ hlim).mono ?_; rintro _ w1 ⟨rfl, hb⟩)
  go_ret
  exact ⟨rfl, hb⟩

set_option maxRecDepth 100000 in
set_option maxHeartbeats 4000000 in
theorem prog_answersTo (w : World) (g : Nat) (d : Dv) (cur : ByteArray) (fin : List UInt8 × Dv) (HF : Hid (fin = feedF (cur.size + 1) d cur.data.toList)) (h : PdAt w g d) (f : d.fit) (ok : d.ok) (hG : ∀ w', w.grownBy w' (some g) → Glob w') (hs : cur.size < 2000000) :
    Calls Tryz.prog 54 #[.pointer (some ⟨g, 0, none⟩), .string cur] w fun r w' => r = .returned (.string (str fin.1)) ∧ PdAt w' g fin.2 ∧ w.grownBy w' (some g) := by
  have hgl := h.lt
  have A0 : CutAt w g w.heap.size d.inn fin (cur.size + 1) d cur [] (w.alloc (.cells #[.pointer none, .slice none 0 0] 127)) :=
    ⟨h.below ((Below.refl _ _).alloc (Nat.le_refl _) _) h.lt, f, ok, by omega, by rw [HF.out]; rfl, by simp only [List.length_nil]; omega, grown_alloc (World.grownBy.refl _ _) _, Lib.fresh_isBuilder _ _ w⟩
  go_enter Tryz.func54, Tryz.ntmps54
  go_wp2
  go_loopw [1] (fun cv wr => ∃ (n : Nat) (e : Dv) (come : ByteArray) (out : List UInt8), cv = .string come ∧ CutAt w g w.heap.size d.inn fin n e come out wr) (fun cv _ => strLen cv)
  case atStart => exact ⟨_, _, _, _, rfl, A0⟩
  case round =>
    obtain ⟨n1, e1, c1, out1, rfl, A1⟩ := hrel
    clear A0
    go_wp2
    refine wp_scope_label 0 (fun a' w' => ∃ (n : Nat) (e : Dv) (come : ByteArray) (out : List UInt8) (u4 u6 u7 u8 u9 u10 u11 u12 u13 u14 u15 u16 u17 u18 u19 u20 u21 u22 u23 u24 u25 u26 u27 u28 u29 u30 u31 u32 u33 u34 u35 u36 u37 u38 u39 u40 u41 u42 u43 u44 u45 u46 : Value), a' = Act.mk (List.toArray (.pointer (some ⟨g, 0, none⟩) :: .string come :: undef :: undef :: u4 :: .pointer (some ⟨w.heap.size, 0, none⟩) :: u6 :: u7 :: u8 :: u9 :: u10 :: u11 :: u12 :: u13 :: u14 :: u15 :: u16 :: u17 :: u18 :: u19 :: u20 :: u21 :: u22 :: u23 :: u24 :: u25 :: u26 :: u27 :: u28 :: u29 :: u30 :: u31 :: u32 :: u33 :: u34 :: u35 :: u36 :: u37 :: u38 :: u39 :: u40 :: u41 :: u42 :: u43 :: u44 :: u45 :: u46 :: [])) [] ∧ CutAt w g w.heap.size d.inn fin n e come out w' ∧ come.size ≤ c1.size) (fun a' _ => strLen (a'.tmps.getD 1 undef)) ⟨n1, e1, c1, out1, _, _, _, _, _, _, _, _, _, _, _, _, _, _, _, _, _, _, _, _, _, _, _, _, _, _, _, _, _, _, _, _, _, _, _, _, _, _, _, _, _, _, rfl, A1, Nat.le_refl _⟩ ?_
    clear A1
    rintro _ wp ⟨n, e, c2, out, u4, u6, u7, u8, u9, u10, u11, u12, u13, u14, u15, u16, u17, u18, u19, u20, u21, u22, u23, u24, u25, u26, u27, u28, u29, u30, u31, u32, u33, u34, u35, u36, u37, u38, u39, u40, u41, u42, u43, u44, u45, u46, rfl, A2, hle⟩
    go_wp2
    go_loopw [1] (fun cv ws => ∃ come : ByteArray, cv = .string come ∧ CutAt w g w.heap.size d.inn fin n e come out ws ∧ come.size ≤ c2.size) (fun cv _ => strLen cv)
    case atStart => exact ⟨_, rfl, A2, Nat.le_refl _⟩
    case round =>
      obtain ⟨come, rfl, A, hle2⟩ := hrel
      clear A2
      by_cases h0 : come.size = 0
      · have hsk : Hid (come.data.toList = [] ∨ (bytesI come.data.toList).getD 0 0 = 165) := .inl (by obtain rfl := empty_of_size h0; rfl)
        have hfe := prog_frameEnd_short wr come (by omega)
        have HW : Hid (fin = (out, e.inB come)) := A.wait hsk.out (.inl (by omega))
        have hcl : come.size ≤ 281474976710656 := by omega
        clear hle2
        obtain rfl := empty_of_size h0
        go_wp2_with (first | (go_at_call 73; refine hfe.mono ?_; rintro _ _ ⟨rfl, rfl⟩) | (go_at_call 76; refine (prog_Clone _ _ hcl).mono ?_; rintro _ w2 ⟨rfl, hb2⟩; have A3 := A.below hgl hb2; clear hb2; have cc := A3.at_.cc (inB_fit A3.fit _); have fz := Row.frozen A3.at_ 201) | (go_at_call 77; refine (shelf_Builder_String_any w.heap.size w.heap.size out _ (IsBuilder.grownE A3.bld (grown_set (World.grownBy.refl _ _) 201 _) hgl) (by rw [size_setCell]; exact A3.grown.size)).mono ?_; rintro _ w4 ⟨rfl, hb4⟩))
        refine jump_ret_of ?_
        go_wp2
        go_ret
        have hd4 := Row.below (PdAt.setc A3.at_ (inB_fit A3.fit _) _) hb4 hgl
        refine ⟨by rw [HW.out]; rfl, ?_, below_grownE (grown_set A3.grown 201 _) hb4⟩
        rw [HW.out]
        exact hd4
      · have hne := toList_ne_nil h0
        have hby := byte_at (s := come) (i := 0) (by omega)
        have hal := A.len
        have har := A.room
        by_cases h165 : (bytesI come.data.toList).getD 0 0 = 165
        · have hsk : Hid (come.data.toList = [] ∨ (bytesI come.data.toList).getD 0 0 = 165) := .inr h165
          rw [h165] at hby
          have hcl : come.size ≤ 281474976710656 := by omega
          clear h165
          by_cases h2 : come.size < 2
          · have hfe := prog_frameEnd_short wr come h2
            have HW : Hid (fin = (out, e.inB come)) := A.wait hsk.out (.inl h2)
            go_wp2_with (first | (go_at_call 73; refine hfe.mono ?_; rintro _ _ ⟨rfl, rfl⟩) | (go_at_call 76; refine (prog_Clone _ _ hcl).mono ?_; rintro _ w2 ⟨rfl, hb2⟩; have A3 := A.below hgl hb2; clear hb2; have cc := A3.at_.cc (inB_fit A3.fit _); have fz := Row.frozen A3.at_ 201) | (go_at_call 77; refine (shelf_Builder_String_any w.heap.size w.heap.size out _ (IsBuilder.grownE A3.bld (grown_set (World.grownBy.refl _ _) 201 _) hgl) (by rw [size_setCell]; exact A3.grown.size)).mono ?_; rintro _ w4 ⟨rfl, hb4⟩))
            refine jump_ret_of ?_
            go_wp2
            go_ret
            have hd4 := Row.below (PdAt.setc A3.at_ (inB_fit A3.fit _) _) hb4 hgl
            refine ⟨by rw [HW.out]; rfl, ?_, below_grownE (grown_set A3.grown 201 _) hb4⟩
            rw [HW.out]
            exact hd4
          · by_cases h48 : 48 < fLen come.data.toList
            · have hfe := prog_frameEnd_long wr come h2 h48
              have HNW : Hid (¬ (come.size < 2 ∨ (fLen come.data.toList ≤ 48 ∧ come.size < fLen come.data.toList + 4))) := by show ¬ _; omega
              have HB : Hid (48 < fLen come.data.toList ∨ ¬ (1 + sumB ((come.data.toList.drop 1).take (fLen come.data.toList + 2))) % 256 = (bytesI come.data.toList).getD (fLen come.data.toList + 3) 0) := .inl h48
              have hs1 : (1 : Int) ≤ come.size := by omega
              clear h48
              go_wp2_with (first | (go_at_call 73; refine hfe.mono ?_; rintro _ _ ⟨rfl, rfl⟩) | (go_at_call 75; refine (prog_answerOf _ 1 ⟨#[]⟩ (by omega) (by omega) (by decide)).mono ?_; rintro _ w2 ⟨rfl, hb2⟩; have A3 := A.below hgl hb2; clear hb2) | (go_at_call 74; refine (prog_WriteString w.heap.size w.heap.size (Lib.byteCells out) _ _ A3.bld (by rw [Lib.byteCells_length, str_size, told_length]; simp only [List.length_nil]; omega) A3.grown.size).mono ?_; rintro _ w3 ⟨rfl, hb3, hbl3⟩))
              go_step3
              have hbx := (Or.inr hb3 : Lib.IsBuilder 127 5 w.heap.size w.heap.size _ w3)
              rw [byteCells_app] at hbx
              refine ⟨rfl, ⟨n - 1, e, _, _, _, _, _, _, _, _, _, _, _, _, _, _, _, _, _, _, _, _, _, _, _, _, _, _, _, _, _, _, _, _, _, _, _, _, _, _, _, _, _, _, _, _, rfl, A3.bad hsk.out HNW.out HB.out (A3.at_.below hbl3 hgl) (below_grownE A3.grown hbl3) hbx, by rw [ByteArray.size_extract]; omega⟩, ?_⟩
              show strLen (.string (come.extract 1 come.size)) < strLen (.string c2)
              simp only [strLen, ByteArray.size_extract]
              omega
            · by_cases hfw : come.size < fLen come.data.toList + 4
              · have hfe := prog_frameEnd_wait wr come h2 (by omega) hfw
                have HW : Hid (fin = (out, e.inB come)) := A.wait hsk.out (.inr ⟨by omega, hfw⟩)
                clear h48 hfw
                go_wp2_with (first | (go_at_call 73; refine hfe.mono ?_; rintro _ _ ⟨rfl, rfl⟩) | (go_at_call 76; refine (prog_Clone _ _ hcl).mono ?_; rintro _ w2 ⟨rfl, hb2⟩; have A3 := A.below hgl hb2; clear hb2; have cc := A3.at_.cc (inB_fit A3.fit _); have fz := Row.frozen A3.at_ 201) | (go_at_call 77; refine (shelf_Builder_String_any w.heap.size w.heap.size out _ (IsBuilder.grownE A3.bld (grown_set (World.grownBy.refl _ _) 201 _) hgl) (by rw [size_setCell]; exact A3.grown.size)).mono ?_; rintro _ w4 ⟨rfl, hb4⟩))
                refine jump_ret_of ?_
                go_wp2
                go_ret
                have hd4 := Row.below (PdAt.setc A3.at_ (inB_fit A3.fit _) _) hb4 hgl
                refine ⟨by rw [HW.out]; rfl, ?_, below_grownE (grown_set A3.grown 201 _) hb4⟩
                rw [HW.out]
                exact hd4
              · have hfe := prog_frameEnd_whole wr come h2 (by omega) hfw
                have HNW : Hid (¬ (come.size < 2 ∨ (fLen come.data.toList ≤ 48 ∧ come.size < fLen come.data.toList + 4))) := by show ¬ _; omega
                have hs1 : (1 : Int) ≤ come.size := by omega
                by_cases hbad : (1 + sumB ((come.data.toList.drop 1).take (fLen come.data.toList + 2))) % 256 = (bytesI come.data.toList).getD (fLen come.data.toList + 3) 0
                · have HNB : Hid (¬ (48 < fLen come.data.toList ∨ ¬ (1 + sumB ((come.data.toList.drop 1).take (fLen come.data.toList + 2))) % 256 = (bytesI come.data.toList).getD (fLen come.data.toList + 3) 0)) := by show ¬ _; exact fun e => e.elim h48 (fun k => k hbad)
                  rw [decide_eq_false (fun k => k hbad)] at hfe
                  clear hbad
                  have h2c : 2 < come.size := by omega
                  have hby2 := byte_at h2c
                  obtain ⟨fl, HFL⟩ : ∃ fl, Hid (fl = fLen come.data.toList) := ⟨_, rfl⟩
                  have hfl : fl + 4 ≤ come.size := by rw [HFL.out]; omega
                  have hfl48 : fl ≤ 48 := by rw [HFL.out]; omega
                  have hfl' : (fl : Int) + 4 ≤ come.size := by omega
                  rw [← HFL.out] at hfe
                  have HP : Hid (come.extract 3 (fl + 3) = str ((come.data.toList.drop 3).take fl)) := by show _ = _; rw [← list_str (come.extract 3 (fl + 3)), extL2]; rfl
                  have hK := getD_isB (bytesI_B come.data.toList) 2
                  obtain ⟨kk, HK⟩ : ∃ kk, Hid (kk = (bytesI come.data.toList).getD 2 0) := ⟨_, rfl⟩
                  rw [← HK.out] at hby2 hK
                  obtain ⟨pl, HPL⟩ : ∃ pl, Hid (pl = come.extract 3 (fl + 3)) := ⟨_, rfl⟩
                  have hpl : pl.size < 100000 := by rw [HPL.out, ByteArray.size_extract]; omega
                  have hpx : come.extract 3 (fl + 3) = pl := HPL.out.symm
                  clear h48 hfw
                  go_wp2_with (first | (go_at_call 73; refine hfe.mono ?_; rintro _ wz ⟨rfl, nz, hz⟩; have A3 : CutAt w g w.heap.size d.inn fin n e come out wz := (by rw [hz]; exact A.below hgl (below_drewN (Below.refl _ _) _)); clear hz A hfe))
                  have A4 : CutAt w g w.heap.size d.inn fin n e come out wz.drew := A3.below hgl (Below.refl _ _).drew
                  obtain ⟨c, HC⟩ : ∃ c, Hid (c = e.command kk pl) := ⟨_, rfl⟩
                  have hob : Calls Tryz.prog 78 #[.pointer (some ⟨g, 0, none⟩), .int .u8 kk, .string pl] wz.drew fun r w' => r = .returned (.string (str (told c.2.1 c.2.2))) ∧ PdAt w' g (c.1.inB d.inn) ∧ wz.drew.grownBy w' (some g) := by
                    have := prog_obeyD wz.drew g (e.inB d.inn) kk pl A4.at_ (inB_fit A4.fit _) (inB_ok A4.ok _) (hG _ A4.grown) hpl
                    rw [Dv.command_inB, ← HC.out] at this
                    exact this
                  have HCM : Hid (c = e.command ((bytesI come.data.toList).getD 2 0) (str ((come.data.toList.drop 3).take (fLen come.data.toList)))) := by show _ = _; rw [HC.out, HK.out, HPL.out, HP.out, HFL.out]
                  have HCL : Hid (c.2.2.length ≤ 32) := by show _ ≤ _; rw [HC.out]; exact (Dv.command_len e kk pl).1
                  have h2i : (2 : Int) < come.size := by omega
                  have hwr : IntKind.i64.wrap ((fl : Int) + 4 - 1) = (fl : Int) + 3 := by rw [IntKind.wrap_i64]; omega
                  have hpx' : come.extract 3 ((fl : Int) + 3).toNat = pl := by rw [← hpx]; congr 1
                  have hb3 : (3 : Int) ≤ (fl : Int) + 3 := by omega
                  have hb4 : (fl : Int) + 3 ≤ come.size := by omega
                  have hb0 : (0 : Int) ≤ (fl : Int) + 3 := by omega
                  go_region_with (first | (go_at_call 78; refine hob.mono ?_; rintro _ w3 ⟨rfl, hd3, hg3⟩) | (go_at_call 74; refine (prog_WriteString w.heap.size w.heap.size (Lib.byteCells out) _ _ (IsBuilder.grownE A4.bld hg3 hgl) (by have := HCL.out; rw [Lib.byteCells_length, str_size, told_length]; omega) (Nat.le_trans A4.grown.size hg3.size)).mono ?_; rintro _ w5 ⟨rfl, hb5, hbl5⟩))
                  go_wp2
                  refine jump_normal_of ?_
                  have hbx := (Or.inr hb5 : Lib.IsBuilder 127 5 w.heap.size w.heap.size _ w5)
                  rw [byteCells_app] at hbx
                  have AF := A4.cmd hsk.out HNW.out HNB.out HCM.out (hd3.below hbl5 hgl) (below_grownE (A4.grown.trans hg3) hbl5) hbx
                  rw [← HFL.out] at AF
                  go_wp2
                  refine ⟨⟨_, _, _, _, rfl, AF⟩, ?_⟩
                  simp only [strLen, ByteArray.size_extract]
                  omega
                · have HB : Hid (48 < fLen come.data.toList ∨ ¬ (1 + sumB ((come.data.toList.drop 1).take (fLen come.data.toList + 2))) % 256 = (bytesI come.data.toList).getD (fLen come.data.toList + 3) 0) := .inr hbad
                  rw [decide_eq_true hbad] at hfe
                  clear hbad h48
                  go_wp2_with (first | (go_at_call 73; refine hfe.mono ?_; rintro _ wz ⟨rfl, nz, hz⟩; have AZ : CutAt w g w.heap.size d.inn fin n e come out wz := (by rw [hz]; exact A.below hgl (below_drewN (Below.refl _ _) _)); clear hz) | (go_at_call 75; refine (prog_answerOf _ 1 ⟨#[]⟩ (by omega) (by omega) (by decide)).mono ?_; rintro _ w2 ⟨rfl, hb2⟩; have A3 := AZ.below hgl hb2; clear hb2) | (go_at_call 74; refine (prog_WriteString w.heap.size w.heap.size (Lib.byteCells out) _ _ A3.bld (by rw [Lib.byteCells_length, str_size, told_length]; simp only [List.length_nil]; omega) A3.grown.size).mono ?_; rintro _ w3 ⟨rfl, hb3, hbl3⟩))
                  go_step3
                  have hbx := (Or.inr hb3 : Lib.IsBuilder 127 5 w.heap.size w.heap.size _ w3)
                  rw [byteCells_app] at hbx
                  refine ⟨rfl, ⟨n - 1, e, _, _, _, _, _, _, _, _, _, _, _, _, _, _, _, _, _, _, _, _, _, _, _, _, _, _, _, _, _, _, _, _, _, _, _, _, _, _, _, _, _, _, _, _, rfl, A3.bad hsk.out HNW.out HB.out (A3.at_.below hbl3 hgl) (below_grownE A3.grown hbl3) hbx, by rw [ByteArray.size_extract]; omega⟩, ?_⟩
                  show strLen (.string (come.extract 1 come.size)) < strLen (.string c2)
                  simp only [strLen, ByteArray.size_extract]
                  omega
        · have AP := A.pass (by omega) h165
          generalize (bytesI come.data.toList).getD 0 0 = x at *
          have hs1 : (1 : Int) ≤ come.size := by omega
          go_wp2
          exact ⟨⟨_, rfl, AP, by rw [ByteArray.size_extract]; omega⟩, by simp only [strLen, ByteArray.size_extract]; omega⟩

set_option maxRecDepth 100000 in
set_option maxHeartbeats 1000000 in
/-- Feed, by the document's device -/
theorem prog_Feed (w : World) (g : Nat) (d : Dv) (s : ByteArray) (h : PdAt w g d) (f : d.fit) (ok : d.ok) (hG : ∀ w', w.grownBy w' (some g) → Glob w') (hs : d.inn.size + s.size < 2000000) :
    Calls Tryz.prog 27 #[.pointer (some ⟨g, 0, none⟩), .string s] w fun r w' => r = .returned (.string (str (feedF ((d.inn ++ s).size + 1) d (d.inn ++ s).data.toList).1)) ∧ PdAt w' g (feedF ((d.inn ++ s).size + 1) d (d.inn ++ s).data.toList).2 ∧ w.grownBy w' (some g) := by
  obtain ⟨fin, HF⟩ : ∃ fin, Hid (fin = feedF ((d.inn ++ s).size + 1) d (d.inn ++ s).data.toList) := ⟨_, rfl⟩
  rw [← HF.out]
  have hc := prog_answersTo w g d (d.inn ++ s) fin HF h f ok hG (by rw [ByteArray.size_append]; exact hs)
  have cc := h.cc f
  have hs9 : d.inn.size + s.size ≤ 9223372036854775807 := by omega
  clear HF
  go_enter Tryz.func27, Tryz.ntmps27
  go_wp2_with (go_at_call 54; refine hc.mono ?_; rintro _ w1 ⟨rfl, hd1, hg1⟩)
  go_ret
  exact ⟨rfl, hd1, hg1⟩

set_option maxRecDepth 100000 in
/-- Flash, by the document's device -/
theorem prog_Flash (w : World) (g : Nat) (d : Dv) (h : PdAt w g d) (f : d.fit) :
    Calls Tryz.prog 30 #[.pointer (some ⟨g, 0, none⟩)] w fun r w' => r = .returned (.string (d.h0 ++ d.h1)) ∧ Below w.heap.size w w' := by
  have e : str (Bs d.h0 ++ Bs d.h1) = d.h0 ++ d.h1 := by
    rw [← list_str (d.h0 ++ d.h1), ByteArray.data_append, Array.toList_append]
  have hc := prog_text w g (Bs d.h0 ++ Bs d.h1) (fit_len f) (dev_range h)
  rw [e] at hc
  go_enter Tryz.func30, Tryz.ntmps30
  go_wp2_with (go_at_call 57; refine hc.mono ?_; rintro _ w1 ⟨rfl, hb1⟩)
  go_ret
  exact ⟨rfl, hb1⟩
end Go.Proofs.YteebdelngddceaaGreatDoor

namespace Go.Proofs.YteebdelngddceaaGreatDoor
open Go.RowKit

theorem struct_of {u : Option TypeDesc} (h : (match u with | some (.struct _) => true | _ => false) = true) : ∃ fs, u = some (.struct fs) := by
  split at h
  · exact ⟨_, rfl⟩
  · cases h
theorem underOp0 : (match Tryz.prog.underlying 36 with | some (.struct _) => true | _ => false) = true := by kernel_rfl
theorem underOp : ∃ fs, Tryz.prog.underlying 36 = some (.struct fs) := struct_of underOp0
theorem sizeOp : (Tryz.prog.info? 36).map (·.size) = some 20 := by kernel_rfl
theorem wpList_loadOp {ops : Array Oper} {rest : List Oper} {o : Oper} {a : Act} {w : World} {Q : Exit → Act → World → Prop} (hgd : o.guard = none) (x : Operand) (ho : o.op = .load 36 x) (g : Nat) (hx : a.eval x = .pointer (some ⟨g, 0, none⟩)) (t : TypeId) (cs : List Value)
    (hr : Row w g cs t) (hn : cs.length = 20) (h : wpList Tryz.prog ops Q rest (a.put o.dst (.agg cs.toArray)) w) : wpList Tryz.prog ops Q (o :: rest) a w := by
  obtain ⟨fs, hu⟩ := underOp
  exact wpList_plain hgd fun _ hK => wp_load_row 36 x ho g hx t cs.toArray (0, 0) _ hr hu rfl (by rw [sizeOp]; simp [hn]) (hK _ _ h)

/-- what lies in memory between two steps -/
structure PlayAt (w0 : World) (g gs : Nat) (w : World) : Prop where
  c0 : w.cell? ⟨g, 0, none⟩ = some (.pointer (some ⟨gs, 0, none⟩))
  c1 : w.cell? ⟨g, 1, none⟩ = some (.slice none 0 0)
  summ : Summ w gs
  glob : Glob w
  below : Below w0.heap.size w0 w
theorem PlayAt.next {w0 : World} {g gs : Nat} {w w' : World} (h : PlayAt w0 g gs w) (hb : Below w.heap.size w w') : PlayAt w0 g gs w' :=
  ⟨(hb.cell (p := ⟨g, 0, none⟩) (World.block_lt_of_cell? _ _ h.c0)).trans h.c0, (hb.cell (p := ⟨g, 1, none⟩) (World.block_lt_of_cell? _ _ h.c1)).trans h.c1, h.summ.below hb (Nat.le_refl _), h.glob.below hb (Nat.le_refl _), h.below.trans (hb.mono h.below.size)⟩
end Go.Proofs.YteebdelngddceaaGreatDoor

namespace Go.Proofs.YteebdelngddceaaGreatDoor
open Go.RowKit

theorem alloc_size (W : World) (o : Obj) : (W.alloc o).heap.size = W.heap.size + 1 := Array.size_push ..

/-- which of n things the number c speaks of -/
def pickN (c : Int) (n : Nat) : Nat := ((if c < 0 then -(c + 1) else c) % n).toNat
theorem pickN_lt (c : Int) {n : Nat} (hn : 0 < n) : pickN c n < n := by
  unfold pickN
  generalize (if c < 0 then -(c + 1) else c) = z
  have := Int.emod_lt_of_pos z (show (0 : Int) < n by omega)
  have := Int.emod_nonneg z (show (n : Int) ≠ 0 by omega)
  omega

set_option maxRecDepth 100000 in
theorem law_pick (c : Int) (n : Nat) (w : World) (hc0 : -9223372036854775808 ≤ c) (hc1 : c ≤ 9223372036854775807) (hn : 0 < n) (hn1 : n ≤ 100000) :
    Calls Tryz.prog 26 #[.int .i64 c, .int .i64 n] w fun r w' => r = .returned (.int .i64 (pickN c n)) ∧ w' = w := by
  have hn' : ¬ (n : Int) = 0 := by omega
  by_cases h : c < 0
  · have e : -(c + 1).tmod n = (pickN c n : Int) := by
      unfold pickN
      rw [if_pos h, ← Int.neg_tmod, Int.tmod_eq_emod_of_nonneg (by omega)]
      have := Int.emod_nonneg (-(c + 1)) hn'
      omega
    have E : Hid (-(c + 1).tmod n = (pickN c n : Int)) := e
    clear e
    go_enter Tryz.func26, Tryz.ntmps26
    go_wp2
    go_ret
    refine ⟨?_, rfl⟩
    rw [E.out]
    rfl
  · have e : c % n = (pickN c n : Int) := by
      unfold pickN
      rw [if_neg h]
      have := Int.emod_nonneg c hn'
      omega
    have E : Hid (c % n = (pickN c n : Int)) := e
    clear e
    go_enter Tryz.func26, Tryz.ntmps26
    go_wp2
    go_ret
    refine ⟨?_, rfl⟩
    rw [E.out]
    rfl

set_option maxRecDepth 100000 in
set_option maxHeartbeats 1000000 in
theorem law_frame (k : Nat) (p : ByteArray) (w : World) (hk : k < 256) (hp : p.size ≤ 50) :
    Calls Tryz.prog 29 #[.int .i64 k, .string p] w fun r w' => ∃ fr : ByteArray, r = .returned (.string fr) ∧ fr.size ≤ 54 ∧ Below w.heap.size w w' := by
  have hpn : p.size ≤ 9223372036854775807 := by omega
  go_enter Tryz.func29, Tryz.ntmps29
  go_wp2
  go_loopw [5, 6] (fun nv iv wr => ∃ (m : Int) (i : Nat), nv = .int .i64 m ∧ iv = .int .i64 i ∧ i ≤ p.size ∧ wr = w) (fun _ iv _ => p.size - (intOf iv).toNat)
  case atStart => exact ⟨_, 0, rfl, rfl, Nat.zero_le _, rfl⟩
  case round =>
    obtain ⟨m, i, rfl, rfl, hi, rfl⟩ := hrel
    by_cases hlt : i < p.size
    · have hlt' : (i : Int) < p.size := by omega
      have hby := byte_at hlt
      go_wp2
      refine ⟨⟨_, i + 1, rfl, by go_num, by omega, trivial⟩, by simp [intOf]; omega⟩
    · have hlt' : ¬ (i : Int) < p.size := by omega
      have h2 := fun (W : World) a b => conv2 W a b W.heap.size rfl
      have h1 := fun a b c => conv1 (wr.alloc (.cells #[.int .u8 a, .int .u8 b] 5)) c (wr.heap.size + 1) (alloc_size _ _).symm
      have e2 : ∀ a b, (strOfNums [a, b]).size = 2 := fun _ _ => rfl
      have e1 : ∀ a, (strOfNums [a]).size = 1 := fun _ => rfl
      go_wp2
      go_ret
      refine ⟨_, rfl, ?_, ?_⟩
      · simp only [ByteArray.size_append, e2, e1]
        show 1 + 2 + p.size + 1 ≤ 54
        omega
      · exact ((Below.refl _ _).alloc (Nat.le_refl _) _).alloc (by rw [alloc_size]; omega) _
end Go.Proofs.YteebdelngddceaaGreatDoor
